/-
  Packets under way, as lists: whether their numbers rise, their bytes, which are taken by spans, which are lost, when the next one will be, and whether they were lost for long; what of this the statements of layer 9 ask. No condition: nothing of the program is named here.
-/
import Derived.Test.YthdhcppgpnnccaaSpM
import Derived.Test.YthdhcppgpnnccaaFixMath
set_option linter.unusedVariables false
namespace Wig
/-- A packet. -/
structure Snt where
  num : Nat
  at_ : Nat
  size : Nat
  probe : Bool
deriving DecidableEq
def Snt.Ok (x : Snt) : Prop := x.num < 18446744073709551616 ∧ x.at_ < 18446744073709551616 ∧ x.size < 18446744073709551616
def TFits (l : List Snt) : Prop := ∀ x ∈ l, x.Ok
theorem TFits.filter {l : List Snt} (h : TFits l) (p : Snt → Bool) : TFits (l.filter p) := fun x hx => h x (List.mem_filter.1 hx).1
theorem fadd_lt' (a b : Nat) : fadd a b < 18446744073709551616 := by unfold fadd; split <;> omega

/-! ### Numbers that rise -/
def tcheck : List Snt → Bool
  | x :: y :: l => decide (x.num < y.num) && tcheck (y :: l)
  | _ => true
theorem tcheck_iff : ∀ l : List Snt, tcheck l = true ↔ ∀ (i : Nat) (x y : Snt), l[i]? = some x → l[i + 1]? = some y → x.num < y.num
  | [] => by simp [tcheck]
  | [x] => by simp [tcheck]
  | x :: y :: l => by
    unfold tcheck
    rw [Bool.and_eq_true, decide_eq_true_eq, tcheck_iff (y :: l)]
    constructor
    · rintro ⟨h0, h⟩ i a b ha hb
      cases i with
      | zero => simp at ha hb; subst ha hb; exact h0
      | succ i => exact h i a b (by simpa using ha) (by simpa using hb)
    · intro h
      exact ⟨h 0 x y rfl rfl, fun i a b ha hb => h (i + 1) a b (by simpa using ha) (by simpa using hb)⟩
theorem tcheck_pair : ∀ l : List Snt, tcheck l = true ↔ l.Pairwise fun x y => x.num < y.num
  | [] => by simp [tcheck]
  | [x] => by simp [tcheck]
  | x :: y :: l => by
    unfold tcheck
    rw [Bool.and_eq_true, decide_eq_true_eq, tcheck_pair (y :: l), List.pairwise_cons (a := x)]
    constructor
    · rintro ⟨h0, h⟩
      refine ⟨fun z hz => ?_, h⟩
      rcases List.mem_cons.1 hz with rfl | hz
      · exact h0
      · exact Nat.lt_trans h0 ((List.pairwise_cons.1 h).1 z hz)
    · rintro ⟨h0, h⟩
      exact ⟨h0 y (by simp), h⟩
theorem tcheck_filter {l : List Snt} (h : tcheck l = true) (p : Snt → Bool) : tcheck (l.filter p) = true :=
  (tcheck_pair _).2 (((tcheck_pair l).1 h).filter p)

/-! ### Bytes -/
def tflight (l : List Snt) : Nat := l.foldl (fun a x => fadd a x.size) 0
theorem tflight_lt (l : List Snt) : tflight l < 18446744073709551616 := by
  unfold tflight
  suffices h : ∀ (l : List Snt) (a : Nat), a < 18446744073709551616 → l.foldl (fun a x => fadd a x.size) a < 18446744073709551616 from h l 0 (by decide)
  intro l
  induction l with
  | nil => exact fun a h => h
  | cons x l ih => exact fun a _ => ih _ (fadd_lt' _ _)
theorem tflight_take {l : List Snt} {k : Nat} {x : Snt} (h : l[k]? = some x) : tflight (l.take (k + 1)) = fadd (tflight (l.take k)) x.size := by
  unfold tflight
  rw [List.take_add_one, h, Option.toList_some, List.foldl_append]
  rfl
def tbytes (l : List Snt) : Nat := (l.map (·.size)).sum
theorem tflight_sum {l : List Snt} (h : tbytes l < 18446744073709551616) : tflight l = tbytes l := by
  suffices g : ∀ (l : List Snt) (a : Nat), a + tbytes l < 18446744073709551616 → l.foldl (fun a x => fadd a x.size) a = a + tbytes l by
    have := g l 0 (by omega)
    unfold tflight
    omega
  intro l
  induction l with
  | nil => exact fun a _ => by simp [tbytes]
  | cons x l ih =>
    intro a ha
    have e : tbytes (x :: l) = x.size + tbytes l := by simp [tbytes]
    rw [e] at ha ⊢
    rw [List.foldl_cons, show fadd a x.size = a + x.size by unfold fadd; rw [if_pos (by omega)], ih (a + x.size) (by omega)]
    omega
theorem tbytes_le {l : List Snt} {m : Nat} (h : ∀ x ∈ l, x.size ≤ m) : tbytes l ≤ l.length * m := by
  induction l with
  | nil => simp [tbytes]
  | cons x l ih =>
    have e : tbytes (x :: l) = x.size + tbytes l := by simp [tbytes]
    have h1 := h x (by simp)
    have h2 := ih fun y hy => h y (by simp [hy])
    rw [e, List.length_cons, Nat.add_mul]
    omega
theorem part_len (l : List Snt) (p : Snt → Bool) : (l.filter p).length + (l.filter fun x => !p x).length = l.length := by
  induction l with
  | nil => rfl
  | cons x l ih => cases h : p x <;> simp [h] <;> omega
theorem part_bytes (l : List Snt) (p : Snt → Bool) : tbytes (l.filter p) + tbytes (l.filter fun x => !p x) = tbytes l := by
  induction l with
  | nil => rfl
  | cons x l ih =>
    simp only [tbytes] at ih
    cases h : p x <;> simp [h, tbytes] <;> omega
/-- Parts of a ledger of small packets have all its bytes. -/
theorem part_flight {l : List Snt} (p : Snt → Bool) (hl : l.length ≤ 50) (hs : ∀ x ∈ l, x.size ≤ 4294967296) :
    tflight (l.filter p) + tflight (l.filter fun x => !p x) = tflight l ∧ tflight l < 1099511627776 := by
  have h1 := tbytes_le hs
  have h2 := part_bytes l p
  have h3 : l.length * 4294967296 ≤ 50 * 4294967296 := Nat.mul_le_mul_right _ hl
  rw [tflight_sum (by omega), tflight_sum (by omega), tflight_sum (by omega)]
  omega
theorem filter_le {l : List Snt} {p q : Snt → Bool} (h : ∀ x ∈ l, p x = true → q x = true) : (l.filter p).length ≤ (l.filter q).length := by
  induction l with
  | nil => simp
  | cons x l ih =>
    have ih' := ih fun y hy => h y (by simp [hy])
    have hx := h x (by simp)
    cases hp : p x with
    | true => simp [hp, hx hp]; omega
    | false => cases hq : q x <;> simp [hp, hq] <;> omega
theorem filter_again (l : List Snt) (p : Snt → Bool) : (l.filter p).filter p = l.filter p := by rw [List.filter_filter]; congr 1; funext x; simp
theorem filter_other (l : List Snt) (p : Snt → Bool) : (l.filter fun x => !p x).filter p = [] := by rw [List.filter_filter]; exact List.filter_eq_nil_iff.2 fun x _ => by cases p x <;> simp
theorem filter_other' (l : List Snt) (p : Snt → Bool) : (l.filter p).filter (fun x => !p x) = [] := by rw [List.filter_filter]; exact List.filter_eq_nil_iff.2 fun x _ => by cases p x <;> simp
theorem filter_not (l : List Snt) (p : Snt → Bool) : (l.filter fun x => !p x).filter (fun x => !p x) = l.filter fun x => !p x := filter_again l _
theorem filter_take_yes {l : List Snt} {p : Snt → Bool} {k : Nat} {x : Snt} (h : l[k]? = some x) (hp : p x = true) : (l.take (k + 1)).filter p = (l.take k).filter p ++ [x] := by
  rw [List.take_add_one, h, Option.toList_some, List.filter_append]; simp [hp]
theorem filter_take_no {l : List Snt} {p : Snt → Bool} {k : Nat} {x : Snt} (h : l[k]? = some x) (hp : p x = false) : (l.take (k + 1)).filter p = (l.take k).filter p := by
  rw [List.take_add_one, h, Option.toList_some, List.filter_append]; simp [hp]

/-! ### Which are taken -/
def tin (s : List Spn) (x : Snt) : Bool := shas s x.num

/-! ### Which are lost -/
def tback (next : Nat) (x : Snt) : Bool := decide (fadd x.num 1 < next)
def tend (late : Nat) (x : Snt) : Nat := fadd x.at_ late
def tlost (next now late : Nat) (x : Snt) : Bool := tback next x && (decide (fadd x.num 4 ≤ next) || decide (tend late x ≤ now))
/-- Behind, and not lost. -/
def twait (next now late : Nat) (x : Snt) : Bool := tback next x && !tlost next now late x
def tleast (o : Option Nat) (e : Nat) : Option Nat := match o with
  | none => some e
  | some t => some (min t e)
def twhenO (next now late : Nat) (l : List Snt) : Option Nat := l.foldl (fun o x => if twait next now late x = true then tleast o (tend late x) else o) none
/-- When the next one will be lost. -/
def twhen (next now late : Nat) (l : List Snt) : Nat := (twhenO next now late l).getD 0
theorem twhenO_take {next now late : Nat} {l : List Snt} {k : Nat} {x : Snt} (h : l[k]? = some x) :
    twhenO next now late (l.take (k + 1)) = if twait next now late x = true then tleast (twhenO next now late (l.take k)) (tend late x) else twhenO next now late (l.take k) := by
  unfold twhenO
  rw [List.take_add_one, h, Option.toList_some, List.foldl_append]
  rfl
/-- What an answer of that kind is. -/
def TWhen (next now late : Nat) (l : List Snt) (o : Option Nat) : Prop := match o with
  | none => ∀ x ∈ l, twait next now late x = false
  | some t => (∃ x ∈ l, twait next now late x = true ∧ tend late x = t) ∧ ∀ x ∈ l, twait next now late x = true → t ≤ tend late x
theorem twhenO_spec (next now late : Nat) (l : List Snt) : TWhen next now late l (twhenO next now late l) := by
  suffices h : ∀ (l m : List Snt) (o : Option Nat), TWhen next now late m o → TWhen next now late (m ++ l) (l.foldl (fun o x => if twait next now late x = true then tleast o (tend late x) else o) o) from h l [] none (fun x hx => by cases hx)
  intro l
  induction l with
  | nil => intro m o h; simpa using h
  | cons x l ih =>
    intro m o h
    rw [List.foldl_cons, show m ++ x :: l = (m ++ [x]) ++ l by simp]
    refine ih _ _ ?_
    cases hx : twait next now late x with
    | false =>
      rw [if_neg (by simp)]
      cases o with
      | none => intro y hy; rcases List.mem_append.1 hy with hy | hy; exact h y hy; simp at hy; subst hy; exact hx
      | some t =>
        obtain ⟨⟨z, hz, hw, he⟩, hall⟩ := h
        refine ⟨⟨z, List.mem_append_left _ hz, hw, he⟩, fun y hy hyw => ?_⟩
        rcases List.mem_append.1 hy with hy | hy
        · exact hall y hy hyw
        · simp at hy; subst hy; rw [hx] at hyw; cases hyw
    | true =>
      rw [if_pos rfl]
      cases o with
      | none =>
        refine ⟨⟨x, by simp, hx, rfl⟩, fun y hy hyw => ?_⟩
        rcases List.mem_append.1 hy with hy | hy
        · rw [h y hy] at hyw; cases hyw
        · simp at hy; subst hy; exact Nat.le_refl _
      | some t =>
        obtain ⟨⟨z, hz, hw, he⟩, hall⟩ := h
        have hmin : ∀ y ∈ m ++ [x], twait next now late y = true → min t (tend late x) ≤ tend late y := by
          intro y hy hyw
          rcases List.mem_append.1 hy with hy | hy
          · have := hall y hy hyw; omega
          · simp at hy; subst hy; omega
        rcases Nat.le_total t (tend late x) with hle | hle
        · exact ⟨⟨z, List.mem_append_left _ hz, hw, by rw [he]; omega⟩, hmin⟩
        · exact ⟨⟨x, by simp, hx, by omega⟩, hmin⟩
theorem TWhen.same {next now late : Nat} {l m : List Snt} {o q : Option Nat} (h : TWhen next now late l o) (k : TWhen next now late m q) (hm : ∀ x, twait next now late x = true → (x ∈ l ↔ x ∈ m)) : o = q := by
  cases o with
  | none =>
    cases q with
    | none => rfl
    | some t =>
      obtain ⟨⟨z, hz, hw, _⟩, _⟩ := k
      have := h z ((hm z hw).2 hz)
      rw [hw] at this
      cases this
  | some t =>
    obtain ⟨⟨z, hz, hw, he⟩, hall⟩ := h
    cases q with
    | none =>
      have := k z ((hm z hw).1 hz)
      rw [hw] at this
      cases this
    | some s =>
      obtain ⟨⟨y, hy, hyw, hye⟩, hall2⟩ := k
      have h1 := hall y ((hm y hyw).2 hy) hyw
      have h2 := hall2 z ((hm z hw).1 hz) hw
      congr 1
      omega
theorem wait_back {next now late : Nat} {x : Snt} (h : twait next now late x = true) : tback next x = true ∧ tlost next now late x = false ∧ now < tend late x ∧ next < fadd x.num 4 := by
  unfold twait at h
  rw [Bool.and_eq_true] at h
  obtain ⟨h1, h2⟩ := h
  have h3 : tlost next now late x = false := by simpa using h2
  refine ⟨h1, h3, ?_, ?_⟩
  · unfold tlost at h3; rw [h1] at h3; simp at h3; omega
  · unfold tlost at h3; rw [h1] at h3; simp at h3; omega
theorem back_cases {next now late : Nat} {x : Snt} (h : tback next x = true) : tlost next now late x = true ∨ twait next now late x = true := by
  unfold twait
  rw [h]
  cases tlost next now late x <;> simp
theorem twhen_zero {next now late : Nat} {l : List Snt} (h : twhen next now late l = 0) : ∀ x ∈ l, twait next now late x = false := by
  have k := twhenO_spec next now late l
  unfold twhen at h
  cases ho : twhenO next now late l with
  | none => rw [ho] at k; exact k
  | some t =>
    rw [ho] at k h
    obtain ⟨⟨z, hz, hw, he⟩, _⟩ := k
    have := (wait_back hw).2.2.1
    simp at h
    omega
theorem twhen_pos {next now late : Nat} {l : List Snt} (h : twhen next now late l ≠ 0) : (∃ x ∈ l, twait next now late x = true ∧ tend late x = twhen next now late l) ∧ ∀ x ∈ l, twait next now late x = true → twhen next now late l ≤ tend late x := by
  have k := twhenO_spec next now late l
  unfold twhen at h ⊢
  cases ho : twhenO next now late l with
  | none => rw [ho] at h; simp at h
  | some t => rw [ho] at k; exact k
theorem twhen_lt (next now late : Nat) (l : List Snt) : twhen next now late l < 18446744073709551616 := by
  by_cases h : twhen next now late l = 0
  · omega
  · obtain ⟨⟨x, _, _, he⟩, _⟩ := twhen_pos h
    have := fadd_lt' x.at_ late
    unfold tend at he
    omega

/-! ### What the statements ask -/
theorem next_none {next now late : Nat} {l : List Snt} (h : twhen next now late l = 0) : (l.filter (tlost next 18446744073709551615 late)).length = (l.filter (tlost next now late)).length := by
  congr 1
  refine List.filter_congr fun x hx => ?_
  have hw := twhen_zero h x hx
  cases hb : tback next x with
  | false => unfold tlost; rw [hb]; rfl
  | true =>
    have h1 : tlost next now late x = true := by
      rcases back_cases (now := now) (late := late) hb with h1 | h1
      · exact h1
      · rw [hw] at h1; cases h1
    rw [h1]
    have := fadd_lt' x.at_ late
    unfold tlost tend
    rw [hb, decide_eq_true (show fadd x.at_ late ≤ 18446744073709551615 by omega)]
    simp
theorem next_some {next now late t : Nat} {l : List Snt} (ht : twhen next now late l = t) (h : t ≠ 0) :
    now < t ∧ ((l.filter fun x => !tlost next now late x).filter (tlost next (t - 1) late)) = [] ∧ ((l.filter fun x => !tlost next now late x).filter (tlost next t late)) ≠ [] := by
  subst ht
  obtain ⟨⟨x, hx, hw, he⟩, hall⟩ := twhen_pos h
  obtain ⟨hb, hl, hn, hf⟩ := wait_back hw
  refine ⟨by omega, List.filter_eq_nil_iff.2 fun y hy => ?_, fun hnil => ?_⟩
  · obtain ⟨hy, hyl⟩ := List.mem_filter.1 hy
    cases hyb : tback next y with
    | false => unfold tlost; rw [hyb]; simp
    | true =>
      have hyw : twait next now late y = true := by
        rcases back_cases (now := now) (late := late) hyb with h1 | h1
        · rw [h1] at hyl; cases hyl
        · exact h1
      have h1 := hall y hy hyw
      obtain ⟨_, _, h2, h3⟩ := wait_back hyw
      unfold tlost
      rw [hyb]
      simp
      omega
  · have hin : x ∈ (l.filter fun x => !tlost next now late x).filter (tlost next (twhen next now late l) late) :=
      List.mem_filter.2 ⟨List.mem_filter.2 ⟨hx, by rw [hl]; rfl⟩, by unfold tlost; rw [hb, he]; simp⟩
    rw [hnil] at hin
    cases hin
theorem far_lost {next late : Nat} {x : Snt} (hl : late ≠ 0) (h : tlost next 0 late x = true) : fadd x.num 4 ≤ next := by
  unfold tlost tend at h
  simp at h
  have : 0 < fadd x.at_ late := by unfold fadd; split <;> omega
  omega
theorem far_left {next late : Nat} {x : Snt} (hn : next ≤ 4611686018427387904) (h : tlost next 0 late x = false) : next < fadd x.num 4 := by
  rcases Nat.lt_or_ge next (fadd x.num 4) with h1 | h1
  · exact h1
  · exfalso
    have h2 : fadd x.num 1 < next := by unfold fadd at h1 ⊢; split at h1 <;> split <;> omega
    unfold tlost tback at h
    rw [decide_eq_true h2, decide_eq_true h1] at h
    simp at h
theorem again_when (next now late : Nat) (l : List Snt) : twhen next now late (l.filter fun x => !tlost next now late x) = twhen next now late l := by
  unfold twhen
  rw [TWhen.same (twhenO_spec next now late (l.filter fun x => !tlost next now late x)) (twhenO_spec next now late l) fun x hw => ?_]
  have := (wait_back hw).2.1
  simp [this]
theorem later_now {next now more late : Nat} (l : List Snt) : (l.filter (tlost next now late)).length ≤ (l.filter (tlost next (now + more) late)).length := filter_le fun x _ h => by
  unfold tlost at h ⊢
  simp at h ⊢
  exact ⟨h.1, by omega⟩
theorem later_next {next now more late : Nat} (l : List Snt) : (l.filter (tlost next now late)).length ≤ (l.filter (tlost (next + more) now late)).length := filter_le fun x _ h => by
  unfold tlost tback at h ⊢
  simp at h ⊢
  exact ⟨by omega, by omega⟩

/-! ### Lost for long -/
def trun (time a : Nat) (prev : Nat) : List Snt → Bool
  | [] => false
  | y :: l => if y.num = fadd prev 1 then decide (fadd a time ≤ y.at_) || trun time a y.num l else false
def tlong (time : Nat) : List Snt → Bool
  | [] => false
  | x :: l => trun time x.at_ x.num l || tlong time l
/-- From place i up to place k numbers follow one another. -/
def TRun (l : List Snt) (i k : Nat) : Prop := ∀ (m : Nat) (x y : Snt), i ≤ m → m < k → l[m]? = some x → l[m + 1]? = some y → y.num = fadd x.num 1
def TLong (time : Nat) (l : List Snt) : Prop := ∃ (i k : Nat) (x y : Snt), i < k ∧ l[i]? = some x ∧ l[k]? = some y ∧ TRun l i k ∧ fadd x.at_ time ≤ y.at_
theorem TRun.cons {x : Snt} {l : List Snt} {i k : Nat} : TRun (x :: l) (i + 1) (k + 1) ↔ TRun l i k := by
  constructor
  · intro h m a b h1 h2 ha hb
    exact h (m + 1) a b (by omega) (by omega) (by simpa using ha) (by simpa using hb)
  · intro h m a b h1 h2 ha hb
    obtain ⟨m, rfl⟩ : ∃ n, m = n + 1 := ⟨m - 1, by omega⟩
    exact h m a b (by omega) (by omega) (by simpa using ha) (by simpa using hb)
theorem trun_iff (time a : Nat) : ∀ (l : List Snt) (x : Snt), trun time a x.num l = true ↔ ∃ (k : Nat) (y : Snt), 0 < k ∧ (x :: l)[k]? = some y ∧ TRun (x :: l) 0 k ∧ fadd a time ≤ y.at_
  | [], x => by
    simp only [trun, Bool.false_eq_true, false_iff, not_exists, not_and]
    intro k y hk hy
    obtain ⟨k, rfl⟩ : ∃ n, k = n + 1 := ⟨k - 1, by omega⟩
    simp at hy
  | z :: l, x => by
    unfold trun
    constructor
    · intro h
      split at h
      · rename_i hz
        rw [Bool.or_eq_true, decide_eq_true_eq] at h
        have first : TRun (x :: z :: l) 0 1 := by
          intro m a b _ h2 ha hb
          obtain rfl : m = 0 := by omega
          simp at ha hb
          subst ha hb
          exact hz
        rcases h with h | h
        · exact ⟨1, z, by omega, rfl, first, h⟩
        · obtain ⟨k, y, hk, hy, hr, ht⟩ := (trun_iff time a l z).1 h
          refine ⟨k + 1, y, by omega, by simpa using hy, fun m p q h1 h2 hp hq => ?_, ht⟩
          cases m with
          | zero => exact first 0 p q (by omega) (by omega) hp hq
          | succ m => exact hr m p q (by omega) (by omega) (by simpa using hp) (by simpa using hq)
      · cases h
    · rintro ⟨k, y, hk, hy, hr, ht⟩
      have hz : z.num = fadd x.num 1 := hr 0 x z (by omega) hk rfl rfl
      rw [if_pos hz, Bool.or_eq_true, decide_eq_true_eq]
      obtain ⟨k, rfl⟩ : ∃ n, k = n + 1 := ⟨k - 1, by omega⟩
      cases k with
      | zero => simp at hy; subst hy; exact .inl ht
      | succ k =>
        refine .inr ((trun_iff time a l z).2 ⟨k + 1, y, by omega, by simpa using hy, fun m p q h1 h2 hp hq => ?_, ht⟩)
        exact hr (m + 1) p q (by omega) (by omega) (by simpa using hp) (by simpa using hq)
theorem tlong_iff (time : Nat) : ∀ l : List Snt, tlong time l = true ↔ TLong time l
  | [] => by simp [tlong, TLong]
  | x :: l => by
    unfold tlong
    rw [Bool.or_eq_true, trun_iff, tlong_iff time l]
    constructor
    · rintro (⟨k, y, hk, hy, hr, ht⟩ | ⟨i, k, a, b, hik, ha, hb, hr, ht⟩)
      · exact ⟨0, k, x, y, hk, rfl, hy, hr, ht⟩
      · exact ⟨i + 1, k + 1, a, b, by omega, by simpa using ha, by simpa using hb, TRun.cons.2 hr, ht⟩
    · rintro ⟨i, k, a, b, hik, ha, hb, hr, ht⟩
      cases i with
      | zero => simp at ha; subst ha; exact .inl ⟨k, b, hik, hb, hr, ht⟩
      | succ i =>
        obtain ⟨k, rfl⟩ : ∃ n, k = n + 1 := ⟨k - 1, by omega⟩
        exact .inr ⟨i, k, a, b, by omega, by simpa using ha, by simpa using hb, TRun.cons.1 hr, ht⟩
end Wig
