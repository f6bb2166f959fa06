/-
  What package ledger's own ways come to: the first of those that wait, packets lost for long by the earliest ahead, what holds at a loop's head. No condition: nothing of the program is named here.
-/
import Derived.Test.YthdhcppgpnnccaaLedM
set_option linter.unusedVariables false
namespace Wig
theorem tdrop_next {l : List Snt} {k : Nat} {x : Snt} (h : l[k]? = some x) : l.drop k = x :: l.drop (k + 1) := by
  obtain ⟨hk, e⟩ := List.getElem?_eq_some_iff.1 h
  rw [List.drop_eq_getElem_cons hk, e]
theorem tfits_at {l : List Snt} (h : TFits l) {k : Nat} {x : Snt} (hx : l[k]? = some x) : x.Ok := h x (List.mem_of_getElem? hx)

/-! ### Numbers that rise -/
theorem tcheck_bad {l : List Snt} {j : Nat} {p q : Snt} (hp : l[j]? = some p) (hq : l[j + 1]? = some q) (h : q.num ≤ p.num) : tcheck l = false := by
  cases hc : tcheck l with
  | false => rfl
  | true => have := (tcheck_iff l).1 hc j p q hp hq; omega
theorem tcheck_first (l : List Snt) : tcheck (l.take 1) = true := by cases l <;> simp [tcheck]
theorem tcheck_step {l : List Snt} {j : Nat} {p q : Snt} (h : tcheck (l.take (j + 1)) = true) (hp : l[j]? = some p) (hq : l[j + 1]? = some q) (hlt : p.num < q.num) : tcheck (l.take (j + 1 + 1)) = true := by
  rw [tcheck_iff] at h ⊢
  intro i x y hx hy
  rw [List.getElem?_take] at hx hy
  split at hy
  · split at hx
    · by_cases e : i = j
      · subst e
        rw [hp] at hx
        rw [hq] at hy
        cases hx
        cases hy
        exact hlt
      · exact h i x y (by rw [List.getElem?_take, if_pos (by omega)]; exact hx) (by rw [List.getElem?_take, if_pos (by omega)]; exact hy)
    · cases hx
  · cases hy

/-! ### The first of those that wait -/
def tmin (late a : Nat) (l : List Snt) : Nat := l.foldl (fun a y => min a (tend late y)) a
def tfirst (late : Nat) : List Snt → Nat
  | [] => 0
  | x :: l => tmin late (tend late x) (x :: l)
theorem tmin_take {late a : Nat} {l : List Snt} {k : Nat} {x : Snt} (h : l[k]? = some x) : tmin late a (l.take (k + 1)) = min (tmin late a (l.take k)) (tend late x) := by
  unfold tmin
  rw [List.take_add_one, h, Option.toList_some, List.foldl_append]
  rfl
theorem tmin_lt {late a : Nat} (l : List Snt) (ha : a < 18446744073709551616) : tmin late a l < 18446744073709551616 := by
  unfold tmin
  induction l generalizing a with
  | nil => exact ha
  | cons x l ih => exact ih (Nat.lt_of_le_of_lt (Nat.min_le_left _ _) ha)
theorem twhen_fold (next now late : Nat) (l : List Snt) (t : Nat) : l.foldl (fun o x => if twait next now late x = true then tleast o (tend late x) else o) (some t) = some (tmin late t (l.filter (twait next now late))) := by
  induction l generalizing t with
  | nil => rfl
  | cons x l ih =>
    rw [List.foldl_cons]
    cases hx : twait next now late x with
    | false => rw [if_neg (by simp), ih, List.filter_cons_of_neg (by simp [hx])]
    | true => rw [if_pos rfl, List.filter_cons_of_pos hx]; exact ih _
theorem first_when (next now late : Nat) (l : List Snt) : tfirst late (l.filter (twait next now late)) = twhen next now late l := by
  unfold twhen twhenO
  induction l with
  | nil => rfl
  | cons x l ih =>
    rw [List.foldl_cons]
    cases hx : twait next now late x with
    | false => rw [if_neg (by simp), List.filter_cons_of_neg (by simp [hx])]; exact ih
    | true =>
      rw [if_pos rfl, List.filter_cons_of_pos hx]
      show _ = (List.foldl _ (some (tend late x)) l).getD 0
      rw [twhen_fold]
      show tmin late (min (tend late x) (tend late x)) _ = _
      rw [Nat.min_self]
      rfl
theorem wait_filter (next now late : Nat) (l : List Snt) : (l.filter fun x => !tlost next now late x).filter (tback next) = l.filter (twait next now late) := by
  rw [List.filter_filter]
  rfl

/-! ### The document's loop: when, and whether one was found -/
theorem twhen_none {next now late : Nat} {l : List Snt} (h : twhenO next now late l = none) : twhen next now late l = 0 := by unfold twhen; rw [h]; rfl
theorem twhen_some {next now late t : Nat} {l : List Snt} (h : twhenO next now late l = some t) : twhen next now late l = t := by unfold twhen; rw [h]; rfl

/-! ### Lost for long, by the earliest ahead -/
def lgo (time : Nat) (e prev : Nat) : List Snt → Bool
  | [] => false
  | y :: l => if y.num = fadd prev 1 then (decide (fadd e time ≤ y.at_) || lgo time (min e y.at_) y.num l) else lgo time y.at_ y.num l
theorem fadd_min (a b t : Nat) : fadd (min a b) t = min (fadd a t) (fadd b t) := by
  unfold fadd
  split <;> split <;> split <;> omega
theorem trun_min (time a b : Nat) : ∀ (l : List Snt) (prev : Nat), trun time (min a b) prev l = (trun time a prev l || trun time b prev l)
  | [], _ => rfl
  | y :: l, prev => by
    unfold trun
    split
    · rw [trun_min time a b l, fadd_min]
      have h : decide (min (fadd a time) (fadd b time) ≤ y.at_) = (decide (fadd a time ≤ y.at_) || decide (fadd b time ≤ y.at_)) := by
        rw [← Bool.decide_or]
        exact decide_eq_decide.2 (by omega)
      rw [h]
      cases decide (fadd a time ≤ y.at_) <;> cases decide (fadd b time ≤ y.at_) <;> cases trun time a y.num l <;> cases trun time b y.num l <;> rfl
    · rfl
theorem lgo_eq (time : Nat) : ∀ (l : List Snt) (e prev : Nat), lgo time e prev l = (trun time e prev l || tlong time l)
  | [], _, _ => rfl
  | y :: l, e, prev => by
    unfold lgo trun tlong
    rw [lgo_eq time l, lgo_eq time l]
    split
    · rw [trun_min]
      cases decide (fadd e time ≤ y.at_) <;> cases trun time e y.num l <;> cases trun time y.at_ y.num l <;> rfl
    · simp
/-- At the loop's head: the packet ahead, and the earliest of those that follow one another up to it. -/
def LAt (time : Nat) (l : List Snt) (k e : Nat) : Prop := k = 0 ∨ ∃ p, l[k - 1]? = some p ∧ lgo time e p.num (l.drop k) = tlong time l
theorem lat_first {time : Nat} {l : List Snt} {x : Snt} (h : l[0]? = some x) : LAt time l 1 x.at_ := by
  refine .inr ⟨x, h, ?_⟩
  have e := tdrop_next h
  rw [List.drop_zero] at e
  rw [e, lgo_eq]
  rfl
section
variable {time : Nat} {l : List Snt} {j e : Nat} {p x : Snt} (h : LAt time l (j + 1) e) (hp : l[j]? = some p) (hx : l[j + 1]? = some x)
include h hp hx
theorem lat_eq : lgo time e p.num (x :: l.drop (j + 1 + 1)) = tlong time l := by
  rcases h with h | ⟨q, hq, h⟩
  · omega
  · simp only [Nat.add_sub_cancel] at hq
    rw [hp] at hq
    cases hq
    rw [← tdrop_next hx]
    exact h
theorem lat_gap (hn : x.num ≠ fadd p.num 1) : LAt time l (j + 1 + 1) x.at_ := by
  refine .inr ⟨x, hx, ?_⟩
  have := lat_eq h hp hx
  unfold lgo at this
  rwa [if_neg hn] at this
theorem lat_next (hn : x.num = fadd p.num 1) (ht : ¬ fadd e time ≤ x.at_) : LAt time l (j + 1 + 1) (min e x.at_) := by
  refine .inr ⟨x, hx, ?_⟩
  have := lat_eq h hp hx
  unfold lgo at this
  rwa [if_pos hn, decide_eq_false ht, Bool.false_or] at this
theorem lat_hit (hn : x.num = fadd p.num 1) (ht : fadd e time ≤ x.at_) : tlong time l = true := by
  have := lat_eq h hp hx
  unfold lgo at this
  rw [if_pos hn, decide_eq_true ht, Bool.true_or] at this
  exact this.symm
end
theorem lat_end {time : Nat} {l : List Snt} {k e : Nat} (h : LAt time l k e) (hk : k = l.length) : tlong time l = false := by
  rcases h with h | ⟨p, _, h⟩
  · have : l = [] := List.eq_nil_of_length_eq_zero (by omega)
    subst this
    rfl
  · rw [hk, List.drop_length] at h
    exact h.symm

/-! ### Lost for long, by the document's two loops -/
theorem trun_cons (time a prev : Nat) (y : Snt) (l : List Snt) : trun time a prev (y :: l) = if y.num = fadd prev 1 then decide (fadd a time ≤ y.at_) || trun time a y.num l else false := rfl
theorem tlong_drop {time : Nat} {l : List Snt} {i : Nat} {x : Snt} (h : l[i]? = some x) : tlong time (l.drop i) = (trun time x.at_ x.num (l.drop (i + 1)) || tlong time (l.drop (i + 1))) := by
  rw [tdrop_next h]
  rfl
/-- At the inner loop's head, k - 1 being followed from i on. -/
def RAt (time : Nat) (l : List Snt) (i k : Nat) : Prop := ∃ x p, i < k ∧ l[i]? = some x ∧ l[k - 1]? = some p ∧ trun time x.at_ p.num (l.drop k) = trun time x.at_ x.num (l.drop (i + 1))
theorem rat_first {time : Nat} {l : List Snt} {i : Nat} {x : Snt} (h : l[i]? = some x) : RAt time l i (i + 1) := ⟨x, x, by omega, h, h, rfl⟩
section
variable {time : Nat} {l : List Snt} {i j : Nat} {x p y : Snt} (h : RAt time l i (j + 1)) (hi : l[i]? = some x) (hp : l[j]? = some p)
include h hi hp
theorem rat_eq : trun time x.at_ p.num (l.drop (j + 1)) = trun time x.at_ x.num (l.drop (i + 1)) := by
  obtain ⟨x', p', _, h1, h2, h3⟩ := h
  simp only [Nat.add_sub_cancel] at h2
  rw [hi] at h1
  rw [hp] at h2
  cases h1
  cases h2
  exact h3
theorem rat_next (hy : l[j + 1]? = some y) (hn : y.num = fadd p.num 1) (ht : ¬ fadd x.at_ time ≤ y.at_) : RAt time l i (j + 1 + 1) := by
  have e := rat_eq h hi hp
  obtain ⟨_, _, hlt, _⟩ := h
  refine ⟨x, y, by omega, hi, hy, ?_⟩
  rw [tdrop_next hy] at e
  rw [trun_cons] at e
  rw [if_pos hn, decide_eq_false ht, Bool.false_or] at e
  exact e
theorem rat_hit (hy : l[j + 1]? = some y) (hn : y.num = fadd p.num 1) (ht : fadd x.at_ time ≤ y.at_) : tlong time (l.drop i) = true := by
  have e := rat_eq h hi hp
  rw [tdrop_next hy] at e
  rw [trun_cons] at e
  rw [if_pos hn, decide_eq_true ht, Bool.true_or] at e
  rw [tlong_drop hi, ← e]
  rfl
theorem rat_gap (hy : l[j + 1]? = some y) (hn : y.num ≠ fadd p.num 1) : tlong time (l.drop (i + 1)) = tlong time (l.drop i) := by
  have e := rat_eq h hi hp
  rw [tdrop_next hy] at e
  rw [trun_cons] at e
  rw [if_neg hn] at e
  rw [tlong_drop hi, ← e]
  rfl
theorem rat_end (hj : j + 1 = l.length) : tlong time (l.drop (i + 1)) = tlong time (l.drop i) := by
  have e := rat_eq h hi hp
  rw [hj, List.drop_length] at e
  rw [tlong_drop hi, ← e]
  rfl
end
end Wig
