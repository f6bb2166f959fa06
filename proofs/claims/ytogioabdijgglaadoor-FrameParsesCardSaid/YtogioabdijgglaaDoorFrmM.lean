/-
  Frames as bytes: what layer 5 says, over plain numbers and lists; readers of bytes. No condition.
-/
import Derived.Test.YtogioabdijgglaaDoorVarM
import Derived.Test.YtogioabdijgglaaDoorSp0
set_option linter.unusedVariables false
namespace Wig
structure Fr where
  kind : Int
  id : Nat
  off : Nat
  max : Nat
  code : Nat
  delay : Nat
  ce : Nat
  fin : Bool
  data : List Nat
  spans : List Spn
def Fr.zero : Fr := ⟨0, 0, 0, 0, 0, 0, 0, false, [], []⟩
def Fr.get (f : Fr) : Nat → Nat
  | 0 => f.id
  | 1 => f.off
  | 2 => f.max
  | 3 => f.code
  | 4 => f.delay
  | _ => f.ce
def Fr.put (f : Fr) (v : Nat) : Nat → Fr
  | 0 => { f with id := v }
  | 1 => { f with off := v }
  | 2 => { f with max := v }
  | 3 => { f with code := v }
  | 4 => { f with delay := v }
  | _ => { f with ce := v }
/-- The fields of a Kind: numbers 0 to 5, the spans 6, the data 7. -/
def flds (k : Nat) : Option (List Nat) := match k with
  | 0 => some []
  | 1 => some []
  | 2 => some [6, 4]
  | 3 => some [6, 4, 5]
  | 4 => some [0, 3, 2]
  | 5 => some [0, 3]
  | 6 => some [2, 1, 0]
  | 14 => some [0, 1, 7]
  | 16 => some [2]
  | 17 => some [0, 2]
  | 18 => some [2]
  | 20 => some [2]
  | 21 => some [0, 2]
  | 28 => some [3]
  | 30 => some []
  | _ => none
/-- A Kind as a number of 64 bits. -/
def knat (k : Int) : Nat := (k % 18446744073709551616).toNat
def spOne (s : Spn) : Bool := decide (s.1 < s.2) && decide (s.2 ≤ 4611686018427387904)
def spOk : List Spn → Bool
  | [] => true
  | [s] => spOne s
  | p :: s :: r => spOne p && decide (p.2 < s.1) && spOk (s :: r)
def spFit (l : List Spn) : Bool := decide (1 ≤ l.length) && decide (l.length ≤ 32) && spOk l
def spansFit (l : List Spn) (has : Bool) : Bool := if has then spFit l else decide (l.length = 0)
def dataFit (f : Fr) (has : Bool) : Bool := if has then decide (f.data.length ≤ 1200) && decide (f.off + f.data.length ≤ 4611686018427387903) else decide (f.data.length = 0) && !f.fin
def numFit (f : Fr) (has : List Nat) (k : Nat) : Bool := decide (f.get k ≤ 4611686018427387903) && (decide (f.get k = 0) || has.contains k)
def numsFit (f : Fr) (has : List Nat) : Bool := (List.range 6).all (numFit f has)
/-- Whether a frame may be. -/
def fine (f : Fr) : Bool := match flds (knat f.kind) with
  | none => false
  | some has => numsFit f has && spansFit f.spans (has.contains 6) && dataFit f (has.contains 7)
def ferr (f : Fr) : Nat := if fine f then 0 else 50

def nums (l : List Nat) : List Nat := l.flatMap venc
/-- The numbers of spans behind the last one, from the last one on. -/
def gaps : Spn → List Spn → List Nat
  | _, [] => []
  | p, s :: r => (p.1 - s.2 - 1) :: (s.2 - s.1 - 1) :: gaps s r
def spNums (l : List Spn) : List Nat := match l.reverse with
  | [] => []
  | s :: r => l.length :: (s.2 - 1) :: (s.2 - s.1 - 1) :: gaps s r
def layF (f : Fr) (k : Nat) : List Nat := if k = 6 then nums (spNums f.spans) else if k = 7 then venc f.data.length ++ f.data else venc (f.get k)
def wkind (f : Fr) : Nat := if f.fin then 15 else knat f.kind
/-- A frame's bytes. -/
def fenc (f : Fr) : List Nat := if fine f then venc (wkind f) ++ ((flds (knat f.kind)).getD []).flatMap (layF f) else []

/-- A reader of bytes: what it read, and the bytes behind. -/
abbrev Prs (α : Type) := List Nat → Option (α × List Nat)
def pret {α : Type} (a : α) : Prs α := fun xs => some (a, xs)
def pfail {α : Type} : Prs α := fun _ => none
def pbind {α β : Type} (F : Prs α) (G : α → Prs β) : Prs β := fun xs => match F xs with
  | none => none
  | some (a, r) => G a r
def num1 : Prs Nat := fun xs => if vshort xs then none else some (vnum xs, xs.drop (vneed xs))
def rdTake (n : Nat) : Prs (List Nat) := fun r => if r.length < n then none else some (r.take n, r.drop n)
def rdData : Prs (List Nat) := pbind num1 rdTake
def low (v far : Nat) : Prs Nat := if v < far then pfail else pret (v - far)
def rdTop (first : Bool) (at_ : Nat) : Prs Nat := if first then pret at_ else pbind num1 fun g => low at_ (g + 1)
def rdMany : Nat → Bool → Nat → List Spn → Prs (List Spn)
  | 0, _, _, out => pret out
  | n + 1, first, at_, out => pbind (rdTop first at_) fun t => pbind num1 fun l => pbind (low t (l + 1)) fun u => rdMany n false u ((u, t) :: out)
def rdSpans : Prs (List Spn) := pbind num1 fun n => pbind num1 fun t => rdMany n true (t + 1) []
def rdField (f : Fr) (k : Nat) : Prs Fr :=
  if k = 6 then pbind rdSpans fun s => pret { f with spans := s }
  else if k = 7 then pbind rdData fun d => pret { f with data := d }
  else pbind num1 fun v => pret (f.put v k)
def rdAll : List Nat → Fr → Prs Fr
  | [], f => pret f
  | k :: ks, f => pbind (rdField f k) fun f' => rdAll ks f'
def kbase (k : Nat) : Nat := if k = 15 then 14 else k
def fbase (k : Nat) : Fr := { Fr.zero with kind := (kbase k : Int), fin := decide (k = 15) }
def rdEnd (f : Fr) : Prs Fr := if fine f then pret f else pfail
def rdKind (k : Nat) : Prs Fr := match flds (kbase k) with
  | none => pfail
  | some has => pbind (rdAll has (fbase k)) rdEnd
/-- The frame that bytes begin with. -/
def rdFrame : Prs Fr := pbind num1 rdKind
/-- All frames that bytes are; as many bytes as n at most. -/
def rdFrames : Nat → List Nat → Option (List Fr)
  | 0, xs => if xs = [] then some [] else none
  | n + 1, xs => if xs = [] then some [] else match rdFrame xs with
    | none => none
    | some (f, r) => (rdFrames n r).map (f :: ·)
def fall (xs : List Nat) : Option (List Fr) := if xs = [] then none else rdFrames xs.length xs

theorem spOk_snoc : ∀ (l : List Spn) (p s : Spn), spOk (l ++ [p, s]) = (spOk (l ++ [p]) && decide (p.2 < s.1) && spOne s)
  | [], p, s => by simp [spOk]
  | [a], p, s => by simp [spOk, Bool.and_assoc]
  | a :: b :: l, p, s => by
    have := spOk_snoc (b :: l) p s
    simp only [List.cons_append] at this ⊢
    rw [spOk, this, spOk]
    simp [Bool.and_assoc]
theorem spOk_prefix : ∀ (a b : List Spn), spOk (a ++ b) = true → spOk a = true
  | [], _, _ => rfl
  | [s], [], h => by simpa using h
  | [s], t :: b, h => by
    simp only [List.cons_append, List.nil_append, spOk, Bool.and_eq_true] at h
    exact h.1.1
  | p :: s :: r, b, h => by
    simp only [List.cons_append, spOk, Bool.and_eq_true] at h ⊢
    exact ⟨h.1, spOk_prefix (s :: r) b h.2⟩
theorem spOk_tail : ∀ {p : Spn} {r : List Spn}, spOk (p :: r) = true → spOk r = true ∧ spOne p = true
  | p, [], h => ⟨rfl, h⟩
  | p, s :: r, h => by
    simp only [spOk, Bool.and_eq_true] at h
    exact ⟨h.2, h.1.1⟩

/-- What a reader took of bytes: those ahead of the rest; it reads them so whatever stands behind them; and cut it reads nothing. -/
def Local {α : Type} (F : Prs α) : Prop := ∀ xs a r, Bytes xs → F xs = some (a, r) → ∃ p, xs = p ++ r ∧ (∀ more, Bytes more → F (p ++ more) = some (a, more)) ∧ ∀ k, k < p.length → F (p.take k) = none
theorem Bytes.left {p r : List Nat} (h : Bytes (p ++ r)) : Bytes p := fun x hx => h x (List.mem_append_left _ hx)
theorem Bytes.right {p r : List Nat} (h : Bytes (p ++ r)) : Bytes r := fun x hx => h x (List.mem_append_right _ hx)
theorem Bytes.app {p r : List Nat} (h : Bytes p) (k : Bytes r) : Bytes (p ++ r) := fun x hx => (List.mem_append.1 hx).elim (h x) (k x)
theorem Bytes.take {p : List Nat} (h : Bytes p) (k : Nat) : Bytes (p.take k) := fun x hx => h x (List.mem_of_mem_take hx)
theorem Bytes.drop {p : List Nat} (h : Bytes p) (k : Nat) : Bytes (p.drop k) := fun x hx => h x (List.mem_of_mem_drop hx)
theorem Local.ret {α : Type} (a : α) : Local (pret a) := by
  intro xs b r _ h
  cases h
  exact ⟨[], rfl, fun _ _ => rfl, fun k hk => absurd hk (Nat.not_lt_zero _)⟩
theorem Local.fail {α : Type} : Local (pfail : Prs α) := by
  intro xs b r _ h
  cases h
theorem pbind_some {α β : Type} {F : Prs α} {G : α → Prs β} {xs : List Nat} {b : β} {r : List Nat} (h : pbind F G xs = some (b, r)) : ∃ a m, F xs = some (a, m) ∧ G a m = some (b, r) := by
  unfold pbind at h
  cases e : F xs with
  | none => rw [e] at h; cases h
  | some x => obtain ⟨a, m⟩ := x; rw [e] at h; exact ⟨a, m, rfl, h⟩
theorem pbind_of {α β : Type} {F : Prs α} {G : α → Prs β} {xs : List Nat} {a : α} {m : List Nat} (h : F xs = some (a, m)) : pbind F G xs = G a m := by
  unfold pbind
  rw [h]
theorem pbind_none {α β : Type} {F : Prs α} {G : α → Prs β} {xs : List Nat} (h : F xs = none) : pbind F G xs = none := by
  unfold pbind
  rw [h]
theorem Local.bind {α β : Type} {F : Prs α} {G : α → Prs β} (hF : Local F) (hG : ∀ a, Local (G a)) : Local (pbind F G) := by
  intro xs b r hx h
  obtain ⟨a, m, h1, h2⟩ := pbind_some h
  obtain ⟨p, rfl, hp, hc⟩ := hF xs a m hx h1
  obtain ⟨q, rfl, hq, hd⟩ := hG a m b r hx.right h2
  refine ⟨p ++ q, by simp, fun more hm => ?_, fun k hk => ?_⟩
  · rw [List.append_assoc, pbind_of (hp _ (hx.right.left.app hm))]
    exact hq more hm
  · by_cases hkp : k < p.length
    · rw [List.take_append_of_le_length (by omega)]
      exact pbind_none (hc k hkp)
    · rw [List.length_append] at hk
      rw [List.take_append, List.take_of_length_le (by omega), pbind_of (hp _ (hx.right.left.take _))]
      exact hd _ (by omega)
theorem Local.ite {α : Type} {c : Prop} [Decidable c] {F G : Prs α} (hF : Local F) (hG : Local G) : Local (if c then F else G) := by
  split
  · exact hF
  · exact hG
theorem num1_some {xs : List Nat} {v : Nat} {r : List Nat} (h : num1 xs = some (v, r)) : vshort xs = false ∧ v = vnum xs ∧ r = xs.drop (vneed xs) := by
  unfold num1 at h
  cases e : vshort xs with
  | true => rw [e] at h; simp at h
  | false => rw [e] at h; simp at h; exact ⟨rfl, h.1.symm, h.2.symm⟩
theorem vneed_pos {xs : List Nat} (h : Bytes xs) : 0 < vneed xs := by have := vneed_cases h; omega
theorem num1_facts {xs : List Nat} {v : Nat} {r : List Nat} (hx : Bytes xs) (h : num1 xs = some (v, r)) : v < 4611686018427387904 ∧ vsize v + r.length ≤ xs.length ∧ r.length < xs.length ∧ vneed xs ≤ xs.length ∧ xs.length = vneed xs + r.length := by
  obtain ⟨h1, rfl, rfl⟩ := num1_some h
  have := vnum_small hx
  have hl := of_decide_eq_false h1
  have := vneed_pos hx
  rw [List.length_drop]
  omega
theorem num1_local : Local num1 := by
  intro xs v r hx h
  obtain ⟨h1, rfl, rfl⟩ := num1_some h
  have hl : ¬ xs.length < vneed xs := of_decide_eq_false h1
  have hp := vneed_pos hx
  obtain ⟨w1, w2, w3⟩ := vwhole hx h1
  refine ⟨xs.take (vneed xs), (List.take_append_drop _ _).symm, fun more hm => ?_, fun k hk => ?_⟩
  · have hn : vneed (xs.take (vneed xs) ++ more) = vneed xs := by
      cases xs with
      | nil => exact absurd hp (by simp [vneed] at hl)
      | cons x xs =>
        have : 0 < vneed (x :: xs) := hp
        rw [show vneed (x :: xs) = (vneed (x :: xs) - 1) + 1 by omega, List.take_succ_cons, List.cons_append]
        show vneed (x :: _) = vneed (x :: xs) - 1 + 1
        have : vneed (x :: (List.take (vneed (x :: xs) - 1) xs ++ more)) = vneed (x :: xs) := rfl
        omega
    have hs : vshort (xs.take (vneed xs) ++ more) = false := by
      refine decide_eq_false ?_
      rw [hn, List.length_append, List.length_take]
      omega
    have ht : (xs.take (vneed xs) ++ more).take (vneed xs) = xs.take (vneed xs) := by
      rw [List.take_append_of_le_length (by rw [List.length_take]; omega), List.take_take, Nat.min_self]
    unfold num1
    rw [hs, hn]
    simp only [Bool.false_eq_true, if_false]
    have e1 : vnum (xs.take (vneed xs) ++ more) = vnum xs := by
      unfold vnum
      rw [hs, h1, hn, ht]
    rw [e1, List.drop_append_of_le_length (by rw [List.length_take]; omega), List.drop_of_length_le (by rw [List.length_take]; omega), List.nil_append]
  · rw [List.length_take] at hk
    rw [List.take_take, Nat.min_eq_left (by omega)]
    unfold num1
    rw [vcut hx h1 (by omega)]
    rfl
theorem rdTake_local (n : Nat) : Local (rdTake n) := by
  intro xs v r hx h
  unfold rdTake at h
  split at h
  · cases h
  · rename_i hl
    cases h
    refine ⟨xs.take n, (List.take_append_drop _ _).symm, fun more _ => ?_, fun k hk => ?_⟩
    · unfold rdTake
      rw [if_neg (by rw [List.length_append, List.length_take]; omega), List.take_append_of_le_length (by rw [List.length_take]; omega), List.take_take, Nat.min_self, List.drop_append_of_le_length (by rw [List.length_take]; omega), List.drop_of_length_le (by rw [List.length_take]; omega), List.nil_append]
    · rw [List.length_take] at hk
      unfold rdTake
      rw [if_pos (by rw [List.length_take, List.length_take]; omega)]
theorem low_local (v far : Nat) : Local (low v far) := Local.ite Local.fail (Local.ret _)
theorem rdTop_local (first : Bool) (at_ : Nat) : Local (rdTop first at_) := by
  unfold rdTop
  exact Local.ite (Local.ret _) (num1_local.bind fun g => low_local _ _)
theorem rdMany_local : ∀ (n : Nat) (first : Bool) (at_ : Nat) (out : List Spn), Local (rdMany n first at_ out)
  | 0, _, _, _ => Local.ret _
  | n + 1, first, at_, out => (rdTop_local first at_).bind fun t => num1_local.bind fun l => (low_local _ _).bind fun u => rdMany_local n false u _
theorem rdSpans_local : Local rdSpans := num1_local.bind fun n => num1_local.bind fun t => rdMany_local n true (t + 1) []
theorem rdField_local (f : Fr) (k : Nat) : Local (rdField f k) := by
  unfold rdField
  exact Local.ite (rdSpans_local.bind fun _ => Local.ret _) (Local.ite ((num1_local.bind fun n => rdTake_local n).bind fun _ => Local.ret _) (num1_local.bind fun _ => Local.ret _))
theorem rdAll_local : ∀ (ks : List Nat) (f : Fr), Local (rdAll ks f)
  | [], _ => Local.ret _
  | k :: ks, f => (rdField_local f k).bind fun f' => rdAll_local ks f'
theorem rdEnd_local (f : Fr) : Local (rdEnd f) := by
  unfold rdEnd
  exact Local.ite (Local.ret _) Local.fail
theorem rdKind_local (k : Nat) : Local (rdKind k) := by
  unfold rdKind
  split
  · exact Local.fail
  · exact (rdAll_local _ _).bind rdEnd_local
theorem rdFrame_local : Local rdFrame := num1_local.bind rdKind_local
end Wig
