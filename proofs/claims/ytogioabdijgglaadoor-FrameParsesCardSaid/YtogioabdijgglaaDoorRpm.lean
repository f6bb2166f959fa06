/-
  The document's way to parse a frame (all numbers first, then what they are) is the readers' way. Plain numbers and lists. No condition.
-/
import Derived.Test.YtogioabdijgglaaDoorFrmN
set_option linter.unusedVariables false
set_option linter.unusedSimpArgs false
namespace Wig

/-- So many numbers. -/
def rtake : Nat → Prs (List Nat)
  | 0 => pret []
  | n + 1 => pbind num1 fun v => pbind (rtake n) fun vs => pret (v :: vs)
theorem pbind_assoc {α β γ : Type} (F : Prs α) (G : α → Prs β) (H : β → Prs γ) : pbind (pbind F G) H = pbind F fun a => pbind (G a) H := by
  funext xs
  unfold pbind
  cases F xs <;> rfl
theorem pret_bind {α β : Type} (a : α) (G : α → Prs β) : pbind (pret a) G = G a := rfl
theorem bind_ret {α : Type} (F : Prs α) : pbind F pret = F := by
  funext xs
  unfold pbind pret
  cases h : F xs with
  | none => rfl
  | some p => rfl
theorem rtake_succ (n : Nat) : rtake (n + 1) = pbind num1 fun v => pbind (rtake n) fun vs => pret (v :: vs) := rfl
theorem rtake_snoc : ∀ n, rtake (n + 1) = pbind (rtake n) fun vs => pbind num1 fun v => pret (vs ++ [v])
  | 0 => by
    show pbind num1 _ = pbind (pret []) _
    rw [pret_bind]
    rfl
  | n + 1 => by
    rw [rtake_succ (n + 1)]
    conv => lhs; rw [rtake_snoc n]
    conv => rhs; rw [rtake_succ n]
    simp only [pbind_assoc, pret_bind, List.cons_append]
theorem rtake_len : ∀ (n : Nat) {xs vs r : List Nat}, rtake n xs = some (vs, r) → vs.length = n
  | 0, xs, vs, r, h => by injection h with h; injection h with h1 h2; rw [← h1]; rfl
  | n + 1, xs, vs, r, h => by
    obtain ⟨v, m, h1, h2⟩ := pbind_some h
    obtain ⟨vs', m', h3, h4⟩ := pbind_some h2
    injection h4 with h4
    injection h4 with h5 h6
    rw [← h5, List.length_cons, rtake_len n h3]
/-- Spans of pairs of numbers, down from a place. -/
def rpairs : Nat → List Spn → List Nat → Option (List Spn)
  | at_, out, g :: l :: vs => if at_ < g + 1 ∨ at_ - (g + 1) < l + 1 then none else rpairs (at_ - (g + 1) - (l + 1)) ((at_ - (g + 1) - (l + 1), at_ - (g + 1)) :: out) vs
  | _, out, _ => some out
def racked : List Nat → Option (List Spn)
  | top :: len :: vs => if top < len then none else rpairs (top - len) [(top - len, top + 1)] vs
  | _ => none
/-- What an option gives. -/
def pgive {α : Type} : Option α → Prs α
  | none => pfail
  | some a => pret a
theorem fail_bind {α β : Type} (G : α → Prs β) : pbind (pfail : Prs α) G = pfail := rfl
theorem bind_fail {α β : Type} (F : Prs α) : (pbind F fun _ => (pfail : Prs β)) = pfail := by
  funext xs
  unfold pbind pfail
  cases F xs <;> rfl
theorem low_eq (v far : Nat) : low v far = if v < far then pfail else pret (v - far) := rfl
theorem rdMany_pairs : ∀ (n at_ : Nat) (out : List Spn), rdMany n false at_ out = pbind (rtake (2 * n)) fun vs => pgive (rpairs at_ out vs)
  | 0, at_, out => rfl
  | n + 1, at_, out => by
    rw [rdMany, show 2 * (n + 1) = 2 * n + 1 + 1 by omega, rtake, rtake]
    simp only [rdTop, Bool.false_eq_true, if_false, pbind_assoc, pret_bind]
    congr 1
    funext g
    rw [low_eq]
    by_cases h1 : at_ < g + 1
    · rw [if_pos h1, fail_bind]
      simp only [rpairs, h1, true_or, if_true, pgive, bind_fail]
    · rw [if_neg h1, pret_bind]
      congr 1
      funext l
      rw [low_eq]
      by_cases h2 : at_ - (g + 1) < l + 1
      · rw [if_pos h2, fail_bind]
        simp only [rpairs, h2, or_true, if_true, pgive, bind_fail]
      · rw [if_neg h2, pret_bind, rdMany_pairs n]
        simp only [rpairs, h1, h2, or_self, if_false]
theorem rdMany_first (n t : Nat) : rdMany (n + 1) true (t + 1) [] = pbind num1 fun l => if t < l then pfail else pbind (rtake (2 * n)) fun vs => pgive (rpairs (t - l) [(t - l, t + 1)] vs) := by
  rw [rdMany]
  simp only [rdTop, if_true, pret_bind]
  congr 1
  funext l
  rw [low_eq]
  by_cases h : t < l
  · rw [if_pos h, if_pos (by omega), fail_bind]
  · rw [if_neg h, if_neg (by omega), pret_bind, show t + 1 - (l + 1) = t - l by omega, rdMany_pairs]
theorem ite_bind {α β : Type} (c : Prop) [Decidable c] (F G : Prs α) (H : α → Prs β) : pbind (if c then F else G) H = if c then pbind F H else pbind G H := by split <;> rfl
/-- An answer's spans, all numbers first. -/
theorem rdSpans_acked (n : Nat) : (pbind num1 fun t => rdMany (n + 1) true (t + 1) []) = pbind (rtake (2 * (n + 1))) fun vs => pgive (racked vs) := by
  rw [show 2 * (n + 1) = 2 * n + 1 + 1 by omega, rtake, rtake]
  simp only [pbind_assoc, pret_bind]
  congr 1
  funext t
  rw [rdMany_first]
  congr 1
  funext l
  by_cases h : t < l
  · simp only [h, if_true, racked, pgive, bind_fail]
  · simp only [h, if_false, racked]
theorem rdMany_length : ∀ (n : Nat) (first : Bool) (at_ : Nat) (out : List Spn) {xs : List Nat} {s : List Spn} {r : List Nat}, rdMany n first at_ out xs = some (s, r) → s.length = n + out.length
  | 0, _, _, out, xs, s, r, h => by injection h with h; injection h with h1 h2; rw [← h1]; simp
  | n + 1, first, at_, out, xs, s, r, h => by
    obtain ⟨t, m, h1, h2⟩ := pbind_some h
    obtain ⟨l, m2, h3, h4⟩ := pbind_some h2
    obtain ⟨u, m3, h5, h6⟩ := pbind_some h4
    rw [rdMany_length n _ _ _ h6, List.length_cons]
    omega
/-- The document's answer (of Kind k), behind its Kind. -/
def dack (k : Nat) : Prs Fr := pbind num1 fun c => if c < 1 ∨ 32 < c then pfail else pbind (rtake (2 * c)) fun vs => pbind (rtake (if k = 3 then 2 else 1)) fun more => pbind (pgive (racked vs)) fun s =>
  pret { Fr.zero with kind := (k : Int), spans := s, delay := more.headD 0, ce := if k = 3 then (more.drop 1).headD 0 else 0 }
/-- How many numbers a Kind has. -/
def dcount (k : Nat) : Nat := if k = 4 ∨ k = 6 ∨ k = 14 then 3 else if k = 5 ∨ k = 17 ∨ k = 21 then 2 else if k = 16 ∨ k = 18 ∨ k = 20 ∨ k = 28 then 1 else 0
/-- A frame of a Kind's numbers. -/
def dplain (k : Nat) (l : List Nat) : Fr :=
  if k = 4 then { Fr.zero with kind := (k : Int), id := l.getD 0 0, code := l.getD 1 0, max := l.getD 2 0 }
  else if k = 5 then { Fr.zero with kind := (k : Int), id := l.getD 0 0, code := l.getD 1 0 }
  else if k = 6 then { Fr.zero with kind := (k : Int), max := l.getD 0 0, off := l.getD 1 0, id := l.getD 2 0 }
  else if k = 14 then { Fr.zero with kind := (k : Int), id := l.getD 0 0, off := l.getD 1 0 }
  else if k = 16 ∨ k = 18 ∨ k = 20 then { Fr.zero with kind := (k : Int), max := l.getD 0 0 }
  else if k = 17 ∨ k = 21 then { Fr.zero with kind := (k : Int), id := l.getD 0 0, max := l.getD 1 0 }
  else if k = 28 then { Fr.zero with kind := (k : Int), code := l.getD 0 0 }
  else { Fr.zero with kind := (k : Int) }
def dbehind (k : Nat) (fin : Bool) : Prs Fr :=
  if k = 2 ∨ k = 3 then dack k
  else pbind (rtake (dcount k)) fun l => if k = 14 then (if 1200 < l.getD 2 0 then pfail else pbind (rdTake (l.getD 2 0)) fun d => pret { dplain 14 l with fin := fin, data := d }) else pret (dplain k l)
end Wig
