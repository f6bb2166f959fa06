/-
  The document's frame behind a Kind is the readers' frame. Plain numbers and lists. No condition.
-/
import Derived.Test.YtogioabdijgglaaDoorRpm
set_option linter.unusedVariables false
set_option linter.unusedSimpArgs false
namespace Wig
theorem bind_congr {α β : Type} {F : Prs α} {G H : α → Prs β} (h : ∀ a, G a = H a) : pbind F G = pbind F H := by
  rw [show G = H from funext h]
theorem behind_plain (k : Nat) (has : List Nat) (hf : flds k = some has) (h : k ≠ 2 ∧ k ≠ 3 ∧ k ≠ 14) : pbind (dbehind k false) rdEnd = rdKind k := by
  obtain ⟨h2, h3, h14⟩ := h
  have hb : kbase k = k := by
    unfold kbase
    rw [if_neg]
    intro e
    subst e
    cases hf
  unfold rdKind
  rw [hb, hf]
  unfold dbehind
  rw [if_neg (by omega), pbind_assoc]
  rcases flds_cases hf with ⟨e, rfl⟩ | ⟨e, rfl⟩ | ⟨e, rfl⟩ | ⟨e, rfl⟩ | ⟨e, rfl⟩ | ⟨e, rfl⟩ | ⟨e, rfl⟩ | ⟨e, rfl⟩ | ⟨e, rfl⟩ | ⟨e, rfl⟩ | ⟨e, rfl⟩ | ⟨e, rfl⟩ | ⟨e, rfl⟩ | ⟨e, rfl⟩ | ⟨e, rfl⟩ <;> subst e <;>
    first
    | omega
    | (simp [dcount, rtake, rdAll, rdField, pbind_assoc, pret_bind, dplain, Fr.put, fbase, kbase, Fr.zero]; done)
theorem behind_data (fin : Bool) : pbind (dbehind 14 fin) rdEnd = rdKind (if fin then 15 else 14) := by
  have e : rdKind (if fin then 15 else 14) = pbind (rdAll [0, 1, 7] { Fr.zero with kind := 14, fin := fin }) rdEnd := by
    cases fin <;> rfl
  rw [e]
  unfold dbehind
  rw [if_neg (by omega), pbind_assoc]
  simp only [dcount, rtake, rdAll, rdField, rdData, pbind_assoc, pret_bind, if_true, Nat.reduceEqDiff, if_false, or_true, true_or, Nat.reduceEqDiff, Nat.one_ne_zero]
  refine bind_congr fun a => ?_
  refine bind_congr fun b => ?_
  refine bind_congr fun n => ?_
  simp only [List.getD_cons_zero, List.getD_cons_succ]
  by_cases h : 1200 < n
  · rw [if_pos h, fail_bind]
    funext xs
    unfold pbind rdTake
    by_cases h2 : xs.length < n
    · rw [if_pos h2]; rfl
    · rw [if_neg h2]
      simp only []
      unfold rdEnd
      rw [if_neg]
      · rfl
      · intro hfine
        have := fine_data hfine
        simp only [List.length_take] at this
        omega
  · rw [if_neg h, pbind_assoc]
    refine bind_congr fun d => ?_
    rw [pret_bind]
    rfl
end Wig
namespace Wig
theorem give_swap {α β γ : Type} (o : Option α) (F : Prs β) (G : β → α → Prs γ) : (pbind F fun b => pbind (pgive o) fun a => G b a) = pbind (pgive o) fun a => pbind F fun b => G b a := by
  cases o with
  | none => exact bind_fail F
  | some a => rfl
/-- An ack's spans, with the numbers behind: the document's order of the numbers, the readers' answer. -/
theorem rdSpans_count {γ : Type} (G : List Spn → Prs γ) (hG : ∀ s, (s.length < 1 ∨ 32 < s.length) → G s = pfail) :
    pbind rdSpans G = pbind num1 fun c => if c < 1 ∨ 32 < c then pfail else pbind (rtake (2 * c)) fun vs => pbind (pgive (racked vs)) G := by
  unfold rdSpans
  rw [pbind_assoc]
  refine bind_congr fun c => ?_
  by_cases h : c < 1 ∨ 32 < c
  · rw [if_pos h, pbind_assoc]
    rw [show (fun t => pbind (rdMany c true (t + 1) []) G) = fun _ => pfail from ?_, bind_fail]
    funext t xs
    unfold pbind
    cases e : rdMany c true (t + 1) [] xs with
    | none => rfl
    | some p =>
      obtain ⟨s, r⟩ := p
      have hl := rdMany_length c true (t + 1) [] e
      rw [List.length_nil, Nat.add_zero] at hl
      simp only []
      rw [hG s (by omega)]
      rfl
  · rw [if_neg h]
    obtain ⟨n, rfl⟩ : ∃ n, c = n + 1 := ⟨c - 1, by omega⟩
    rw [rdSpans_acked, pbind_assoc]
theorem end_fail {f : Fr} (h : fine f = false) : rdEnd f = pfail := by
  unfold rdEnd
  rw [h]
  rfl
theorem ack_far {f : Fr} (k : Nat) (hk : k = 2 ∨ k = 3) (hf : f.kind = (k : Int)) (h : f.spans.length < 1 ∨ 32 < f.spans.length) : rdEnd f = pfail := by
  refine end_fail ?_
  cases e : fine f with
  | false => rfl
  | true =>
    obtain ⟨has, h1, _, h2, _⟩ := fine_parts e
    have : knat f.kind = k := by rw [hf]; unfold knat; omega
    rw [this] at h1
    have h6 : has.contains 6 = true := by
      rcases hk with rfl | rfl <;> (cases h1; rfl)
    rw [h6] at h2
    simp only [spansFit, if_true, spFit, Bool.and_eq_true, decide_eq_true_eq] at h2
    omega
theorem behind_ack2 : pbind (dbehind 2 false) rdEnd = rdKind 2 := by
  have e : rdKind 2 = pbind rdSpans fun s => pbind num1 fun v => rdEnd { Fr.zero with kind := 2, spans := s, delay := v } := by
    show pbind (rdAll [6, 4] { Fr.zero with kind := 2, fin := false }) rdEnd = _
    simp only [rdAll, rdField, pbind_assoc, pret_bind, if_true, if_false, Nat.reduceEqDiff]
    rfl
  rw [e, rdSpans_count _ (fun s hs => by
    rw [← bind_fail num1]
    refine bind_congr fun v => ?_
    exact ack_far 2 (Or.inl rfl) rfl hs)]
  unfold dbehind
  rw [if_pos (Or.inl rfl)]
  unfold dack
  rw [pbind_assoc]
  refine bind_congr fun c => ?_
  by_cases h : c < 1 ∨ 32 < c
  · rw [if_pos h, if_pos h, fail_bind]
  · rw [if_neg h, if_neg h, pbind_assoc]
    refine bind_congr fun vs => ?_
    rw [give_swap, pbind_assoc]
    refine bind_congr fun s => ?_
    simp only [Nat.reduceEqDiff, if_false, rtake, pbind_assoc, pret_bind, List.headD_cons]
    rfl
theorem behind_ack3 : pbind (dbehind 3 false) rdEnd = rdKind 3 := by
  have e : rdKind 3 = pbind rdSpans fun s => pbind num1 fun v => pbind num1 fun u => rdEnd { Fr.zero with kind := 3, spans := s, delay := v, ce := u } := by
    show pbind (rdAll [6, 4, 5] { Fr.zero with kind := 3, fin := false }) rdEnd = _
    simp only [rdAll, rdField, pbind_assoc, pret_bind, if_true, if_false, Nat.reduceEqDiff]
    rfl
  rw [e, rdSpans_count _ (fun s hs => by
    rw [← bind_fail num1]
    refine bind_congr fun v => ?_
    rw [← bind_fail num1]
    refine bind_congr fun u => ?_
    exact ack_far 3 (Or.inr rfl) rfl hs)]
  unfold dbehind
  rw [if_pos (Or.inr rfl)]
  unfold dack
  rw [pbind_assoc]
  refine bind_congr fun c => ?_
  by_cases h : c < 1 ∨ 32 < c
  · rw [if_pos h, if_pos h, fail_bind]
  · rw [if_neg h, if_neg h, pbind_assoc]
    refine bind_congr fun vs => ?_
    rw [give_swap, pbind_assoc]
    refine bind_congr fun s => ?_
    simp only [if_true, rtake, pbind_assoc, pret_bind]
    rfl
/-- The document's frame of any Kind that is. -/
theorem behind_kind (k : Nat) (h : (flds (kbase k)).isSome = true) : pbind (dbehind (kbase k) (decide (k = 15))) rdEnd = rdKind k := by
  by_cases h15 : k = 15
  · subst h15; exact behind_data true
  have hb : kbase k = k := by unfold kbase; rw [if_neg h15]
  rw [decide_eq_false h15, hb]
  rw [hb] at h
  by_cases h2 : k = 2
  · subst h2; exact behind_ack2
  by_cases h3 : k = 3
  · subst h3; exact behind_ack3
  by_cases h14 : k = 14
  · subst h14; exact behind_data false
  obtain ⟨has, hf⟩ := Option.isSome_iff_exists.1 h
  exact behind_plain k has hf ⟨h2, h3, h14⟩
theorem kind_none (k : Nat) (h : (flds (kbase k)).isSome = false) : rdKind k = pfail := by
  unfold rdKind
  rw [Option.isSome_eq_false_iff, Option.isNone_iff_eq_none] at h
  rw [h]
end Wig
