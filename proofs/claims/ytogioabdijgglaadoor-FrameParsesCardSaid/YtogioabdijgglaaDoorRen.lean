/-
  What the document's laid and Encode of layer 5 return. No condition.
-/
import Derived.Test.YtogioabdijgglaaDoorRlk
import Derived.Test.YtogioabdijgglaaDoorRnm
import Derived.Test.YtogioabdijgglaaDoorFew
namespace Wig
set_option linter.unusedSimpArgs false
theorem gaps_le {M : Nat} (hM : 0 < M) : ∀ (r : List Spn) (p : Spn), p.1 < M → (∀ s ∈ r, s.1 < M ∧ s.2 ≤ M) → ∀ x ∈ gaps p r, x < M
  | [], _, _, _, x, h => by simp [gaps] at h
  | s :: r, p, hp, hr, x, h => by
    obtain ⟨h1, h2⟩ := hr s (List.mem_cons_self ..)
    rw [gaps] at h
    rcases List.mem_cons.1 h with rfl | h
    · omega
    · rcases List.mem_cons.1 h with rfl | h
      · omega
      · exact gaps_le hM r s h1 (fun t ht => hr t (List.mem_cons_of_mem _ ht)) x h
theorem spNums_fit {l : List Spn} (h : spFit l = true) : (spNums l).length ≤ 70 ∧ ∀ x ∈ spNums l, x < 4611686018427387904 := by
  obtain ⟨s, r, e1, e2, hl, h32, hok, hs⟩ := spFit_parts h
  have hall : ∀ t ∈ l, t.1 < 4611686018427387904 ∧ t.2 ≤ 4611686018427387904 := fun t ht => by
    obtain ⟨j, hj⟩ := List.getElem?_of_mem ht
    have := spOk_one hok hj
    omega
  have hsm := hall s (by rw [e2]; simp)
  have hrl : r.length + 1 = l.length := by have := congrArg List.length e1; simpa using this.symm
  unfold spNums
  rw [e1]
  simp only []
  refine ⟨by simp only [List.length_cons, gaps_len]; omega, fun x hx => ?_⟩
  rcases List.mem_cons.1 hx with rfl | hx
  · omega
  · rcases List.mem_cons.1 hx with rfl | hx
    · omega
    · rcases List.mem_cons.1 hx with rfl | hx
      · omega
      · exact gaps_le (by decide) r s hsm.1 (fun t ht => hall t (by rw [e2]; simp [ht])) x hx
theorem rlaid_fit {f : Fr} (h : fine f = true) : (rlaid f).length ≤ 100 ∧ ∀ x ∈ rlaid f, x < 4611686018427387904 := by
  obtain ⟨has, hf, h1, h2, h3⟩ := fine_parts h
  have hd := fine_data h
  have hk := (wkind_of h hf).2.2
  have h6 : has.contains 6 = true → (spNums f.spans).length ≤ 70 ∧ ∀ x ∈ spNums f.spans, x < 4611686018427387904 := fun e => by
    rw [e] at h2
    exact spNums_fit (by simpa [spansFit] using h2)
  have hget := fine_get h
  unfold rlaid
  rw [hf, Option.getD_some]
  constructor
  · rcases flds_cases hf with ⟨_, rfl⟩ | ⟨_, rfl⟩ | ⟨_, rfl⟩ | ⟨_, rfl⟩ | ⟨_, rfl⟩ | ⟨_, rfl⟩ | ⟨_, rfl⟩ | ⟨_, rfl⟩ | ⟨_, rfl⟩ | ⟨_, rfl⟩ | ⟨_, rfl⟩ | ⟨_, rfl⟩ | ⟨_, rfl⟩ | ⟨_, rfl⟩ | ⟨_, rfl⟩
    case inr.inr.inl => have := (h6 rfl).1; simp [fnums]; omega
    case inr.inr.inr.inl => have := (h6 rfl).1; simp [fnums]; omega
    all_goals simp [fnums]
  · intro x hx
    rcases List.mem_cons.1 hx with rfl | hx
    · omega
    · obtain ⟨k, hkm, hxk⟩ := List.mem_flatMap.1 hx
      unfold fnums at hxk
      split at hxk
      · rename_i e; subst e; exact (h6 (by simpa using hkm)).2 x hxk
      · split at hxk
        · simp at hxk; omega
        · simp at hxk; have := hget k; omega
end Wig
namespace Go.Proofs.YtogioabdijgglaaDoor
open Go.ChangeShapes Go.WideShapes Go.ChangeAt Go.RowKit Go.Deep
set_option linter.unusedVariables false

theorem rlaid_any (v : Value) (f : Wig.Fr) (w : World) (hv : Fv w w.heap.size v f) (ho : f.Ok) (hfine : Wig.fine f = true) :
    Calls Tryd.prog 22 #[v] w fun e w' => ∃ v', e = .returned v' ∧ OwnN .u64 22 w' w.heap.size v' (Wig.rlaid f) ∧ Below w.heap.size w w' := by
  obtain ⟨has, hf, h1, h2, h3⟩ := Wig.fine_parts hfine
  have hk : f.kind = ((Wig.knat f.kind : Nat) : Int) := Wig.knat_of ho.kind (Wig.flds_le hf)
  by_cases g2 : Wig.knat f.kind = 2
  · rw [g2] at hf hk
    obtain rfl : has = [6, 4] := by have : Wig.flds 2 = some [6, 4] := rfl; rw [this] at hf; injection hf with e; exact e.symm
    have hs : Wig.spFit f.spans = true := by simpa [Wig.spansFit] using h2
    obtain ⟨s, r, -, -, hl, h32, hok, -⟩ := Wig.spFit_parts hs
    have hfin := fin_no hfine (has := [6, 4]) (by rw [g2]; rfl) rfl
    have e : Wig.rlaid f = (2 :: Wig.spNums f.spans) ++ [f.delay] := by
      unfold Wig.rlaid Wig.wkind
      rw [hfin, g2]
      simp [Wig.fnums, Wig.flds, Wig.Fr.get]
    rw [e]
    exact rlaid_ack2 v f 2 w hv hk (.inl rfl) (by have := congrArg List.length (show f.spans = f.spans from rfl); omega) h32 hok rfl rfl
  · by_cases g3 : Wig.knat f.kind = 3
    · rw [g3] at hf hk
      obtain rfl : has = [6, 4, 5] := by have : Wig.flds 3 = some [6, 4, 5] := rfl; rw [this] at hf; injection hf with e; exact e.symm
      have hs : Wig.spFit f.spans = true := by simpa [Wig.spansFit] using h2
      obtain ⟨s, r, -, -, hl, h32, hok, -⟩ := Wig.spFit_parts hs
      have hfin := fin_no hfine (has := [6, 4, 5]) (by rw [g3]; rfl) rfl
      have e : Wig.rlaid f = (3 :: Wig.spNums f.spans) ++ [f.delay, f.ce] := by
        unfold Wig.rlaid Wig.wkind
        rw [hfin, g3]
        simp [Wig.fnums, Wig.flds, Wig.Fr.get]
      rw [e]
      exact rlaid_ack3 v f 3 w hv hk (.inr rfl) (by omega) h32 hok rfl rfl
    · exact rlaid_plain v f w hv ho hfine g2 g3
theorem rcheck_any (v : Value) (f : Wig.Fr) (w : World) (hv : Fv w w.heap.size v f) (ho : f.Ok) :
    Calls Tryd.prog 10 #[v] w fun e w' => e = .returned (.int .i64 ((Wig.ferr f : Nat) : Int)) ∧ Below w.heap.size w w' := by
  cases hf : Wig.flds (Wig.knat f.kind) with
  | none =>
    have e := ferr_no (fine_none hf)
    exact (rcheck_none v f w hv hf).mono fun x w' ⟨h1, h2⟩ => ⟨by rw [h1, e]; rfl, h2⟩
  | some has => exact rcheck_some v f has w hv ho hf
end Go.Proofs.YtogioabdijgglaaDoor
