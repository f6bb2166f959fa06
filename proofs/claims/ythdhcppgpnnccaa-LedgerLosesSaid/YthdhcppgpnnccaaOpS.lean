/-
  An argument's slice of spans, opened with its room. No condition beyond what the memory holds.
-/
import Derived.Test.YthdhcppgpnnccaaSpn
import Derived.Test.YthdhcppgpnnccaaOpen
namespace Go.Proofs.Ythdhcppgpnnccaa
open Go.ChangeShapes Go.WideShapes Go.ChangeAt Go.RowKit Go.Deep Go.Joins
set_option linter.unusedVariables false

/-- An argument's slice of spans, opened, with its room. -/
theorem open_spansc {H : Type} {enc : TypeId × Value → H} {P : Program} {w : World} {base : Nat} {spare : Nat → Bool} {held : Bool} {t e u : TypeId} {f0 f1 : Field} {v : Value} {d : DataW H} {ps : List MemPlace} {r : Reach} {b0 : Nat}
    (ht : P.underlying t = some (.slice e)) (he : P.underlying e = some (.struct #[f0, f1])) (hone : oneCellFields P #[f0, f1] = true) (hC : P.cellsOf e = 2)
    (hf0 : f0.type = u) (hf1 : f1.type = u) (hu : P.underlying u = some (.int .u64))
    (hv : Value.okWide P w r b0 t v) (h : DataW.Trod enc P w base spare held t v d ps) (hlt : ∀ x ∈ ps, x.block < w.heap.size) :
    ∃ A c ss, v = .slice A ss.length c ∧ Wig.SFits ss ∧ RdS w w.heap.size A ss ∧ ss.length ≤ maxLen ∧ ss.length ≤ c := by
  obtain ⟨A, c, ss, rfl, hf, hr, hm⟩ := open_spans ht he hone hC hf0 hf1 hu hv h hlt
  refine ⟨A, c, ss, rfl, hf, hr, hm, ?_⟩
  obtain ⟨fuel, hf'⟩ := h
  rcases open_slice ht hf' with ⟨hcs, _⟩ | ⟨a, len, cap, m, n, D, Pl, hcs, hb, hl, _⟩
  · simp [Value.cells] at hcs
    simp [hcs.2.1]
  · simp [Value.cells] at hcs
    omega
end Go.Proofs.Ythdhcppgpnnccaa
