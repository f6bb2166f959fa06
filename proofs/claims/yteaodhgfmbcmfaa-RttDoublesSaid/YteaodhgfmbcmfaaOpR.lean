/-
  A struct among a law's arguments (wigwag/api.Rtt), opened to its numbers. No condition.
-/
import Derived.Test.YteaodhgfmbcmfaaOpen
namespace Go.Proofs.Yteaodhgfmbcmfaa
open Go.ChangeShapes Go.WideShapes Go.ChangeAt Go.RowKit Go.Deep Go.Joins
set_option linter.unusedVariables false

theorem list_open_rtt {α : Type} {cs : List α} (h : cs.length = 5) : ∃ c0 c1 c2 c3 c4, cs = [c0, c1, c2, c3, c4] := by
  match cs, h with
  | [c0, c1, c2, c3, c4], _ => exact ⟨c0, c1, c2, c3, c4, rfl⟩
set_option maxRecDepth 100000 in
/-- wigwag/api.Rtt by value. -/
theorem open_rtt {H : Type} {enc : TypeId × Value → H} {w : World} {base : Nat} {spare : Nat → Bool} {held : Bool} {r : Reach} {b0 : Nat} {d : DataW H} {ps : List MemPlace} {v : Value}
    (hv : Value.okWide Try.prog w r b0 24 v) (h : DataW.Trod enc Try.prog w base spare held 24 v d ps) :
    ∃ (x0 : Bool) (x1 : Nat) (x2 : Nat) (x3 : Nat) (x4 : Nat), v = .agg #[.bool x0, .int .u64 (x1 : Int), .int .u64 (x2 : Int), .int .u64 (x3 : Int), .int .u64 (x4 : Int)] ∧ x1 < 18446744073709551616 ∧ x2 < 18446744073709551616 ∧ x3 < 18446744073709551616 ∧ x4 < 18446744073709551616 := by
  have hC : Try.prog.cellsOf 24 = 5 := by kernel_rfl
  have hone : oneCellFields Try.prog (Try.prog.fieldsOf 24) = true := by kernel_rfl
  have hu : Try.prog.underlying 24 = some (.struct (Try.prog.fieldsOf 24)) := by kernel_rfl
  have ty : (Try.prog.fieldsOf 24).map (·.type) = #[4, 22, 22, 22, 22] := by kernel_rfl
  obtain ⟨ca, rfl, hsz⟩ := okWide_struct hu hv
  obtain ⟨fuel, hf⟩ := h
  obtain ⟨xs, n, _, _, hl, hlen, hfs⟩ := DataW.trod_struct hu hf
  rw [hC] at hl
  obtain ⟨c0, c1, c2, c3, c4, e⟩ := list_open_rtt hl
  have get : ∀ (j : Nat) (t : TypeId), (#[4, 22, 22, 22, 22] : Array TypeId)[j]? = some t →
      ∃ z, DataW.trod enc Try.prog w base spare held n t (([c0, c1, c2, c3, c4].drop j).take 1) = some z := by
    intro j t hj
    rw [← ty, Array.getElem?_map] at hj
    cases hg : (Try.prog.fieldsOf 24)[j]? with
    | none => rw [hg] at hj; cases hj
    | some fd =>
      rw [hg] at hj
      simp only [Option.map_some, Option.some.injEq] at hj
      obtain ⟨o, k⟩ := hone_of hone j fd hg
      have h := hfs j fd (by first | exact hg | simpa using hg | (rw [← Array.getElem?_toList] at hg; exact hg))
      have hj2 : j < xs.length := by
        have := (Array.getElem?_eq_some_iff.1 hg).1
        omega
      rw [o, k, hj, e] at h
      refine ⟨xs[j], ?_⟩
      first | exact h | simpa [List.getElem?_eq_getElem hj2] using h
  obtain ⟨z0, h0⟩ := get 0 _ rfl
  obtain ⟨z1, h1⟩ := get 1 _ rfl
  obtain ⟨z2, h2⟩ := get 2 _ rfl
  obtain ⟨z3, h3⟩ := get 3 _ rfl
  obtain ⟨z4, h4⟩ := get 4 _ rfl
  obtain ⟨x0, e0, _⟩ := DataW.trod_bool Try.underlying4 h0
  simp at e0
  obtain ⟨a1, e1, _, w1⟩ := DataW.trod_int Try.underlying22 h1
  simp at e1
  obtain ⟨x1, rfl, b1⟩ := nat_of_u64 w1
  obtain ⟨a2, e2, _, w2⟩ := DataW.trod_int Try.underlying22 h2
  simp at e2
  obtain ⟨x2, rfl, b2⟩ := nat_of_u64 w2
  obtain ⟨a3, e3, _, w3⟩ := DataW.trod_int Try.underlying22 h3
  simp at e3
  obtain ⟨x3, rfl, b3⟩ := nat_of_u64 w3
  obtain ⟨a4, e4, _, w4⟩ := DataW.trod_int Try.underlying22 h4
  simp at e4
  obtain ⟨x4, rfl, b4⟩ := nat_of_u64 w4
  subst e0 e1 e2 e3 e4
  refine ⟨x0, x1, x2, x3, x4, ?_, b1, b2, b3, b4⟩
  rw [← Array.toArray_toList (xs := ca)]
  exact congrArg (fun l => Value.agg (List.toArray l)) e
end Go.Proofs.Yteaodhgfmbcmfaa
