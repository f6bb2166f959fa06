/-
  Arguments of 16 bits opened to plain numbers. No condition.
-/
import Derived.Test.YtjojnbeflongkaaDoorOpen
namespace Go.Proofs.YtjojnbeflongkaaDoor
open Go.ChangeShapes Go.WideShapes Go.ChangeAt Go.RowKit Go.Deep Go.Joins
theorem nat_of_u16 {a : Int} (h : (Lit.int .u16 a).wf = true) : ∃ n : Nat, a = (n : Int) ∧ n < 65536 := by
  have hx : 0 ≤ a ∧ a ≤ 65535 := by simpa [Lit.wf, IntKind.min, IntKind.max, IntKind.signed, IntKind.bits] using h
  exact ⟨a.toNat, by omega, by omega⟩
/-- A number of 16 bits. -/
theorem open_u16 {H : Type} {enc : TypeId × Value → H} {P : Program} {w : World} {base : Nat} {spare : Nat → Bool} {held : Bool} {r : Reach} {b0 : Nat} {d : DataW H} {ps : List MemPlace} {v : Value} {t : TypeId} (ht : P.underlying t = some (.int .u16))
    (hv : Value.okWide P w r b0 t v) (h : DataW.Trod enc P w base spare held t v d ps) : ∃ n : Nat, v = .int .u16 (n : Int) ∧ n < 65536 := by
  obtain ⟨a, rfl, _, _, wa⟩ := open_int ht hv h
  obtain ⟨n, rfl, hn⟩ := nat_of_u16 wa
  exact ⟨n, rfl, hn⟩
end Go.Proofs.YtjojnbeflongkaaDoor
