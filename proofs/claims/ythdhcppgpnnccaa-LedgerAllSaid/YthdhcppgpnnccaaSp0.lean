/-
  Spans of numbers as pairs. No condition: nothing of the program is named here.
-/
import GoSem.Op.String
namespace Wig
/-- A span: its first number, and the one behind its last. -/
abbrev Spn := Nat × Nat
def SFits (ss : List Spn) : Prop := ∀ p ∈ ss, p.1 < 18446744073709551616 ∧ p.2 < 18446744073709551616
end Wig
