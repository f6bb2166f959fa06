/-
  What package fix's Gain and the document's return, for all numbers of 64 bits. No condition.
-/
import Derived.Test.YtjojnbeflongkaaDoorFixMd
import Derived.Test.YtjojnbeflongkaaDoorFixRd
namespace Go.Proofs.YtjojnbeflongkaaDoor
open Go.ChangeShapes Go.WideShapes Go.ChangeAt Go.RowKit
set_option linter.unusedVariables false

theorem gain_any (a b : Nat) (w : World) (ha : a < 18446744073709551616) (hb : b < 18446744073709551616) :
    Calls Tryd.prog 37 #[.int .u64 a, .int .u64 b] w fun e w' => e = .returned (.int .u64 ((Wig.fgain a b : Nat) : Int)) ∧ ∃ n, w.drewN n = w' := by
  have hm := fun w => muldiv_any a b 256 w ha hb (by omega)
  have Hm := Lib.hid hm
  clear hm
  go_enter Tryd.func37, Tryd.ntmps37
  go_wp2_with (go_at_call 35; refine (Hm.out _).mono ?_; rintro e w' ⟨rfl, n, rfl⟩)
  go_ret
  exact ⟨rfl, _, rfl⟩

theorem rgain_any (a b : Nat) (w : World) (ha : a < 18446744073709551616) (hb : b < 18446744073709551616) :
    Calls Tryd.prog 38 #[.int .u64 a, .int .u64 b] w fun e w' => e = .returned (.int .u64 ((Wig.fgain a b : Nat) : Int)) ∧ w = w' := by
  have hm := fun w => rmuldiv_any a b 256 w ha hb (by omega)
  have Hm := Lib.hid hm
  clear hm
  go_enter Tryd.func38, Tryd.ntmps38
  go_wp2_with (go_at_call 36; refine (Hm.out _).mono ?_; rintro e w' ⟨rfl, rfl⟩)
  go_ret
  exact ⟨rfl, rfl⟩
end Go.Proofs.YtjojnbeflongkaaDoor
