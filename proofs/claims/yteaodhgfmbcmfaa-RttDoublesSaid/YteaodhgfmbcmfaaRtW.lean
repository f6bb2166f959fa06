/-
  What the head of layer 8's statements returns: true. No condition.
-/
import Derived.Test.YteaodhgfmbcmfaaRtD
import Derived.Deep.CutBlock
import Derived.Deep.DeepCutAuto
namespace Go.Proofs.Yteaodhgfmbcmfaa
open Go.ChangeShapes Go.WideShapes Go.ChangeAt Go.RowKit
set_option linter.unusedVariables false

set_option maxHeartbeats 4000000 in
theorem awake_any (w : World) : Calls Try.prog 8 #[] w fun e w' => e = .returned (.bool true) ∧ Below w.heap.size w w' := by
  have ok0 : Wig.Rt.Ok ⟨false, 0, 0, 0, 0⟩ := ⟨by decide, by decide, by decide, by decide⟩
  have ok1 : Wig.Rt.Ok ⟨true, 100, 100, 100, 50⟩ := ⟨by decide, by decide, by decide, by decide⟩
  have C1 := Lib.hid (show ∀ w, Calls Try.prog 9 #[.agg #[.bool false, .int .u64 0, .int .u64 0, .int .u64 0, .int .u64 0], .int .u64 100, .int .u64 0, .int .u64 25] w fun e w' =>
      e = .returned (.agg #[.bool true, .int .u64 100, .int .u64 100, .int .u64 100, .int .u64 50]) ∧ Below w.heap.size w w' from
    fun w => update_any false 0 0 0 0 100 0 25 100 100 100 50 w ok0 (by decide) (by decide) (by decide) (by decide +kernel))
  have C2 := Lib.hid (show ∀ w, Calls Try.prog 9 #[.agg #[.bool true, .int .u64 100, .int .u64 100, .int .u64 100, .int .u64 50], .int .u64 150, .int .u64 10, .int .u64 25] w fun e w' =>
      e = .returned (.agg #[.bool true, .int .u64 150, .int .u64 100, .int .u64 105, .int .u64 48]) ∧ Below w.heap.size w w' from
    fun w => update_any true 100 100 100 50 150 10 25 150 100 105 48 w ok1 (by decide) (by decide) (by decide) (by decide +kernel))
  have C3 := Lib.hid (show ∀ w, Calls Try.prog 11 #[.agg #[.bool false, .int .u64 0, .int .u64 0, .int .u64 0, .int .u64 0], .int .u64 25, .int .i64 0] w fun e w' =>
      e = .returned (.int .u64 1022) ∧ Below w.heap.size w w' from
    fun w => timeout_any false 0 0 0 0 25 1022 0 w ok0 (by decide) (by decide) (by decide) (by decide +kernel))
  have C4 := Lib.hid (show ∀ w, Calls Try.prog 13 #[.agg #[.bool false, .int .u64 0, .int .u64 0, .int .u64 0, .int .u64 0]] w fun e w' =>
      e = .returned (.int .u64 374) ∧ Below w.heap.size w w' from
    fun w => late_any false 0 0 0 0 374 w ok0 (by decide +kernel))
  have g := rtt_guard
  have ee := rtt_same true 100 100 100 50
  have N := Lib.hid (fun (w : World) => (show Bx w.heap.size true 150 100 105 48 (w.alloc (.cells #[.bool true, .int .u64 150, .int .u64 100, .int .u64 105, .int .u64 48] 24)) from Bx.new w true 150 100 105 48))
  have M := Lib.hid (fun (w : World) => (show Bx w.heap.size true 100 100 100 50 (w.alloc (.cells #[.bool true, .int .u64 100, .int .u64 100, .int .u64 100, .int .u64 50] 24)) from Bx.new w true 100 100 100 50))
  have A := Lib.hid (fun (w : World) (o : Obj) => (show Below w.heap.size w (w.alloc o) from (Below.refl _ _).alloc (Nat.le_refl _) o))
  have Z := Lib.hid (fun (w : World) (o : Obj) => (show (w.alloc o).heap.size = w.heap.size + 1 by simp))
  clear ok0 ok1
  go_enter Try.func8, Try.ntmps8
  go_wp2_with fail
  refine (C1.out _).mono ?_
  rintro e w1 ⟨rfl, hb1⟩
  have B1 := Lib.hid hb1
  clear hb1
  go_wp2_with fail
  obtain ⟨w2, hw2⟩ : ∃ w2, w2 = w1.alloc (.cells #[.bool true, .int .u64 100, .int .u64 100, .int .u64 100, .int .u64 50] 24) := ⟨_, rfl⟩
  rw [← hw2]
  have X2 := Lib.hid (hw2 ▸ M.out w1)
  have S2 := Lib.hid (show w1.heap.size < w2.heap.size by rw [hw2, Z.out]; omega)
  have B2 := Lib.hid (show Below w.heap.size w w2 from below_trans' B1.out (hw2 ▸ A.out w1 _))
  clear hw2
  refine (C2.out _).mono ?_
  rintro e w3 ⟨rfl, hb3⟩
  have B3 := Lib.hid (below_trans' B2.out hb3)
  have X3 := Lib.hid (X2.out.below hb3 S2.out)
  have S3 := Lib.hid (show w1.heap.size < w3.heap.size by have := S2.out; have := hb3.size; omega)
  clear hb3
  go_upto_region 3 with fail
  obtain ⟨w4, hw4⟩ : ∃ w4, w4 = w3.alloc (.cells #[.bool true, .int .u64 150, .int .u64 100, .int .u64 105, .int .u64 48] 24) := ⟨_, rfl⟩
  rw [← hw4]
  have Y4 := Lib.hid (hw4 ▸ N.out w3)
  have S4 := Lib.hid (show w3.heap.size < w4.heap.size by rw [hw4, Z.out]; omega)
  have X4 := Lib.hid (X3.out.below (show Below w3.heap.size w3 w4 from hw4 ▸ A.out w3 _) S3.out)
  have B4 := Lib.hid (show Below w.heap.size w w4 from below_trans' B3.out (hw4 ▸ A.out w3 _))
  clear hw4
  obtain ⟨k0, k1, k2, k3, k4, -, -, -, -, -⟩ := X4.out
  obtain ⟨m0, m1, m2, m3, m4, -, -, -, -, -⟩ := Y4.out
  go_wp2_with fail
  refine (C3.out _).mono ?_
  rintro e w5 ⟨rfl, hb5⟩
  have B5 := Lib.hid (below_trans' B4.out hb5)
  clear hb5 k0 k1 k2 k3 k4 m0 m1 m2 m3 m4
  go_wp2_with fail
  refine (C4.out _).mono ?_
  rintro e w6 ⟨rfl, hb6⟩
  have B6 := Lib.hid (below_trans' B5.out hb6)
  clear hb6
  go_wp2_with fail
  go_ret
  exact ⟨rfl, B6.out⟩
end Go.Proofs.Yteaodhgfmbcmfaa
