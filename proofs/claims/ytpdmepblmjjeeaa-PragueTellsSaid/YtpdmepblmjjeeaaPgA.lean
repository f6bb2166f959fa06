/-
  What package prague's New, opened, elder, told, fall and endRound return, and the document's New and share, for all numbers of 64 bits. No condition.
-/
import Derived.Test.YtpdmepblmjjeeaaPrgM
import Derived.Test.YtpdmepblmjjeeaaFixSub
import Derived.Test.YtpdmepblmjjeeaaFixRd
import Derived.Test.YtpdmepblmjjeeaaBxQ
import Derived.Test.YtpdmepblmjjeeaaBxG
import Derived.Test.YtpdmepblmjjeeaaNRnC
import Derived.Test.YtpdmepblmjjeeaaNRnD
import Derived.Test.YtpdmepblmjjeeaaRgn
import Derived.Deep.QuietTactic
import Derived.BigQuiet
import Derived.Laws.StructEq
import Derived.Laws.EntriesVeiled
import Derived.Deep.DeepCutAuto
namespace Go.Proofs.Ytpdmepblmjjeeaa
open Go.ChangeShapes Go.WideShapes Go.ChangeAt Go.RowKit
set_option linter.unusedVariables false

theorem quiet_eq {P : Program} {f : FuncId} {args : Array Value} {w : World} {n : Nat} {v : Value}
    (h : Calls P f args (w.drewN n) fun e w' => e = .returned v ∧ w.drewN n = w') : Calls P f args (w.drewN n) fun e w'' => e = .returned v ∧ ∃ m, w'' = w.drewN m :=
  h.mono fun _ _ ⟨he, hm⟩ => ⟨he, n, hm.symm⟩
theorem quiet_dr {P : Program} {f : FuncId} {args : Array Value} {w : World} {n : Nat} {v : Value}
    (h : Calls P f args (w.drewN n) fun e w' => e = .returned v ∧ ∃ k, (w.drewN n).drewN k = w') : Calls P f args (w.drewN n) fun e w'' => e = .returned v ∧ ∃ m, w'' = w.drewN m :=
  h.mono fun _ _ ⟨he, k, hk⟩ => ⟨he, n + k, by rw [← hk, World.drewN_drewN]⟩
theorem same_below {P : Program} {f : FuncId} {args : Array Value} {w : World} {v : Value} (h : Calls P f args w fun e w' => e = .returned v ∧ w = w') : Calls P f args w fun e w' => e = .returned v ∧ Below w.heap.size w w' :=
  h.mono fun _ _ ⟨he, hk⟩ => ⟨he, by rw [← hk]; exact Below.refl _ _⟩
theorem drew_below {P : Program} {f : FuncId} {args : Array Value} {w : World} {v : Value} (h : Calls P f args w fun e w' => e = .returned v ∧ ∃ n, w.drewN n = w') : Calls P f args w fun e w' => e = .returned v ∧ Below w.heap.size w w' :=
  h.mono fun _ _ ⟨he, n, hk⟩ => ⟨he, by rw [← hk]; exact below_drewN' (Below.refl _ _) n⟩

/-- Two windows compared: the model's '=='. -/
theorem prague_guard : Try.prog.eqGuardType Try.prog.depth 26 = false := by kernel_rfl
theorem base_same (n : Nat) (a b c d : Int) (w : World) : (Op.equalIn (n + 3) 24 (.agg #[.int .u64 a, .int .u64 b, .int .u64 c, .int .u64 d]) (.agg #[.int .u64 a, .int .u64 b, .int .u64 c, .int .u64 d])).run Try.prog w = .ok true w := by
  have u := Try.underlying22
  have a1 := Try.isAgg22
  have z := Try.sizeOf22
  have hS : Try.prog.underlying 24 = some (.struct (Try.prog.fieldsOf 24)) := by kernel_rfl
  have hp : Try.prog.stoodInHeld 24 = false := by kernel_rfl
  rw [run_equalIn_agg w (n + 2) 24 _ _ hS hp]
  clear hS hp
  simp only [Program.fieldsOf, Try.underlying24]
  go_simp
theorem prague_same (a b c d e f g h : Int) (q : Bool) (w : World) : (binOp .eql 26 (.agg #[.int .u64 a, .int .u64 b, .int .u64 c, .int .u64 d, .int .u64 e, .int .u64 f, .int .u64 g, .int .u64 h, .bool q]) (.agg #[.int .u64 a, .int .u64 b, .int .u64 c, .int .u64 d, .int .u64 e, .int .u64 f, .int .u64 g, .int .u64 h, .bool q])).run Try.prog w = .ok (.bool true) w := by
  have u := Try.underlying22
  have u2 := Try.underlying4
  have a1 := Try.isAgg22
  have a2 := Try.isAgg4
  have a3 := Try.isAgg24
  have z := Try.sizeOf22
  have z2 := Try.sizeOf4
  have z3 := Try.sizeOf24
  have i := base_same 9996 a b c d
  have hS : Try.prog.underlying 26 = some (.struct (Try.prog.fieldsOf 26)) := by kernel_rfl
  have hp : Try.prog.stoodInHeld 26 = false := by kernel_rfl
  rw [run_eql_struct, show (10000 : Nat) = 9999 + 1 from rfl, run_equalIn_agg w 9999 26 _ _ hS hp]
  clear hS hp
  simp only [Program.fieldsOf, Try.underlying26]
  cases q <;> go_simp

theorem new_any (n : Nat) (w : World) : Calls Try.prog 17 #[.int .u64 (n : Int)] w fun e w' => e = .returned (aggPg 12000 16777216 0 0 1048576 0 0 n false) ∧ Below w.heap.size w w' := by
  obtain ⟨w1, hw1⟩ : ∃ wx, wx = w.alloc (.cells #[.int .u64 0, .int .u64 0, .int .u64 0, .int .u64 0, .int .u64 0, .int .u64 0, .int .u64 0, .int .u64 0, .bool false] 26) := ⟨_, rfl⟩
  have z1 : w1.heap.size = w.heap.size + 1 := by rw [hw1]; simp
  have t1 : Below w1.heap.size w1 w1 := Below.refl _ _
  have t0 : Below w.heap.size w w1 := (show Below w.heap.size w w1 by rw [hw1]; exact (Below.refl _ _).alloc (Nat.le_refl _) _).trans (t1.mono (by omega))
  have BN := Lib.hid t0
  have ZN := Lib.hid z1
  have XZ := Lib.hid (show BxPg w.heap.size 0 0 0 0 0 0 0 0 false w1 from (show BxPg w.heap.size 0 0 0 0 0 0 0 0 false w1 by rw [hw1]; exact BxPg.new _ 0 0 0 0 0 0 0 0 false).below t1 (by omega))
  clear t0 t1 z1
  have B1 := BN
  have XZ1 := XZ
  have SZ1 := Lib.hid (show w.heap.size < w1.heap.size by have := ZN.out; omega)
  have GZ := Lib.hid (show w.heap.size ≤ w.heap.size by omega)
  clear ZN BN XZ
  go_enter Try.func17, Try.ntmps17
  go_upto_region 1 with fail
  rw [← hw1]
  clear hw1
  go_wp2_with fail
  refine (Rno.new_any _).mono ?_
  rintro e w2 ⟨rfl, hb⟩
  have B2 := Lib.hid (below_trans' B1.out hb)
  have XZ2 := Lib.hid (XZ1.out.below hb SZ1.out)
  have SZ2 := Lib.hid (Nat.lt_of_lt_of_le SZ1.out hb.size)
  clear hb B1 XZ1 SZ1
  obtain ⟨z0, z1, z2, z3, z4, z5, z6, z7, z8, zf0, zf1, zf2, zf3, zf4, zf5, zf6, zf7, zf8⟩ := XZ2.out
  go_wp2_with fail
  show bodyPost _ _ _ _ _ (putPg w.heap.size 12000 16777216 0 0 1048576 0 0 n false w2)
  have BZ : Below w.heap.size w (putPg w.heap.size 12000 16777216 0 0 1048576 0 0 n false w2) := B2.out.trans (putPg_below GZ.out)
  obtain ⟨z0, z1, z2, z3, z4, z5, z6, z7, z8, -, -, -, -, -, -, -, -, -⟩ := (show BxPg w.heap.size 12000 16777216 0 0 1048576 0 0 n false (putPg w.heap.size 12000 16777216 0 0 1048576 0 0 n false w2) from XZ2.out.put)
  exact bodyPost_ret (v := aggPg 12000 16777216 0 0 1048576 0 0 n false) (by simp [results, Try.results17, z0, z1, z2, z3, z4, z5, z6, z7, z8, go_sem]) rfl ⟨rfl, BZ⟩
theorem rnew_any (n : Nat) (w : World) : Calls Try.prog 18 #[.int .u64 (n : Int)] w fun e w' => e = .returned (aggPg 12000 16777216 0 0 1048576 0 0 n false) ∧ Below w.heap.size w w' := by
  obtain ⟨w1, hw1⟩ : ∃ wx, wx = w.alloc (.cells #[.int .u64 0, .int .u64 0, .int .u64 0, .int .u64 0, .int .u64 0, .int .u64 0, .int .u64 0, .int .u64 0, .bool false] 26) := ⟨_, rfl⟩
  have z1 : w1.heap.size = w.heap.size + 1 := by rw [hw1]; simp
  have t1 : Below w1.heap.size w1 w1 := Below.refl _ _
  have t0 : Below w.heap.size w w1 := (show Below w.heap.size w w1 by rw [hw1]; exact (Below.refl _ _).alloc (Nat.le_refl _) _).trans (t1.mono (by omega))
  have BN := Lib.hid t0
  have ZN := Lib.hid z1
  have XZ := Lib.hid (show BxPg w.heap.size 0 0 0 0 0 0 0 0 false w1 from (show BxPg w.heap.size 0 0 0 0 0 0 0 0 false w1 by rw [hw1]; exact BxPg.new _ 0 0 0 0 0 0 0 0 false).below t1 (by omega))
  clear t0 t1 z1
  have B1 := BN
  have XZ1 := XZ
  have SZ1 := Lib.hid (show w.heap.size < w1.heap.size by have := ZN.out; omega)
  have GZ := Lib.hid (show w.heap.size ≤ w.heap.size by omega)
  clear ZN BN XZ
  go_enter Try.func18, Try.ntmps18
  go_upto_region 1 with fail
  rw [← hw1]
  clear hw1
  go_wp2_with fail
  refine (Rno.rnew_any _).mono ?_
  rintro e w2 ⟨rfl, hb⟩
  have B2 := Lib.hid (below_trans' B1.out hb)
  have XZ2 := Lib.hid (XZ1.out.below hb SZ1.out)
  have SZ2 := Lib.hid (Nat.lt_of_lt_of_le SZ1.out hb.size)
  clear hb B1 XZ1 SZ1
  obtain ⟨z0, z1, z2, z3, z4, z5, z6, z7, z8, zf0, zf1, zf2, zf3, zf4, zf5, zf6, zf7, zf8⟩ := XZ2.out
  go_wp2_with fail
  show bodyPost _ _ _ _ _ (putPg w.heap.size 12000 16777216 0 0 1048576 0 0 n false w2)
  have BZ : Below w.heap.size w (putPg w.heap.size 12000 16777216 0 0 1048576 0 0 n false w2) := B2.out.trans (putPg_below GZ.out)
  obtain ⟨z0, z1, z2, z3, z4, z5, z6, z7, z8, -, -, -, -, -, -, -, -, -⟩ := (show BxPg w.heap.size 12000 16777216 0 0 1048576 0 0 n false (putPg w.heap.size 12000 16777216 0 0 1048576 0 0 n false w2) from XZ2.out.put)
  exact bodyPost_ret (v := aggPg 12000 16777216 0 0 1048576 0 0 n false) (by simp [results, Try.results18, z0, z1, z2, z3, z4, z5, z6, z7, z8, go_sem]) rfl ⟨rfl, BZ⟩
theorem opened_any (c t s r al ac mk en : Nat) (cu : Bool) (w : World) : Calls Try.prog 23 #[aggPg c t s r al ac mk en cu] w fun e w' => e = .returned (aggPg c t s r al ac mk en cu) ∧ Below w.heap.size w w' := by
  obtain ⟨w1, hw1⟩ : ∃ wx, wx = w.alloc (.cells #[.int .u64 (c : Int), .int .u64 (t : Int), .int .u64 (s : Int), .int .u64 (r : Int), .int .u64 (al : Int), .int .u64 (ac : Int), .int .u64 (mk : Int), .int .u64 (en : Int), .bool cu] 26) := ⟨_, rfl⟩
  have z1 : w1.heap.size = w.heap.size + 1 := by rw [hw1]; simp
  obtain ⟨w2, hw2⟩ : ∃ wx, wx = w1.alloc (.cells #[.int .u64 0, .int .u64 0, .int .u64 0, .int .u64 0, .int .u64 0, .int .u64 0, .int .u64 0, .int .u64 0, .bool false] 49) := ⟨_, rfl⟩
  have z2 : w2.heap.size = w.heap.size + 2 := by rw [hw2]; simp; omega
  have t2 : Below w2.heap.size w2 w2 := Below.refl _ _
  have t1 : Below w1.heap.size w1 w2 := (show Below w1.heap.size w1 w2 by rw [hw2]; exact (Below.refl _ _).alloc (Nat.le_refl _) _).trans (t2.mono (by omega))
  have t0 : Below w.heap.size w w2 := (show Below w.heap.size w w1 by rw [hw1]; exact (Below.refl _ _).alloc (Nat.le_refl _) _).trans (t1.mono (by omega))
  have BN := Lib.hid t0
  have ZN := Lib.hid z2
  have XC := Lib.hid (show BxPg w.heap.size c t s r al ac mk en cu w2 from (show BxPg w.heap.size c t s r al ac mk en cu w1 by rw [hw1]; exact BxPg.new _ c t s r al ac mk en cu).below t1 (by omega))
  have XZ := Lib.hid (show BxPg (w.heap.size + 1) 0 0 0 0 0 0 0 0 false w2 from (show BxPg (w.heap.size + 1) 0 0 0 0 0 0 0 0 false w2 by rw [hw2, ← z1]; exact BxPg.new _ 0 0 0 0 0 0 0 0 false).below t2 (by omega))
  clear t0 t1 t2 z1 z2
  have B2 := BN
  have XC2 := XC
  have SC2 := Lib.hid (show w.heap.size < w2.heap.size by have := ZN.out; omega)
  have GC := Lib.hid (show w.heap.size ≤ w.heap.size by omega)
  have XZ2 := XZ
  have SZ2 := Lib.hid (show (w.heap.size + 1) < w2.heap.size by have := ZN.out; omega)
  have GZ := Lib.hid (show w.heap.size ≤ (w.heap.size + 1) by omega)
  have OCZ := Lib.hid (show w.heap.size < (w.heap.size + 1) by omega)
  clear ZN BN XC XZ
  go_enter Try.func23, Try.ntmps23
  go_upto_region 1 with fail
  rw [← hw1, ← hw2]
  clear hw1 hw2
  obtain ⟨k0, k1, k2, k3, k4, k5, k6, k7, k8, -, -, -, -, -, -, -, -, -⟩ := XC2.out
  obtain ⟨z0, z1, z2, z3, z4, z5, z6, z7, z8, zf0, zf1, zf2, zf3, zf4, zf5, zf6, zf7, zf8⟩ := XZ2.out
  go_wp2_with fail
  show bodyPost _ _ _ _ _ (putPg (w.heap.size + 1) c t s r al ac mk en cu w2)
  have BZ : Below w.heap.size w (putPg (w.heap.size + 1) c t s r al ac mk en cu w2) := B2.out.trans (putPg_below GZ.out)
  obtain ⟨z0, z1, z2, z3, z4, z5, z6, z7, z8, -, -, -, -, -, -, -, -, -⟩ := (show BxPg (w.heap.size + 1) c t s r al ac mk en cu (putPg (w.heap.size + 1) c t s r al ac mk en cu w2) from XZ2.out.put)
  exact bodyPost_ret (v := aggPg c t s r al ac mk en cu) (by simp [results, Try.results23, z0, z1, z2, z3, z4, z5, z6, z7, z8, go_sem]) rfl ⟨rfl, BZ⟩
theorem elder_any (p s a : Nat) (q : Bool) (w : World) (hc : w.cell? ⟨p, 2, none⟩ = some (.int .u64 (s : Int))) (hq : decide (a < s) = q) :
    Calls Try.prog 30 #[.pointer (some ⟨p, 0, none⟩), .int .u64 (a : Int)] w fun e w' => e = .returned (.bool q) ∧ w = w' := by
  go_enter Try.func30, Try.ntmps30
  go_wp2_with fail
  go_ret
  exact ⟨rfl, rfl⟩
set_option maxHeartbeats 2000000 in
theorem told_any (p : Nat) (c t s r al ac mk en : Nat) (cu : Bool) (w : World) (hv : BxPg p c t s r al ac mk en cu w) (hp : p < w.heap.size) :
    Calls Try.prog 26 #[.pointer (some ⟨p, 0, none⟩)] w fun e w' => e = .returned (aggPg c t s r al ac mk en cu) ∧ Below w.heap.size w w' := by
  obtain ⟨w1, hw1⟩ : ∃ wx, wx = w.alloc (.cells #[.int .u64 0, .int .u64 0, .int .u64 0, .int .u64 0, .int .u64 0, .int .u64 0, .int .u64 0, .int .u64 0, .bool false] 26) := ⟨_, rfl⟩
  have z1 : w1.heap.size = w.heap.size + 1 := by rw [hw1]; simp
  have t1 : Below w1.heap.size w1 w1 := Below.refl _ _
  have t0 : Below w.heap.size w w1 := (show Below w.heap.size w w1 by rw [hw1]; exact (Below.refl _ _).alloc (Nat.le_refl _) _).trans (t1.mono (by omega))
  have BN := Lib.hid t0
  have ZN := Lib.hid z1
  have XZ := Lib.hid (show BxPg w.heap.size 0 0 0 0 0 0 0 0 false w1 from (show BxPg w.heap.size 0 0 0 0 0 0 0 0 false w1 by rw [hw1]; exact BxPg.new _ 0 0 0 0 0 0 0 0 false).below t1 (by omega))
  clear t0 t1 z1
  have B1 := BN
  have XZ1 := XZ
  have SZ1 := Lib.hid (show w.heap.size < w1.heap.size by have := ZN.out; omega)
  have GZ := Lib.hid (show w.heap.size ≤ w.heap.size by omega)
  clear ZN BN XZ
  have XV1 := Lib.hid (hv.below B1.out hp)
  have SV1 := Lib.hid (Nat.lt_of_lt_of_le hp B1.out.size)
  have OVZ := Lib.hid hp
  clear hv hp
  go_enter Try.func26, Try.ntmps26
  go_upto_region 1 with fail
  rw [← hw1]
  clear hw1
  refine wp_region_held_drew (S := fun wx => BxPg p c t s r al ac mk en cu wx) (by kernel_rfl) ?_ (fun hHeld => ?_)
  · exact XV1.out.drew
  obtain ⟨w2, hw⟩ : ∃ wx, wx = w1.drew := ⟨_, rfl⟩
  rw [← hw]
  have B2 := Lib.hid (show Below w.heap.size w w2 by rw [hw]; exact B1.out.drew)
  have XV2 := Lib.hid (show BxPg p c t s r al ac mk en cu w2 by rw [hw]; exact XV1.out.drew)
  have SV2 := Lib.hid (show p < w2.heap.size by rw [hw]; exact SV1.out)
  have XZ2 := Lib.hid (show BxPg w.heap.size 0 0 0 0 0 0 0 0 false w2 by rw [hw]; exact XZ1.out.drew)
  have SZ2 := Lib.hid (show w.heap.size < w2.heap.size by rw [hw]; exact SZ1.out)
  clear hw B1 XV1 SV1 XZ1 SZ1
  refine held_take (v := ?vv101) 0 rfl (by kernel_rfl) (by kernel_rfl) (by kernel_rfl) (fun _ _ _ h => h) (by rfl) ?yy101 (by assumption) ?nn101
  case yy101 =>
    intro w hSw
    (try dsimp only at hSw)
    go_simp
    try with_reducible rfl
  try simp only [Act.put, List.setIfInBounds_toArray, List.set_cons_zero, List.set_cons_succ]
  refine held_take (v := ?vv102) 1 rfl (by kernel_rfl) (by kernel_rfl) (by kernel_rfl) (fun _ _ _ h => h) (by rfl) ?yy102 (by assumption) ?nn102
  case yy102 =>
    intro w hSw
    (try dsimp only at hSw)
    go_simp
    try with_reducible rfl
  try simp only [Act.put, List.setIfInBounds_toArray, List.set_cons_zero, List.set_cons_succ]
  refine held_take (v := ?vv103) 2 rfl (by kernel_rfl) (by kernel_rfl) (by kernel_rfl) (fun _ _ _ h => h) (by rfl) ?yy103 (by assumption) ?nn103
  case yy103 =>
    intro w hSw
    (try dsimp only at hSw)
    go_simp
    try with_reducible rfl
  try simp only [Act.put, List.setIfInBounds_toArray, List.set_cons_zero, List.set_cons_succ]
  refine held_take (v := ?vv104) 3 rfl (by kernel_rfl) (by kernel_rfl) (by kernel_rfl) (fun _ _ _ h => h) (by rfl) ?yy104 (by assumption) ?nn104
  case yy104 =>
    intro w hSw
    (try dsimp only at hSw)
    go_simp
    try with_reducible rfl
  try simp only [Act.put, List.setIfInBounds_toArray, List.set_cons_zero, List.set_cons_succ]
  refine held_take (v := .agg #[.int .u64 (c : Int), .int .u64 (t : Int), .int .u64 (s : Int), .int .u64 (r : Int)]) 4 rfl (by kernel_rfl) (by kernel_rfl) (by kernel_rfl) (fun _ _ _ h => h) (by rfl) (fun wx hSw => by obtain ⟨c0, c1, c2, c3, -, -, -, -, -, -, -, -, -, -, -, -, -, -⟩ := hSw; go_simp) (by assumption) ?_
  try simp only [Act.put, List.setIfInBounds_toArray, List.set_cons_zero, List.set_cons_succ]
  refine held_take (v := ?vv106) 5 rfl (by kernel_rfl) (by kernel_rfl) (by kernel_rfl) (fun _ _ _ h => h) (by rfl) ?yy106 (by assumption) ?nn106
  case yy106 =>
    intro w hSw
    (try dsimp only at hSw)
    go_simp
    try with_reducible rfl
  try simp only [Act.put, List.setIfInBounds_toArray, List.set_cons_zero, List.set_cons_succ]
  refine held_take (v := ?vv107) 6 rfl (by kernel_rfl) (by kernel_rfl) (by kernel_rfl) (fun _ _ _ h => h) (by rfl) ?yy107 (by assumption) ?nn107
  case yy107 =>
    intro w hSw
    (try dsimp only at hSw)
    go_simp
    try with_reducible rfl
  try simp only [Act.put, List.setIfInBounds_toArray, List.set_cons_zero, List.set_cons_succ]
  refine held_take (v := ?vv108) 7 rfl (by kernel_rfl) (by kernel_rfl) (by kernel_rfl) (fun _ _ _ h => h) (by rfl) ?yy108 (by assumption) ?nn108
  case yy108 =>
    intro w hSw
    (try dsimp only at hSw)
    go_simp
    try with_reducible rfl
  try simp only [Act.put, List.setIfInBounds_toArray, List.set_cons_zero, List.set_cons_succ]
  refine held_take (v := .int .u64 (al : Int)) 8 rfl (by kernel_rfl) (by kernel_rfl) (by kernel_rfl) (fun _ _ _ h => h) (by rfl) (fun wx hSw => by have c := hSw.c4; clear hSw; go_simp) (by assumption) ?_
  try simp only [Act.put, List.setIfInBounds_toArray, List.set_cons_zero, List.set_cons_succ]
  refine held_take (v := ?vv110) 9 rfl (by kernel_rfl) (by kernel_rfl) (by kernel_rfl) (fun _ _ _ h => h) (by rfl) ?yy110 (by assumption) ?nn110
  case yy110 =>
    intro w hSw
    (try dsimp only at hSw)
    go_simp
    try with_reducible rfl
  try simp only [Act.put, List.setIfInBounds_toArray, List.set_cons_zero, List.set_cons_succ]
  refine held_take (v := ?vv111) 10 rfl (by kernel_rfl) (by kernel_rfl) (by kernel_rfl) (fun _ _ _ h => h) (by rfl) ?yy111 (by assumption) ?nn111
  case yy111 =>
    intro w hSw
    (try dsimp only at hSw)
    go_simp
    try with_reducible rfl
  try simp only [Act.put, List.setIfInBounds_toArray, List.set_cons_zero, List.set_cons_succ]
  refine held_take (v := ?vv112) 11 rfl (by kernel_rfl) (by kernel_rfl) (by kernel_rfl) (fun _ _ _ h => h) (by rfl) ?yy112 (by assumption) ?nn112
  case yy112 =>
    intro w hSw
    (try dsimp only at hSw)
    go_simp
    try with_reducible rfl
  try simp only [Act.put, List.setIfInBounds_toArray, List.set_cons_zero, List.set_cons_succ]
  refine held_take (v := .int .u64 (ac : Int)) 12 rfl (by kernel_rfl) (by kernel_rfl) (by kernel_rfl) (fun _ _ _ h => h) (by rfl) (fun wx hSw => by have c := hSw.c5; clear hSw; go_simp) (by assumption) ?_
  try simp only [Act.put, List.setIfInBounds_toArray, List.set_cons_zero, List.set_cons_succ]
  refine held_take (v := ?vv114) 13 rfl (by kernel_rfl) (by kernel_rfl) (by kernel_rfl) (fun _ _ _ h => h) (by rfl) ?yy114 (by assumption) ?nn114
  case yy114 =>
    intro w hSw
    (try dsimp only at hSw)
    go_simp
    try with_reducible rfl
  try simp only [Act.put, List.setIfInBounds_toArray, List.set_cons_zero, List.set_cons_succ]
  refine held_take (v := ?vv115) 14 rfl (by kernel_rfl) (by kernel_rfl) (by kernel_rfl) (fun _ _ _ h => h) (by rfl) ?yy115 (by assumption) ?nn115
  case yy115 =>
    intro w hSw
    (try dsimp only at hSw)
    go_simp
    try with_reducible rfl
  try simp only [Act.put, List.setIfInBounds_toArray, List.set_cons_zero, List.set_cons_succ]
  refine held_take (v := ?vv116) 15 rfl (by kernel_rfl) (by kernel_rfl) (by kernel_rfl) (fun _ _ _ h => h) (by rfl) ?yy116 (by assumption) ?nn116
  case yy116 =>
    intro w hSw
    (try dsimp only at hSw)
    go_simp
    try with_reducible rfl
  try simp only [Act.put, List.setIfInBounds_toArray, List.set_cons_zero, List.set_cons_succ]
  refine held_take (v := .int .u64 (mk : Int)) 16 rfl (by kernel_rfl) (by kernel_rfl) (by kernel_rfl) (fun _ _ _ h => h) (by rfl) (fun wx hSw => by have c := hSw.c6; clear hSw; go_simp) (by assumption) ?_
  try simp only [Act.put, List.setIfInBounds_toArray, List.set_cons_zero, List.set_cons_succ]
  refine held_take (v := ?vv118) 17 rfl (by kernel_rfl) (by kernel_rfl) (by kernel_rfl) (fun _ _ _ h => h) (by rfl) ?yy118 (by assumption) ?nn118
  case yy118 =>
    intro w hSw
    (try dsimp only at hSw)
    go_simp
    try with_reducible rfl
  try simp only [Act.put, List.setIfInBounds_toArray, List.set_cons_zero, List.set_cons_succ]
  refine held_take (v := ?vv119) 18 rfl (by kernel_rfl) (by kernel_rfl) (by kernel_rfl) (fun _ _ _ h => h) (by rfl) ?yy119 (by assumption) ?nn119
  case yy119 =>
    intro w hSw
    (try dsimp only at hSw)
    go_simp
    try with_reducible rfl
  try simp only [Act.put, List.setIfInBounds_toArray, List.set_cons_zero, List.set_cons_succ]
  refine held_take (v := ?vv120) 19 rfl (by kernel_rfl) (by kernel_rfl) (by kernel_rfl) (fun _ _ _ h => h) (by rfl) ?yy120 (by assumption) ?nn120
  case yy120 =>
    intro w hSw
    (try dsimp only at hSw)
    go_simp
    try with_reducible rfl
  try simp only [Act.put, List.setIfInBounds_toArray, List.set_cons_zero, List.set_cons_succ]
  refine held_take (v := .int .u64 (en : Int)) 20 rfl (by kernel_rfl) (by kernel_rfl) (by kernel_rfl) (fun _ _ _ h => h) (by rfl) (fun wx hSw => by have c := hSw.c7; clear hSw; go_simp) (by assumption) ?_
  try simp only [Act.put, List.setIfInBounds_toArray, List.set_cons_zero, List.set_cons_succ]
  refine held_take (v := ?vv122) 21 rfl (by kernel_rfl) (by kernel_rfl) (by kernel_rfl) (fun _ _ _ h => h) (by rfl) ?yy122 (by assumption) ?nn122
  case yy122 =>
    intro w hSw
    (try dsimp only at hSw)
    go_simp
    try with_reducible rfl
  try simp only [Act.put, List.setIfInBounds_toArray, List.set_cons_zero, List.set_cons_succ]
  refine held_take (v := ?vv123) 22 rfl (by kernel_rfl) (by kernel_rfl) (by kernel_rfl) (fun _ _ _ h => h) (by rfl) ?yy123 (by assumption) ?nn123
  case yy123 =>
    intro w hSw
    (try dsimp only at hSw)
    go_simp
    try with_reducible rfl
  try simp only [Act.put, List.setIfInBounds_toArray, List.set_cons_zero, List.set_cons_succ]
  refine held_take (v := ?vv124) 23 rfl (by kernel_rfl) (by kernel_rfl) (by kernel_rfl) (fun _ _ _ h => h) (by rfl) ?yy124 (by assumption) ?nn124
  case yy124 =>
    intro w hSw
    (try dsimp only at hSw)
    go_simp
    try with_reducible rfl
  try simp only [Act.put, List.setIfInBounds_toArray, List.set_cons_zero, List.set_cons_succ]
  refine held_take (v := .bool cu) 24 rfl (by kernel_rfl) (by kernel_rfl) (by kernel_rfl) (fun _ _ _ h => h) (by rfl) (fun wx hSw => by have c := hSw.c8; clear hSw; go_simp) (by assumption) ?_
  try simp only [Act.put, List.setIfInBounds_toArray, List.set_cons_zero, List.set_cons_succ]
  refine held_take (v := ?vv126) 25 rfl (by kernel_rfl) (by kernel_rfl) (by kernel_rfl) (fun _ _ _ h => h) (by rfl) ?yy126 (by assumption) ?nn126
  case yy126 =>
    intro w hSw
    (try dsimp only at hSw)
    go_simp
    try with_reducible rfl
  try simp only [Act.put, List.setIfInBounds_toArray, List.set_cons_zero, List.set_cons_succ]
  obtain ⟨z0, z1, z2, z3, z4, z5, z6, z7, z8, zf0, zf1, zf2, zf3, zf4, zf5, zf6, zf7, zf8⟩ := XZ2.out
  refine held_do 26 rfl (by kernel_rfl) (by rfl) (fun K hK => ?_)
  go_wp2_with fail
  refine hK.out _ _ ?_ (fun hHeld => ?_)
  · exact (show BxPg p c t s r al ac mk en cu (putPg w.heap.size c t s r al ac mk en cu w2) by unfold putPg; exact (((((((((XV2.out.other rfl (Nat.ne_of_gt OVZ.out)).other rfl (Nat.ne_of_gt OVZ.out)).other rfl (Nat.ne_of_gt OVZ.out)).other rfl (Nat.ne_of_gt OVZ.out)).other rfl (Nat.ne_of_gt OVZ.out)).other rfl (Nat.ne_of_gt OVZ.out)).other rfl (Nat.ne_of_gt OVZ.out)).other rfl (Nat.ne_of_gt OVZ.out)).other rfl (Nat.ne_of_gt OVZ.out)))
  clear hK K
  try simp only [Act.put, List.setIfInBounds_toArray, List.set_cons_zero, List.set_cons_succ]
  refine wpAnyH_done (by kernel_rfl) ?_ _
  go_wp2_with fail
  show bodyPost _ _ _ _ _ (putPg w.heap.size c t s r al ac mk en cu w2)
  have BZ : Below w.heap.size w (putPg w.heap.size c t s r al ac mk en cu w2) := B2.out.trans (putPg_below GZ.out)
  obtain ⟨z0, z1, z2, z3, z4, z5, z6, z7, z8, -, -, -, -, -, -, -, -, -⟩ := (show BxPg w.heap.size c t s r al ac mk en cu (putPg w.heap.size c t s r al ac mk en cu w2) from XZ2.out.put)
  exact bodyPost_ret (v := aggPg c t s r al ac mk en cu) (by simp [results, Try.results26, z0, z1, z2, z3, z4, z5, z6, z7, z8, go_sem]) rfl ⟨rfl, BZ⟩
end Go.Proofs.Ytpdmepblmjjeeaa
