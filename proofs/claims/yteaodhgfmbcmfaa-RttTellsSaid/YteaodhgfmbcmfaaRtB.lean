/-
  What package rtt's Update returns, for all numbers of 64 bits. No condition.
-/
import Derived.Test.YteaodhgfmbcmfaaRtA
import Derived.Test.YteaodhgfmbcmfaaRgn
import Derived.Laws.StructEq
namespace Go.Proofs.Yteaodhgfmbcmfaa
open Go.ChangeShapes Go.WideShapes Go.ChangeAt Go.RowKit
set_option linter.unusedVariables false

/-- Two estimates compared: the model's '=='. -/
theorem rtt_guard : Try.prog.eqGuardType Try.prog.depth 24 = false := by kernel_rfl
theorem rtt_same (h : Bool) (a b c d : Int) (w : World) : (binOp .eql 24 (.agg #[.bool h, .int .u64 a, .int .u64 b, .int .u64 c, .int .u64 d]) (.agg #[.bool h, .int .u64 a, .int .u64 b, .int .u64 c, .int .u64 d])).run Try.prog w = .ok (.bool true) w := by
  have u := Try.underlying22
  have a1 := Try.isAgg22
  have z := Try.sizeOf22
  have u2 := Try.underlying4
  have a2 := Try.isAgg4
  have z2 := Try.sizeOf4
  have hS : Try.prog.underlying 24 = some (.struct (Try.prog.fieldsOf 24)) := by kernel_rfl
  have hp : Try.prog.stoodInHeld 24 = false := by kernel_rfl
  rw [run_eql_struct, show (10000 : Nat) = 9999 + 1 from rfl, run_equalIn_agg w 9999 24 _ _ hS hp]
  simp only [Program.fieldsOf, Try.underlying24]
  go_simp
theorem rtt_other (a b c d a' b' c' d' : Int) (w : World) : (binOp .eql 24 (.agg #[.bool true, .int .u64 a, .int .u64 b, .int .u64 c, .int .u64 d]) (.agg #[.bool false, .int .u64 a', .int .u64 b', .int .u64 c', .int .u64 d'])).run Try.prog w = .ok (.bool false) w := by
  have u := Try.underlying22
  have a1 := Try.isAgg22
  have z := Try.sizeOf22
  have u2 := Try.underlying4
  have a2 := Try.isAgg4
  have z2 := Try.sizeOf4
  have hS : Try.prog.underlying 24 = some (.struct (Try.prog.fieldsOf 24)) := by kernel_rfl
  have hp : Try.prog.stoodInHeld 24 = false := by kernel_rfl
  rw [run_eql_struct, show (10000 : Nat) = 9999 + 1 from rfl, run_equalIn_agg w 9999 24 _ _ hS hp]
  simp only [Program.fieldsOf, Try.underlying24]
  go_simp

set_option maxHeartbeats 4000000 in
theorem update_any (h : Bool) (a b c d s dl m a' b' c' d' : Nat) (w : World) (hok : Wig.Rt.Ok ⟨h, a, b, c, d⟩) (hs : s < 18446744073709551616) (hdl : dl < 18446744073709551616) (hm : m < 18446744073709551616)
    (he : Wig.rup ⟨h, a, b, c, d⟩ s dl m = ⟨true, a', b', c', d'⟩) :
    Calls Try.prog 9 #[.agg #[.bool h, .int .u64 (a : Int), .int .u64 (b : Int), .int .u64 (c : Int), .int .u64 (d : Int)], .int .u64 (s : Int), .int .u64 (dl : Int), .int .u64 (m : Int)] w fun e w' =>
      e = .returned (.agg #[.bool true, .int .u64 (a' : Int), .int .u64 (b' : Int), .int .u64 (c' : Int), .int .u64 (d' : Int)]) ∧ Below w.heap.size w w' := by
  obtain ⟨w1, hw1⟩ : ∃ w1, w1 = w.alloc (.cells #[.bool h, .int .u64 (a : Int), .int .u64 (b : Int), .int .u64 (c : Int), .int .u64 (d : Int)] 24) := ⟨_, rfl⟩
  obtain ⟨w2, hw2⟩ : ∃ w2, w2 = w1.alloc (.cells #[.bool false, .int .u64 0, .int .u64 0, .int .u64 0, .int .u64 0] 24) := ⟨_, rfl⟩
  have hs1 : w1.heap.size = w.heap.size + 1 := by rw [hw1]; simp
  have HB1 := Lib.hid (show Below w.heap.size w w1 by rw [hw1]; exact (Below.refl _ _).alloc (Nat.le_refl _) _)
  have HB12 := Lib.hid (show Below w1.heap.size w1 w2 by rw [hw2]; exact (Below.refl _ _).alloc (Nat.le_refl _) _)
  have HB2 := Lib.hid (show Below w.heap.size w w2 from HB1.out.trans (HB12.out.mono (by omega)))
  have HS := Lib.hid (show w.heap.size + 1 < w2.heap.size by rw [hw2]; simp; omega)
  have HX := Lib.hid (show Bx (w.heap.size + 1) false 0 0 0 0 w2 by rw [hw2, ← hs1]; exact Bx.new w1 false 0 0 0 0)
  have HY := Lib.hid (show Bx w.heap.size h a b c d w2 from (show Bx w.heap.size h a b c d w1 by rw [hw1]; exact Bx.new w h a b c d).below HB12.out (by omega))
  have CG := Lib.hid (fun w => guess_any w)
  have g := rtt_guard
  have hmf : ∀ (fn : Fn) (first cap : Array Value) (w : World), (Instr.makeFunc fn first cap).run Try.prog w = .ok (.func fn first cap) w := fun _ _ _ _ => rfl
  clear hs1 HB1 HB12
  cases h with
  | false =>
    have CK := Lib.hid (fun w => known_any false a b c d 0 0 333 166 w rfl)
    have ee := rtt_same false 0 0 333 166
    obtain ⟨sq, hsq⟩ : ∃ sq, sq = s / 2 := ⟨_, rfl⟩
    have e1 : (s : Int) / 2 = (sq : Int) := by omega
    have e2 : IntKind.u64.wrap (sq : Int) = (sq : Int) := by rw [IntKind.wrap_u64]; omega
    unfold Wig.rup at he
    rw [if_neg (by simp), ← hsq] at he
    injection he with _ r1 r2 r3 r4
    subst r1 r2 r3 r4
    clear hok hs hdl hm hsq
    obtain ⟨k0, k1, k2, k3, k4, -, -, -, -, -⟩ := HY.out
    go_enter Try.func9, Try.ntmps9
    go_wp2_with fail
    rw [← hw1, ← hw2]
    clear hw1 hw2
    go_wp2_with fail
    refine (CK.out _).mono ?_
    rintro e w3 ⟨rfl, hb⟩
    have B3 := Lib.hid (HB2.out.trans (hb.mono HB2.out.size))
    have S3 := Lib.hid (Nat.lt_of_lt_of_le HS.out hb.size)
    have X3 := Lib.hid (HX.out.below hb HS.out)
    clear hb k0 k1 k2 k3 k4 HB2 HX HY HS
    go_wp2_with fail
    refine (CG.out _).mono ?_
    rintro e w4 ⟨rfl, hb⟩
    have B4 := Lib.hid (B3.out.trans (hb.mono B3.out.size))
    have S4 := Lib.hid (Nat.lt_of_lt_of_le S3.out hb.size)
    have X4 := Lib.hid (X3.out.below hb S3.out)
    clear hb B3 X3 S3
    obtain ⟨-, -, -, -, -, l0, l1, l2, l3, l4⟩ := X4.out
    obtain ⟨n0, n1, n2, n3, n4, -, -, -, -, -⟩ := X4.out
    go_wp2_with fail
    obtain ⟨wz, hwz⟩ : ∃ wz, wz = put (w.heap.size + 1) true s s s sq w4 := ⟨_, rfl⟩
    have XZ : Bx (w.heap.size + 1) true s s s sq wz := by rw [hwz]; exact X4.out.put
    have BZ : Below w.heap.size w wz := by rw [hwz]; exact B4.out.trans ((put_below (Nat.le_succ _)).mono (by have := S4.out; omega))
    show bodyPost _ _ _ _ _ (put (w.heap.size + 1) true s s s sq w4)
    rw [← hwz]
    obtain ⟨z0, z1, z2, z3, z4, -, -, -, -, -⟩ := XZ
    exact bodyPost_ret (v := .agg #[.bool true, .int .u64 (s : Int), .int .u64 (s : Int), .int .u64 (s : Int), .int .u64 (sq : Int)]) (by simp [results, Try.results9, z0, z1, z2, z3, z4, go_sem]) rfl ⟨rfl, BZ⟩
  | true =>
    have CK := Lib.hid (fun w => known_any true a b c d a b c d w rfl)
    have ee := rtt_other a b c d 0 0 333 166
    obtain ⟨lo, hlo⟩ : ∃ lo, lo = min b s := ⟨_, rfl⟩
    obtain ⟨wt, hwt⟩ : ∃ wt, wt = min dl m := ⟨_, rfl⟩
    obtain ⟨x, hx⟩ : ∃ x, x = Wig.rown s lo wt := ⟨_, rfl⟩
    have m1 : (if s < b then (s : Int) else (b : Int)) = (lo : Int) := by split <;> omega
    have m2 : (if m < dl then (m : Int) else (dl : Int)) = (wt : Int) := by split <;> omega
    have CU := Lib.hid (fun w => undelayed_any s lo wt w hs (by omega) (by omega))
    rw [← hx] at CU
    have HF := Lib.hid (And.intro hok (And.intro hs (And.intro hdl (And.intro hm (And.intro he (And.intro hlo (And.intro hwt hx)))))))
    clear hok hs hdl hm he hlo hwt hx
    obtain ⟨k0, k1, k2, k3, k4, -, -, -, -, -⟩ := HY.out
    go_enter Try.func9, Try.ntmps9
    go_wp2_with fail
    rw [← hw1, ← hw2]
    clear hw1 hw2
    go_wp2_with fail
    refine (CK.out _).mono ?_
    rintro e w3 ⟨rfl, hb⟩
    have B3 := Lib.hid (HB2.out.trans (hb.mono HB2.out.size))
    have S3 := Lib.hid (Nat.lt_of_lt_of_le HS.out hb.size)
    have X3 := Lib.hid (HX.out.below hb HS.out)
    have Y3 := Lib.hid (HY.out.below hb (by have := HS.out; omega))
    clear hb k0 k1 k2 k3 k4 HB2 HX HY HS
    go_wp2_with fail
    refine (CG.out _).mono ?_
    rintro e w4 ⟨rfl, hb⟩
    have B4 := Lib.hid (B3.out.trans (hb.mono B3.out.size))
    have S4 := Lib.hid (Nat.lt_of_lt_of_le S3.out hb.size)
    have X4 := Lib.hid (X3.out.below hb S3.out)
    have Y4 := Lib.hid (Y3.out.below hb (by have := S3.out; omega))
    clear hb B3 X3 Y3 S3
    obtain ⟨k0, k1, k2, k3, k4, -, -, -, -, -⟩ := Y4.out
    go_wp2_with fail
    refine (CU.out _).mono ?_
    rintro e _ ⟨rfl, rfl⟩
    obtain ⟨⟨ok1, ok2, ok3, ok4⟩, hs, hdl, hm, he, hlo, hwt, hx⟩ := HF.out
    simp only at ok1 ok2 ok3 ok4
    have xs : x ≤ s := by rw [hx]; exact Wig.rown_le _ _ _
    obtain ⟨cq, hcq⟩ : ∃ cq, cq = c / 8 := ⟨_, rfl⟩
    obtain ⟨p, hp⟩ : ∃ p, p = c - cq := ⟨_, rfl⟩
    obtain ⟨xq, hxq⟩ : ∃ xq, xq = x / 8 := ⟨_, rfl⟩
    obtain ⟨dq, hdq⟩ : ∃ dq, dq = d / 4 := ⟨_, rfl⟩
    obtain ⟨pv, hpv⟩ : ∃ pv, pv = d - dq := ⟨_, rfl⟩
    obtain ⟨gp, hgp⟩ : ∃ gp, gp = Wig.rgap x c := ⟨_, rfl⟩
    obtain ⟨gq, hgq⟩ : ∃ gq, gq = gp / 4 := ⟨_, rfl⟩
    have gl : gp < 18446744073709551616 := by rw [hgp]; exact Wig.rgap_lt (by omega) ok3
    have e1 : (c : Int) / 8 = (cq : Int) := by omega
    have e2 : IntKind.u64.wrap (cq : Int) = (cq : Int) := by rw [IntKind.wrap_u64]; omega
    have e3 : IntKind.u64.wrap ((c : Int) - (cq : Int)) = (p : Int) := by rw [IntKind.wrap_u64]; omega
    have e4 : (x : Int) / 8 = (xq : Int) := by omega
    have e5 : IntKind.u64.wrap (xq : Int) = (xq : Int) := by rw [IntKind.wrap_u64]; omega
    have e6 : (d : Int) / 4 = (dq : Int) := by omega
    have e7 : IntKind.u64.wrap (dq : Int) = (dq : Int) := by rw [IntKind.wrap_u64]; omega
    have e8 : IntKind.u64.wrap ((d : Int) - (dq : Int)) = (pv : Int) := by rw [IntKind.wrap_u64]; omega
    have e9 : (gp : Int) / 4 = (gq : Int) := by omega
    have e10 : IntKind.u64.wrap (gq : Int) = (gq : Int) := by rw [IntKind.wrap_u64]; omega
    unfold Wig.rup at he
    rw [if_pos rfl] at he
    simp only at he
    rw [← hlo, ← hwt, ← hx, ← hcq, ← hp, ← hxq, ← hgp, ← hgq, ← hdq, ← hpv] at he
    injection he with _ r1 r2 r3 r4
    subst r1 r2
    have CA := Lib.hid (fun w => add_any p xq w (by omega) (by omega))
    have CB := Lib.hid (fun w => add_any pv gq w (by omega) (by omega))
    have CF := Lib.hid (fun w' k => far_any x w.heap.size c w' (by omega) (by omega) k)
    rw [r3] at CA
    rw [r4] at CB
    rw [← hgp] at CF
    obtain ⟨-, -, -, -, -, l0, l1, l2, l3, l4⟩ := X4.out
    obtain ⟨n0, n1, n2, n3, n4, -, -, -, -, -⟩ := X4.out
    obtain ⟨wz, hwz⟩ : ∃ wz, wz = (put (w.heap.size + 1) true s lo c' d' w4).drew := ⟨_, rfl⟩
    have KP := Lib.hid (show wz.cell? ⟨w.heap.size, 3, none⟩ = some (.int .u64 (c : Int)) ∧ wz.cell? ⟨w.heap.size, 4, none⟩ = some (.int .u64 (d : Int)) by rw [hwz, drew_cell, drew_cell, put_other (by omega), put_other (by omega)]; exact ⟨k3, k4⟩)
    have XZ := Lib.hid (show Bx (w.heap.size + 1) true s lo c' d' wz by rw [hwz]; exact (X4.out.put).drew)
    have BZ := Lib.hid (show Below w.heap.size w wz by rw [hwz]; exact (B4.out.trans ((put_below (Nat.le_succ _)).mono (by have := S4.out; omega))).drew)
    have HZ := Lib.hid hwz
    clear hwz
    clear ok1 ok2 ok3 ok4 hs hdl hm hlo hwt hx xs hcq hp hxq hdq hpv hgp hgq gl r3 r4 HF CU
    go_wp2_with fail
    refine wp_region_held_drew (S := fun w' => w'.cell? ⟨w.heap.size, 3, none⟩ = some (.int .u64 (c : Int)) ∧ w'.cell? ⟨w.heap.size, 4, none⟩ = some (.int .u64 (d : Int))) (by kernel_rfl) ?_ (fun hHeld => ?_)
    · exact ⟨k3, k4⟩
    refine held_take (v := ?vv101) 0 rfl (by kernel_rfl) (by kernel_rfl) (by kernel_rfl) (fun _ _ _ h => h) (by rfl) ?yy101 (by assumption) ?nn101
    case yy101 =>
      intro w hSw
      (try dsimp only at hSw)
      go_simp
      try with_reducible rfl
    try simp only [Act.put, List.setIfInBounds_toArray, List.set_cons_zero, List.set_cons_succ]
    refine held_take (v := ?vv102) 1 rfl (by kernel_rfl) (by kernel_rfl) (by kernel_rfl) (fun _ _ _ h => h) (by rfl) ?yy102 (by assumption) ?nn102
    case yy102 =>
      intro w hSw
      (try dsimp only at hSw)
      go_simp
      try with_reducible rfl
    try simp only [Act.put, List.setIfInBounds_toArray, List.set_cons_zero, List.set_cons_succ]
    refine held_take (v := ?vv103) 2 rfl (by kernel_rfl) (by kernel_rfl) (by kernel_rfl) (fun _ _ _ h => h) (by rfl) ?yy103 (by assumption) ?nn103
    case yy103 =>
      intro w hSw
      (try dsimp only at hSw)
      go_simp
      try with_reducible rfl
    try simp only [Act.put, List.setIfInBounds_toArray, List.set_cons_zero, List.set_cons_succ]
    refine held_take (v := ?vv104) 3 rfl (by kernel_rfl) (by kernel_rfl) (by kernel_rfl) (fun _ _ _ h => h) (by rfl) ?yy104 (by assumption) ?nn104
    case yy104 =>
      intro w hSw
      (try dsimp only at hSw)
      go_simp
      try with_reducible rfl
    try simp only [Act.put, List.setIfInBounds_toArray, List.set_cons_zero, List.set_cons_succ]
    refine held_take (v := ?vv105) 4 rfl (by kernel_rfl) (by kernel_rfl) (by kernel_rfl) (fun _ _ _ h => h) (by rfl) ?yy105 (by assumption) ?nn105
    case yy105 =>
      intro w hSw
      (try dsimp only at hSw)
      go_simp
      try with_reducible rfl
    try simp only [Act.put, List.setIfInBounds_toArray, List.set_cons_zero, List.set_cons_succ]
    refine held_take (v := ?vv106) 5 rfl (by kernel_rfl) (by kernel_rfl) (by kernel_rfl) (fun _ _ _ h => h) (by rfl) ?yy106 (by assumption) ?nn106
    case yy106 =>
      intro w hSw
      (try dsimp only at hSw)
      go_simp
      try with_reducible rfl
    try simp only [Act.put, List.setIfInBounds_toArray, List.set_cons_zero, List.set_cons_succ]
    refine held_take (v := ?vv107) 6 rfl (by kernel_rfl) (by kernel_rfl) (by kernel_rfl) (fun _ _ _ h => h) (by rfl) ?yy107 (by assumption) ?nn107
    case yy107 =>
      intro w hSw
      (try dsimp only at hSw)
      go_simp
      try with_reducible rfl
    try simp only [Act.put, List.setIfInBounds_toArray, List.set_cons_zero, List.set_cons_succ]
    refine held_take (v := ?vv108) 7 rfl (by kernel_rfl) (by kernel_rfl) (by kernel_rfl) (fun _ _ _ h => h) (by rfl) ?yy108 (by assumption) ?nn108
    case yy108 =>
      intro w hSw
      (try dsimp only at hSw)
      go_simp
      try with_reducible rfl
    try simp only [Act.put, List.setIfInBounds_toArray, List.set_cons_zero, List.set_cons_succ]
    refine held_take (v := ?vv109) 8 rfl (by kernel_rfl) (by kernel_rfl) (by kernel_rfl) (fun _ _ _ h => h) (by rfl) ?yy109 (by assumption) ?nn109
    case yy109 =>
      intro w hSw
      (try dsimp only at hSw)
      go_simp
      try with_reducible rfl
    try simp only [Act.put, List.setIfInBounds_toArray, List.set_cons_zero, List.set_cons_succ]
    refine held_take (v := ?vv110) 9 rfl (by kernel_rfl) (by kernel_rfl) (by kernel_rfl) (fun _ _ _ h => h) (by rfl) ?yy110 (by assumption) ?nn110
    case yy110 =>
      intro w hSw
      (try dsimp only at hSw)
      go_simp
      try with_reducible rfl
    try simp only [Act.put, List.setIfInBounds_toArray, List.set_cons_zero, List.set_cons_succ]
    refine held_take (v := ?vv111) 11 rfl (by kernel_rfl) (by kernel_rfl) (by kernel_rfl) (fun _ _ _ h => h) (by rfl) ?yy111 (by assumption) ?nn111
    case yy111 =>
      intro w hSw
      (try dsimp only at hSw)
      go_simp
      try with_reducible rfl
    try simp only [Act.put, List.setIfInBounds_toArray, List.set_cons_zero, List.set_cons_succ]
    refine held_take (v := ?vv112) 12 rfl (by kernel_rfl) (by kernel_rfl) (by kernel_rfl) (fun _ _ _ h => h) (by rfl) ?yy112 (by assumption) ?nn112
    case yy112 =>
      intro w hSw
      (try dsimp only at hSw)
      go_simp
      try with_reducible rfl
    try simp only [Act.put, List.setIfInBounds_toArray, List.set_cons_zero, List.set_cons_succ]
    refine held_take (v := ?vv113) 13 rfl (by kernel_rfl) (by kernel_rfl) (by kernel_rfl) (fun _ _ _ h => h) (by rfl) ?yy113 (by assumption) ?nn113
    case yy113 =>
      intro w hSw
      (try dsimp only at hSw)
      go_simp
      try with_reducible rfl
    try simp only [Act.put, List.setIfInBounds_toArray, List.set_cons_zero, List.set_cons_succ]
    refine held_take (v := ?vv114) 14 rfl (by kernel_rfl) (by kernel_rfl) (by kernel_rfl) (fun _ _ _ h => h) (by rfl) ?yy114 (by assumption) ?nn114
    case yy114 =>
      intro w hSw
      (try dsimp only at hSw)
      go_simp
      try with_reducible rfl
    try simp only [Act.put, List.setIfInBounds_toArray, List.set_cons_zero, List.set_cons_succ]
    refine held_take (v := ?vv115) 15 rfl (by kernel_rfl) (by kernel_rfl) (by kernel_rfl) (fun _ _ _ h => h) (by rfl) ?yy115 (by assumption) ?nn115
    case yy115 =>
      intro w hSw
      (try dsimp only at hSw)
      go_simp
      try with_reducible rfl
    try simp only [Act.put, List.setIfInBounds_toArray, List.set_cons_zero, List.set_cons_succ]
    refine held_take (v := ?vv116) 16 rfl (by kernel_rfl) (by kernel_rfl) (by kernel_rfl) (fun _ _ _ h => h) (by rfl) ?yy116 (by assumption) ?nn116
    case yy116 =>
      intro w hSw
      (try dsimp only at hSw)
      go_simp
      try with_reducible rfl
    try simp only [Act.put, List.setIfInBounds_toArray, List.set_cons_zero, List.set_cons_succ]
    refine held_take (v := ?vv117) 17 rfl (by kernel_rfl) (by kernel_rfl) (by kernel_rfl) (fun _ _ _ h => h) (by rfl) ?yy117 (by assumption) ?nn117
    case yy117 =>
      intro w hSw
      (try dsimp only at hSw)
      go_simp
      try with_reducible rfl
    try simp only [Act.put, List.setIfInBounds_toArray, List.set_cons_zero, List.set_cons_succ]
    refine held_take (v := ?vv118) 18 rfl (by kernel_rfl) (by kernel_rfl) (by kernel_rfl) (fun _ _ _ h => h) (by rfl) ?yy118 (by assumption) ?nn118
    case yy118 =>
      intro w hSw
      (try dsimp only at hSw)
      go_simp
      try with_reducible rfl
    try simp only [Act.put, List.setIfInBounds_toArray, List.set_cons_zero, List.set_cons_succ]
    refine held_do 10 rfl (by kernel_rfl) (by rfl) (fun K hK => ?_)
    go_wp2_with (go_at_call 19; refine (CA.out _).mono ?_; rintro e _ ⟨rfl, rfl⟩)
    refine hK.out _ _ ?_ (fun hHeld => ?_)
    · exact ⟨k3, k4⟩
    clear hK K
    try simp only [Act.put, List.setIfInBounds_toArray, List.set_cons_zero, List.set_cons_succ]
    refine held_do 19 rfl (by kernel_rfl) (by rfl) (fun K hK => ?_)
    go_wp2_with (go_at_call 17; refine (CF.out w4.drew k3).mono ?_; rintro e _ ⟨rfl, rfl⟩)
    refine hK.out _ _ ?_ (fun hHeld => ?_)
    · exact ⟨k3, k4⟩
    clear hK K
    try simp only [Act.put, List.setIfInBounds_toArray, List.set_cons_zero, List.set_cons_succ]
    refine held_take (v := ?vv121) 20 rfl (by kernel_rfl) (by kernel_rfl) (by kernel_rfl) (fun _ _ _ h => h) (by rfl) ?yy121 (by assumption) ?nn121
    case yy121 =>
      intro w hSw
      (try dsimp only at hSw)
      go_simp
      try with_reducible rfl
    try simp only [Act.put, List.setIfInBounds_toArray, List.set_cons_zero, List.set_cons_succ]
    refine held_do 21 rfl (by kernel_rfl) (by rfl) (fun K hK => ?_)
    go_wp2_with (go_at_call 19; refine (CB.out _).mono ?_; rintro e _ ⟨rfl, rfl⟩)
    refine hK.out _ _ ?_ (fun hHeld => ?_)
    · exact ⟨k3, k4⟩
    clear hK K
    try simp only [Act.put, List.setIfInBounds_toArray, List.set_cons_zero, List.set_cons_succ]
    refine held_take (v := ?vv123) 22 rfl (by kernel_rfl) (by kernel_rfl) (by kernel_rfl) (fun _ _ _ h => h) (by rfl) ?yy123 (by assumption) ?nn123
    case yy123 =>
      intro w hSw
      (try dsimp only at hSw)
      go_simp
      try with_reducible rfl
    try simp only [Act.put, List.setIfInBounds_toArray, List.set_cons_zero, List.set_cons_succ]
    refine held_do 23 rfl (by kernel_rfl) (by rfl) (fun K hK => ?_)
    go_wp2_with fail
    refine hK.out _ _ ?_ (fun hHeld => ?_)
    · exact HZ.out ▸ KP.out
    clear hK K
    try simp only [Act.put, List.setIfInBounds_toArray, List.set_cons_zero, List.set_cons_succ]
    refine wpAnyH_done (by kernel_rfl) ?_ _
    clear k0 k1 k2 k3 k4 n0 n1 n2 n3 n4 l0 l1 l2 l3 l4
    go_wp2_with fail
    show bodyPost _ _ _ _ _ (put (w.heap.size + 1) true s lo c' d' w4).drew
    rw [← HZ.out]
    obtain ⟨z0, z1, z2, z3, z4, -, -, -, -, -⟩ := XZ.out
    exact bodyPost_ret (v := .agg #[.bool true, .int .u64 (s : Int), .int .u64 (lo : Int), .int .u64 (c' : Int), .int .u64 (d' : Int)]) (by simp [results, Try.results9, z0, z1, z2, z3, z4, go_sem]) rfl ⟨rfl, BZ.out⟩
end Go.Proofs.Yteaodhgfmbcmfaa
