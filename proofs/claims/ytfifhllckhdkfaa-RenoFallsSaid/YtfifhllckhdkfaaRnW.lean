/-
  What the head of layer 10's statements returns: true. No condition.
-/
import Derived.Test.YtfifhllckhdkfaaRnC
import Derived.Test.YtfifhllckhdkfaaRnD
import Derived.Deep.CutBlock
import Derived.Deep.DeepCutAuto
namespace Go.Proofs.Ytfifhllckhdkfaa
open Go.ChangeShapes Go.WideShapes Go.ChangeAt Go.RowKit
set_option linter.unusedVariables false

set_option maxHeartbeats 4000000 in
theorem awake_any (w : World) : Calls Try.prog 10 #[] w fun e w' => e = .returned (.bool true) ∧ Below w.heap.size w w' := by
  have C0 := Lib.hid (show ∀ w, Calls Try.prog 19 #[] w fun e w' =>
      e = .returned (.agg #[.int .u64 12000, .int .u64 16777216, .int .u64 0, .int .u64 0]) ∧ Below w.heap.size w w' from
    fun w => new_any w)
  have C1 := Lib.hid (show ∀ w, Calls Try.prog 11 #[.agg #[.int .u64 12000, .int .u64 16777216, .int .u64 0, .int .u64 0], .int .u64 1200, .int .u64 0, .bool false] w fun e w' =>
      e = .returned (.agg #[.int .u64 13200, .int .u64 16777216, .int .u64 0, .int .u64 0]) ∧ Below w.heap.size w w' from
    fun w => ack_any 12000 16777216 0 0 1200 0 13200 16777216 0 0 false w ⟨by decide, by decide, by decide, by decide⟩ (by decide) (by decide) (by decide +kernel))
  have C2 := Lib.hid (show ∀ w, Calls Try.prog 13 #[.agg #[.int .u64 13200, .int .u64 16777216, .int .u64 0, .int .u64 0], .int .u64 5, .int .u64 9] w fun e w' =>
      e = .returned (.agg #[.int .u64 6600, .int .u64 6600, .int .u64 10, .int .u64 0]) ∧ Below w.heap.size w w' from
    fun w => loss_any 13200 16777216 0 0 5 9 6600 6600 10 0 w ⟨by decide, by decide, by decide, by decide⟩ (by decide) (by decide) (by decide +kernel))
  have C3 := Lib.hid (show ∀ w, Calls Try.prog 13 #[.agg #[.int .u64 6600, .int .u64 6600, .int .u64 10, .int .u64 0], .int .u64 9, .int .u64 12] w fun e w' =>
      e = .returned (.agg #[.int .u64 6600, .int .u64 6600, .int .u64 10, .int .u64 0]) ∧ Below w.heap.size w w' from
    fun w => loss_any 6600 6600 10 0 9 12 6600 6600 10 0 w ⟨by decide, by decide, by decide, by decide⟩ (by decide) (by decide) (by decide +kernel))
  have C4 := Lib.hid (show ∀ w, Calls Try.prog 11 #[.agg #[.int .u64 6600, .int .u64 6600, .int .u64 10, .int .u64 0], .int .u64 6600, .int .u64 10, .bool false] w fun e w' =>
      e = .returned (.agg #[.int .u64 7800, .int .u64 6600, .int .u64 10, .int .u64 0]) ∧ Below w.heap.size w w' from
    fun w => ack_any 6600 6600 10 0 6600 10 7800 6600 10 0 false w ⟨by decide, by decide, by decide, by decide⟩ (by decide) (by decide) (by decide +kernel))
  have C5 := Lib.hid (show ∀ w, Calls Try.prog 15 #[.agg #[.int .u64 6600, .int .u64 6600, .int .u64 10, .int .u64 0]] w fun e w' =>
      e = .returned (.agg #[.int .u64 2400, .int .u64 6600, .int .u64 0, .int .u64 0]) ∧ Below w.heap.size w w' from
    fun w => coll_any 6600 6600 10 0 w)
  have C6 := Lib.hid (show ∀ w, Calls Try.prog 17 #[.int .u64 0] w fun e w' => e = .returned (.int .u64 2400) ∧ w = w' from fun w => held_any 0 2400 w (by decide))
  have g := reno_guard
  have ee := reno_same 6600 6600 10 0
  have rf := reno_field
  have B0 := Lib.hid (Below.refl w.heap.size w)
  go_enter Try.func10, Try.ntmps10
  go_wp2_with fail
  refine (C0.out _).mono ?_
  rintro e w1 ⟨rfl, hb⟩
  have B1 := Lib.hid (below_trans' B0.out hb)
  clear hb B0
  go_wp2_with fail
  refine (C1.out _).mono ?_
  rintro e w2 ⟨rfl, hb⟩
  have B2 := Lib.hid (below_trans' B1.out hb)
  clear hb B1
  go_upto_region 2 with fail
  obtain ⟨w3, hw⟩ : ∃ wx, wx = w2.alloc (.cells #[.int .u64 13200, .int .u64 16777216, .int .u64 0, .int .u64 0] 25) := ⟨_, rfl⟩
  rw [← hw]
  obtain ⟨pA, hp⟩ : ∃ px, px = w2.heap.size := ⟨_, rfl⟩
  rw [← hp]
  have hb : Below w2.heap.size w2 w3 := by rw [hw]; exact (Below.refl _ _).alloc (Nat.le_refl _) _
  have hx : BxRn pA 13200 16777216 0 0 w3 := by rw [hp, hw]; exact BxRn.new _ 13200 16777216 0 0
  have hs : pA < w3.heap.size := by rw [hp, hw]; simp
  have GA := Lib.hid (show w.heap.size ≤ pA by rw [hp]; exact B2.out.size)
  have B3 := Lib.hid (below_trans' B2.out hb)
  clear hb B2
  have XA3 := Lib.hid hx
  have SA3 := Lib.hid hs
  clear hx hs hw hp
  obtain ⟨a0, a1, a2, a3, -, -, -, -⟩ := XA3.out
  go_wp2_with fail
  refine (C2.out _).mono ?_
  rintro e w4 ⟨rfl, hb⟩
  have B4 := Lib.hid (below_trans' B3.out hb)
  have XA4 := Lib.hid (XA3.out.below hb SA3.out)
  have SA4 := Lib.hid (Nat.lt_of_lt_of_le SA3.out hb.size)
  clear a0 a1 a2 a3
  clear hb B3 XA3 SA3
  go_upto_region 3 with fail
  obtain ⟨w5, hw⟩ : ∃ wx, wx = w4.alloc (.cells #[.int .u64 6600, .int .u64 6600, .int .u64 10, .int .u64 0] 25) := ⟨_, rfl⟩
  rw [← hw]
  obtain ⟨pL, hp⟩ : ∃ px, px = w4.heap.size := ⟨_, rfl⟩
  rw [← hp]
  have hb : Below w4.heap.size w4 w5 := by rw [hw]; exact (Below.refl _ _).alloc (Nat.le_refl _) _
  have hx : BxRn pL 6600 6600 10 0 w5 := by rw [hp, hw]; exact BxRn.new _ 6600 6600 10 0
  have hs : pL < w5.heap.size := by rw [hp, hw]; simp
  have GL := Lib.hid (show w.heap.size ≤ pL by rw [hp]; exact B4.out.size)
  have OAL := Lib.hid (show pA < pL by rw [hp]; exact SA4.out)
  have B5 := Lib.hid (below_trans' B4.out hb)
  have XA5 := Lib.hid (XA4.out.below hb SA4.out)
  have SA5 := Lib.hid (Nat.lt_of_lt_of_le SA4.out hb.size)
  clear hb B4 XA4 SA4
  have XL5 := Lib.hid hx
  have SL5 := Lib.hid hs
  clear hx hs hw hp
  go_wp2_with fail
  refine wp_region_held_drew (S := fun wx => BxRn pA 13200 16777216 0 0 wx ∧ BxRn pL 6600 6600 10 0 wx ∧ Below w5.heap.size w5 wx) (by kernel_rfl) ?_ (fun hHeld => ?_)
  · exact ⟨XA5.out.drew, XL5.out.drew, (Below.refl _ _).drew⟩
  refine held_take (v := ?vv101) 0 rfl (by kernel_rfl) (by kernel_rfl) (by kernel_rfl) (fun _ _ _ h => h) (by rfl) ?yy101 (by assumption) ?nn101
  case yy101 =>
    intro w hSw
    (try dsimp only at hSw)
    go_simp
    try with_reducible rfl
  try simp only [Act.put, List.setIfInBounds_toArray, List.set_cons_zero, List.set_cons_succ]
  refine held_take (v := .int .u64 13200) 1 rfl (by kernel_rfl) (by kernel_rfl) (by kernel_rfl) (fun _ _ _ h => h) (by rfl) (fun wx hSw => by have c := hSw.1.c0; clear hSw; go_simp) (by assumption) ?_
  try simp only [Act.put, List.setIfInBounds_toArray, List.set_cons_zero, List.set_cons_succ]
  refine held_take (v := ?vv103) 2 rfl (by kernel_rfl) (by kernel_rfl) (by kernel_rfl) (fun _ _ _ h => h) (by rfl) ?yy103 (by assumption) ?nn103
  case yy103 =>
    intro w hSw
    (try dsimp only at hSw)
    go_simp
    try with_reducible rfl
  try simp only [Act.put, List.setIfInBounds_toArray, List.set_cons_zero, List.set_cons_succ]
  refine held_take (v := ?vv104) 3 rfl (by kernel_rfl) (by kernel_rfl) (by kernel_rfl) (fun _ _ _ h => h) (by rfl) ?yy104 (by assumption) ?nn104
  case yy104 =>
    intro w hSw
    (try dsimp only at hSw)
    go_simp
    try with_reducible rfl
  try simp only [Act.put, List.setIfInBounds_toArray, List.set_cons_zero, List.set_cons_succ]
  refine held_take (v := ?vv105) 4 rfl (by kernel_rfl) (by kernel_rfl) (by kernel_rfl) (fun _ _ _ h => h) (by rfl) ?yy105 (by assumption) ?nn105
  case yy105 =>
    intro w hSw
    (try dsimp only at hSw)
    go_simp
    try with_reducible rfl
  try simp only [Act.put, List.setIfInBounds_toArray, List.set_cons_zero, List.set_cons_succ]
  refine held_take (v := .int .u64 6600) 5 rfl (by kernel_rfl) (by kernel_rfl) (by kernel_rfl) (fun _ _ _ h => h) (by rfl) (fun wx hSw => by have c := hSw.2.1.c0; clear hSw; go_simp) (by assumption) ?_
  try simp only [Act.put, List.setIfInBounds_toArray, List.set_cons_zero, List.set_cons_succ]
  refine held_take (v := ?vv107) 6 rfl (by kernel_rfl) (by kernel_rfl) (by kernel_rfl) (fun _ _ _ h => h) (by rfl) ?yy107 (by assumption) ?nn107
  case yy107 =>
    intro w hSw
    (try dsimp only at hSw)
    go_simp
    try with_reducible rfl
  try simp only [Act.put, List.setIfInBounds_toArray, List.set_cons_zero, List.set_cons_succ]
  refine held_take (v := ?vv108) 7 rfl (by kernel_rfl) (by kernel_rfl) (by kernel_rfl) (fun _ _ _ h => h) (by rfl) ?yy108 (by assumption) ?nn108
  case yy108 =>
    intro w hSw
    (try dsimp only at hSw)
    go_simp
    try with_reducible rfl
  try simp only [Act.put, List.setIfInBounds_toArray, List.set_cons_zero, List.set_cons_succ]
  refine held_take (v := ?vv109) 8 rfl (by kernel_rfl) (by kernel_rfl) (by kernel_rfl) (fun _ _ _ h => h) (by rfl) ?yy109 (by assumption) ?nn109
  case yy109 =>
    intro w hSw
    (try dsimp only at hSw)
    go_simp
    try with_reducible rfl
  try simp only [Act.put, List.setIfInBounds_toArray, List.set_cons_zero, List.set_cons_succ]
  refine held_take (v := ?vv110) 9 rfl (by kernel_rfl) (by kernel_rfl) (by kernel_rfl) (fun _ _ _ h => h) (by rfl) ?yy110 (by assumption) ?nn110
  case yy110 =>
    intro w hSw
    (try dsimp only at hSw)
    go_simp
    try with_reducible rfl
  try simp only [Act.put, List.setIfInBounds_toArray, List.set_cons_zero, List.set_cons_succ]
  refine held_take (v := .int .u64 6600) 10 rfl (by kernel_rfl) (by kernel_rfl) (by kernel_rfl) (fun _ _ _ h => h) (by rfl) (fun wx hSw => by have c := hSw.2.1.c1; clear hSw; go_simp) (by assumption) ?_
  try simp only [Act.put, List.setIfInBounds_toArray, List.set_cons_zero, List.set_cons_succ]
  refine held_take (v := ?vv112) 11 rfl (by kernel_rfl) (by kernel_rfl) (by kernel_rfl) (fun _ _ _ h => h) (by rfl) ?yy112 (by assumption) ?nn112
  case yy112 =>
    intro w hSw
    (try dsimp only at hSw)
    go_simp
    try with_reducible rfl
  try simp only [Act.put, List.setIfInBounds_toArray, List.set_cons_zero, List.set_cons_succ]
  refine held_take (v := ?vv113) 12 rfl (by kernel_rfl) (by kernel_rfl) (by kernel_rfl) (fun _ _ _ h => h) (by rfl) ?yy113 (by assumption) ?nn113
  case yy113 =>
    intro w hSw
    (try dsimp only at hSw)
    go_simp
    try with_reducible rfl
  try simp only [Act.put, List.setIfInBounds_toArray, List.set_cons_zero, List.set_cons_succ]
  refine held_take (v := ?vv114) 13 rfl (by kernel_rfl) (by kernel_rfl) (by kernel_rfl) (fun _ _ _ h => h) (by rfl) ?yy114 (by assumption) ?nn114
  case yy114 =>
    intro w hSw
    (try dsimp only at hSw)
    go_simp
    try with_reducible rfl
  try simp only [Act.put, List.setIfInBounds_toArray, List.set_cons_zero, List.set_cons_succ]
  refine held_take (v := ?vv115) 14 rfl (by kernel_rfl) (by kernel_rfl) (by kernel_rfl) (fun _ _ _ h => h) (by rfl) ?yy115 (by assumption) ?nn115
  case yy115 =>
    intro w hSw
    (try dsimp only at hSw)
    go_simp
    try with_reducible rfl
  try simp only [Act.put, List.setIfInBounds_toArray, List.set_cons_zero, List.set_cons_succ]
  refine held_take (v := .int .u64 10) 15 rfl (by kernel_rfl) (by kernel_rfl) (by kernel_rfl) (fun _ _ _ h => h) (by rfl) (fun wx hSw => by have c := hSw.2.1.c2; clear hSw; go_simp) (by assumption) ?_
  try simp only [Act.put, List.setIfInBounds_toArray, List.set_cons_zero, List.set_cons_succ]
  refine held_take (v := ?vv117) 16 rfl (by kernel_rfl) (by kernel_rfl) (by kernel_rfl) (fun _ _ _ h => h) (by rfl) ?yy117 (by assumption) ?nn117
  case yy117 =>
    intro w hSw
    (try dsimp only at hSw)
    go_simp
    try with_reducible rfl
  try simp only [Act.put, List.setIfInBounds_toArray, List.set_cons_zero, List.set_cons_succ]
  refine held_take (v := ?vv118) 17 rfl (by kernel_rfl) (by kernel_rfl) (by kernel_rfl) (fun _ _ _ h => h) (by rfl) ?yy118 (by assumption) ?nn118
  case yy118 =>
    intro w hSw
    (try dsimp only at hSw)
    go_simp
    try with_reducible rfl
  try simp only [Act.put, List.setIfInBounds_toArray, List.set_cons_zero, List.set_cons_succ]
  refine held_take (v := ?vv119) 18 rfl (by kernel_rfl) (by kernel_rfl) (by kernel_rfl) (fun _ _ _ h => h) (by rfl) ?yy119 (by assumption) ?nn119
  case yy119 =>
    intro w hSw
    (try dsimp only at hSw)
    go_simp
    try with_reducible rfl
  try simp only [Act.put, List.setIfInBounds_toArray, List.set_cons_zero, List.set_cons_succ]
  refine held_take (v := .agg #[.int .u64 6600, .int .u64 6600, .int .u64 10, .int .u64 0]) 19 rfl (by kernel_rfl) (by kernel_rfl) (by kernel_rfl) (fun _ _ _ h => h) (by rfl) (fun wx hSw => by obtain ⟨c0, c1, c2, c3, -, -, -, -⟩ := hSw.2.1; clear hSw; go_simp) (by assumption) ?_
  try simp only [Act.put, List.setIfInBounds_toArray, List.set_cons_zero, List.set_cons_succ]
  refine held_take (v := .agg #[.int .u64 6600, .int .u64 6600, .int .u64 10, .int .u64 0]) 21 rfl (by kernel_rfl) (by kernel_rfl) (by kernel_rfl) (fun _ _ _ h => h) (by rfl) (fun wx hSw => by obtain ⟨c0, c1, c2, c3, -, -, -, -⟩ := hSw.2.1; clear hSw; go_simp) (by assumption) ?_
  try simp only [Act.put, List.setIfInBounds_toArray, List.set_cons_zero, List.set_cons_succ]
  refine held_do 20 rfl (by kernel_rfl) (by rfl) (fun K hK => ?_)
  go_wp2_with (go_at_call 13; refine (C3.out _).mono ?_; rintro e w6 ⟨rfl, hb6⟩; have K6 := Lib.hid (Below.trans hHeld.2.2 (hb6.mono hHeld.2.2.size)); clear hb6)
  refine hK.out _ _ ?_ (fun hHeld => ?_)
  · exact ⟨XA5.out.below K6.out SA5.out, XL5.out.below K6.out SL5.out, K6.out⟩
  clear hK K
  try simp only [Act.put, List.setIfInBounds_toArray, List.set_cons_zero, List.set_cons_succ]
  refine held_take (v := ?vv123) 22 rfl (by kernel_rfl) (by kernel_rfl) (by kernel_rfl) (fun _ _ _ h => h) (by rfl) ?yy123 (by assumption) ?nn123
  case yy123 =>
    intro w hSw
    (try dsimp only at hSw)
    go_simp
    try with_reducible rfl
  try simp only [Act.put, List.setIfInBounds_toArray, List.set_cons_zero, List.set_cons_succ]
  refine held_take (v := ?vv124) 23 rfl (by kernel_rfl) (by kernel_rfl) (by kernel_rfl) (fun _ _ _ h => h) (by rfl) ?yy124 (by assumption) ?nn124
  case yy124 =>
    intro w hSw
    (try dsimp only at hSw)
    go_simp
    try with_reducible rfl
  try simp only [Act.put, List.setIfInBounds_toArray, List.set_cons_zero, List.set_cons_succ]
  refine held_take (v := ?vv125) 24 rfl (by kernel_rfl) (by kernel_rfl) (by kernel_rfl) (fun _ _ _ h => h) (by rfl) ?yy125 (by assumption) ?nn125
  case yy125 =>
    intro w hSw
    (try dsimp only at hSw)
    go_simp
    try with_reducible rfl
  try simp only [Act.put, List.setIfInBounds_toArray, List.set_cons_zero, List.set_cons_succ]
  refine held_take (v := .agg #[.int .u64 6600, .int .u64 6600, .int .u64 10, .int .u64 0]) 25 rfl (by kernel_rfl) (by kernel_rfl) (by kernel_rfl) (fun _ _ _ h => h) (by rfl) (fun wx hSw => by obtain ⟨c0, c1, c2, c3, -, -, -, -⟩ := hSw.2.1; clear hSw; go_simp) (by assumption) ?_
  try simp only [Act.put, List.setIfInBounds_toArray, List.set_cons_zero, List.set_cons_succ]
  refine held_do 26 rfl (by kernel_rfl) (by rfl) (fun K hK => ?_)
  go_wp2_with (go_at_call 11; refine (C4.out _).mono ?_; rintro e w7 ⟨rfl, hb7⟩; have K7 := Lib.hid (Below.trans hHeld.2.2 (hb7.mono hHeld.2.2.size)); clear hb7)
  refine hK.out _ _ ?_ (fun hHeld => ?_)
  · exact ⟨XA5.out.below K7.out SA5.out, XL5.out.below K7.out SL5.out, K7.out⟩
  clear hK K
  try simp only [Act.put, List.setIfInBounds_toArray, List.set_cons_zero, List.set_cons_succ]
  refine held_take (v := ?vv128) 27 rfl (by kernel_rfl) (by kernel_rfl) (by kernel_rfl) (fun _ _ _ h => h) (by rfl) ?yy128 (by assumption) ?nn128
  case yy128 =>
    intro w hSw
    (try dsimp only at hSw)
    go_simp
    try with_reducible rfl
  try simp only [Act.put, List.setIfInBounds_toArray, List.set_cons_zero, List.set_cons_succ]
  refine held_take (v := ?vv129) 28 rfl (by kernel_rfl) (by kernel_rfl) (by kernel_rfl) (fun _ _ _ h => h) (by rfl) ?yy129 (by assumption) ?nn129
  case yy129 =>
    intro w hSw
    (try dsimp only at hSw)
    go_simp
    try with_reducible rfl
  try simp only [Act.put, List.setIfInBounds_toArray, List.set_cons_zero, List.set_cons_succ]
  refine held_take (v := ?vv130) 29 rfl (by kernel_rfl) (by kernel_rfl) (by kernel_rfl) (fun _ _ _ h => h) (by rfl) ?yy130 (by assumption) ?nn130
  case yy130 =>
    intro w hSw
    (try dsimp only at hSw)
    go_simp
    try with_reducible rfl
  try simp only [Act.put, List.setIfInBounds_toArray, List.set_cons_zero, List.set_cons_succ]
  refine held_take (v := ?vv131) 30 rfl (by kernel_rfl) (by kernel_rfl) (by kernel_rfl) (fun _ _ _ h => h) (by rfl) ?yy131 (by assumption) ?nn131
  case yy131 =>
    intro w hSw
    (try dsimp only at hSw)
    go_simp
    try with_reducible rfl
  try simp only [Act.put, List.setIfInBounds_toArray, List.set_cons_zero, List.set_cons_succ]
  refine held_take (v := .agg #[.int .u64 6600, .int .u64 6600, .int .u64 10, .int .u64 0]) 31 rfl (by kernel_rfl) (by kernel_rfl) (by kernel_rfl) (fun _ _ _ h => h) (by rfl) (fun wx hSw => by obtain ⟨c0, c1, c2, c3, -, -, -, -⟩ := hSw.2.1; clear hSw; go_simp) (by assumption) ?_
  try simp only [Act.put, List.setIfInBounds_toArray, List.set_cons_zero, List.set_cons_succ]
  refine held_do 32 rfl (by kernel_rfl) (by rfl) (fun K hK => ?_)
  go_wp2_with (go_at_call 15; refine (C5.out _).mono ?_; rintro e w8 ⟨rfl, hb8⟩; have K8 := Lib.hid (Below.trans hHeld.2.2 (hb8.mono hHeld.2.2.size)); clear hb8)
  refine hK.out _ _ ?_ (fun hHeld => ?_)
  · exact ⟨XA5.out.below K8.out SA5.out, XL5.out.below K8.out SL5.out, K8.out⟩
  clear hK K
  try simp only [Act.put, List.setIfInBounds_toArray, List.set_cons_zero, List.set_cons_succ]
  refine held_take (v := ?vv134) 33 rfl (by kernel_rfl) (by kernel_rfl) (by kernel_rfl) (fun _ _ _ h => h) (by rfl) ?yy134 (by assumption) ?nn134
  case yy134 =>
    intro w hSw
    (try dsimp only at hSw)
    go_simp
    try with_reducible rfl
  try simp only [Act.put, List.setIfInBounds_toArray, List.set_cons_zero, List.set_cons_succ]
  refine held_take (v := ?vv135) 34 rfl (by kernel_rfl) (by kernel_rfl) (by kernel_rfl) (fun _ _ _ h => h) (by rfl) ?yy135 (by assumption) ?nn135
  case yy135 =>
    intro w hSw
    (try dsimp only at hSw)
    go_simp
    try with_reducible rfl
  try simp only [Act.put, List.setIfInBounds_toArray, List.set_cons_zero, List.set_cons_succ]
  refine held_take (v := ?vv136) 35 rfl (by kernel_rfl) (by kernel_rfl) (by kernel_rfl) (fun _ _ _ h => h) (by rfl) ?yy136 (by assumption) ?nn136
  case yy136 =>
    intro w hSw
    (try dsimp only at hSw)
    go_simp
    try with_reducible rfl
  try simp only [Act.put, List.setIfInBounds_toArray, List.set_cons_zero, List.set_cons_succ]
  refine held_take (v := ?vv137) 36 rfl (by kernel_rfl) (by kernel_rfl) (by kernel_rfl) (fun _ _ _ h => h) (by rfl) ?yy137 (by assumption) ?nn137
  case yy137 =>
    intro w hSw
    (try dsimp only at hSw)
    go_simp
    try with_reducible rfl
  try simp only [Act.put, List.setIfInBounds_toArray, List.set_cons_zero, List.set_cons_succ]
  refine held_do 37 rfl (by kernel_rfl) (by rfl) (fun K hK => ?_)
  go_wp2_with (go_at_call 17; with_reducible refine (C6.out _).mono ?_; rintro e _ ⟨rfl, rfl⟩)
  refine hK.out _ _ ?_ (fun hHeld => ?_)
  · exact hHeld
  clear hK K
  try simp only [Act.put, List.setIfInBounds_toArray, List.set_cons_zero, List.set_cons_succ]
  refine held_take (v := ?vv139) 38 rfl (by kernel_rfl) (by kernel_rfl) (by kernel_rfl) (fun _ _ _ h => h) (by rfl) ?yy139 (by assumption) ?nn139
  case yy139 =>
    intro w hSw
    (try dsimp only at hSw)
    go_simp
    try with_reducible rfl
  try simp only [Act.put, List.setIfInBounds_toArray, List.set_cons_zero, List.set_cons_succ]
  refine held_take (v := ?vv140) 39 rfl (by kernel_rfl) (by kernel_rfl) (by kernel_rfl) (fun _ _ _ h => h) (by rfl) ?yy140 (by assumption) ?nn140
  case yy140 =>
    intro w hSw
    (try dsimp only at hSw)
    go_simp
    try with_reducible rfl
  try simp only [Act.put, List.setIfInBounds_toArray, List.set_cons_zero, List.set_cons_succ]
  refine held_take (v := ?vv141) 40 rfl (by kernel_rfl) (by kernel_rfl) (by kernel_rfl) (fun _ _ _ h => h) (by rfl) ?yy141 (by assumption) ?nn141
  case yy141 =>
    intro w hSw
    (try dsimp only at hSw)
    go_simp
    try with_reducible rfl
  try simp only [Act.put, List.setIfInBounds_toArray, List.set_cons_zero]
  refine wpAnyH_done (by kernel_rfl) ?_ _
  clear hHeld
  have B8 := Lib.hid (below_trans' B5.out K8.out)
  have XA8 := Lib.hid (XA5.out.below K8.out SA5.out)
  have SA8 := Lib.hid (Nat.lt_of_lt_of_le SA5.out K8.out.size)
  have XL8 := Lib.hid (XL5.out.below K8.out SL5.out)
  have SL8 := Lib.hid (Nat.lt_of_lt_of_le SL5.out K8.out.size)
  clear B5 XA5 SA5 XL5 SL5
  go_wp2_with fail
  go_ret
  exact ⟨rfl, B8.out⟩
end Go.Proofs.Ytfifhllckhdkfaa
