/-
  What the head of layer 14's statements returns: true. No condition.
-/
import Derived.Test.YtpdmepblmjjeeaaPgC
namespace Go.Proofs.Ytpdmepblmjjeeaa
open Go.ChangeShapes Go.WideShapes Go.ChangeAt Go.RowKit
set_option linter.unusedVariables false

set_option maxHeartbeats 4000000 in
theorem awake_any (w : World) : Calls Try.prog 8 #[] w fun e w' => e = .returned (.bool true) ∧ Below w.heap.size w w' := by
  have C0 := Lib.hid (show ∀ w, Calls Try.prog 17 #[.int .u64 5] w fun e w' =>
      e = .returned (.agg #[.int .u64 12000, .int .u64 16777216, .int .u64 0, .int .u64 0, .int .u64 1048576, .int .u64 0, .int .u64 0, .int .u64 5, .bool false]) ∧ Below w.heap.size w w' from
    fun w => new_any 5 w)
  have C1 := Lib.hid (show ∀ w, Calls Try.prog 11 #[.agg #[.int .u64 12000, .int .u64 16777216, .int .u64 0, .int .u64 0, .int .u64 1048576, .int .u64 0, .int .u64 0, .int .u64 5, .bool false], .int .u64 1200, .int .u64 0] w fun e w' =>
      e = .returned (.agg #[.int .u64 6000, .int .u64 6000, .int .u64 0, .int .u64 0, .int .u64 1048576, .int .u64 0, .int .u64 1200, .int .u64 5, .bool true]) ∧ Below w.heap.size w w' from
    fun w => mark_any 12000 16777216 0 0 1048576 0 0 5 false 1200 0 6000 6000 0 0 1048576 0 1200 5 true w ⟨⟨by decide, by decide, by decide, by decide⟩, by decide, by decide, by decide, by decide⟩ (by decide) (by decide) (by decide +kernel))
  have C2 := Lib.hid (show ∀ w, Calls Try.prog 9 #[.agg #[.int .u64 6000, .int .u64 6000, .int .u64 0, .int .u64 0, .int .u64 1048576, .int .u64 0, .int .u64 1200, .int .u64 5, .bool true], .agg #[.int .u64 0, .int .u64 2400, .int .u64 0, .int .u64 5, .int .u64 9, .int .u64 0, .int .u64 0, .int .u64 0, .bool false, .bool false]] w fun e w' =>
      e = .returned (.agg #[.int .u64 6480, .int .u64 6000, .int .u64 0, .int .u64 0, .int .u64 1015808, .int .u64 0, .int .u64 0, .int .u64 9, .bool false]) ∧ Below w.heap.size w w' from
    fun w => ack_any 6000 6000 0 0 1048576 0 1200 5 true 0 2400 0 5 9 0 0 0 false false 6480 6000 0 0 1015808 0 0 9 false w ⟨⟨by decide, by decide, by decide, by decide⟩, by decide, by decide, by decide, by decide⟩ (by decide) (by decide) (by decide +kernel))
  have B0 := Lib.hid (Below.refl w.heap.size w)
  go_enter Try.func8, Try.ntmps8
  go_wp2_with fail
  refine (C0.out _).mono ?_
  rintro e w1 ⟨rfl, hb⟩
  have B1 := Lib.hid (below_trans' B0.out hb)
  clear hb B0
  go_upto_region 2 with fail
  obtain ⟨w2, hw⟩ : ∃ wx, wx = w1.alloc (.cells #[.int .u64 12000, .int .u64 16777216, .int .u64 0, .int .u64 0, .int .u64 1048576, .int .u64 0, .int .u64 0, .int .u64 5, .bool false] 26) := ⟨_, rfl⟩
  rw [← hw]
  obtain ⟨pN, hp⟩ : ∃ px, px = w1.heap.size := ⟨_, rfl⟩
  rw [← hp]
  have hb : Below w1.heap.size w1 w2 := by rw [hw]; exact (Below.refl _ _).alloc (Nat.le_refl _) _
  have hx : BxPg pN 12000 16777216 0 0 1048576 0 0 5 false w2 := by rw [hp, hw]; exact BxPg.new _ 12000 16777216 0 0 1048576 0 0 5 false
  have hs : pN < w2.heap.size := by rw [hp, hw]; simp
  have GN := Lib.hid (show w.heap.size ≤ pN by rw [hp]; exact B1.out.size)
  have B2 := Lib.hid (below_trans' B1.out hb)
  clear hb B1
  have XN2 := Lib.hid hx
  have SN2 := Lib.hid hs
  clear hx hs hw hp
  obtain ⟨n0, n1, n2, n3, n4, n5, n6, n7, n8, -, -, -, -, -, -, -, -, -⟩ := XN2.out
  go_wp2_with fail
  refine (C1.out _).mono ?_
  rintro e w3 ⟨rfl, hb⟩
  have B3 := Lib.hid (below_trans' B2.out hb)
  have XN3 := Lib.hid (XN2.out.below hb SN2.out)
  have SN3 := Lib.hid (Nat.lt_of_lt_of_le SN2.out hb.size)
  clear n0 n1 n2 n3 n4 n5 n6 n7 n8
  clear hb B2 XN2 SN2
  go_upto_region 3 with fail
  obtain ⟨w4, hw⟩ : ∃ wx, wx = w3.alloc (.cells #[.int .u64 6000, .int .u64 6000, .int .u64 0, .int .u64 0, .int .u64 1048576, .int .u64 0, .int .u64 1200, .int .u64 5, .bool true] 26) := ⟨_, rfl⟩
  rw [← hw]
  obtain ⟨pM, hp⟩ : ∃ px, px = w3.heap.size := ⟨_, rfl⟩
  rw [← hp]
  have hb : Below w3.heap.size w3 w4 := by rw [hw]; exact (Below.refl _ _).alloc (Nat.le_refl _) _
  have hx : BxPg pM 6000 6000 0 0 1048576 0 1200 5 true w4 := by rw [hp, hw]; exact BxPg.new _ 6000 6000 0 0 1048576 0 1200 5 true
  have hs : pM < w4.heap.size := by rw [hp, hw]; simp
  have GM := Lib.hid (show w.heap.size ≤ pM by rw [hp]; exact B3.out.size)
  have ONM := Lib.hid (show pN < pM by rw [hp]; exact SN3.out)
  have B4 := Lib.hid (below_trans' B3.out hb)
  have XN4 := Lib.hid (XN3.out.below hb SN3.out)
  have SN4 := Lib.hid (Nat.lt_of_lt_of_le SN3.out hb.size)
  clear hb B3 XN3 SN3
  have XM4 := Lib.hid hx
  have SM4 := Lib.hid hs
  clear hx hs hw hp
  obtain ⟨m0, m1, m2, m3, m4, m5, m6, m7, m8, -, -, -, -, -, -, -, -, -⟩ := XM4.out
  go_wp2_with fail
  refine (C2.out _).mono ?_
  rintro e w5 ⟨rfl, hb⟩
  have B5 := Lib.hid (below_trans' B4.out hb)
  have XN5 := Lib.hid (XN4.out.below hb SN4.out)
  have SN5 := Lib.hid (Nat.lt_of_lt_of_le SN4.out hb.size)
  have XM5 := Lib.hid (XM4.out.below hb SM4.out)
  have SM5 := Lib.hid (Nat.lt_of_lt_of_le SM4.out hb.size)
  clear m0 m1 m2 m3 m4 m5 m6 m7 m8
  clear hb B4 XN4 SN4 XM4 SM4
  go_upto_region 4 with fail
  obtain ⟨w6, hw⟩ : ∃ wx, wx = w5.alloc (.cells #[.int .u64 6480, .int .u64 6000, .int .u64 0, .int .u64 0, .int .u64 1015808, .int .u64 0, .int .u64 0, .int .u64 9, .bool false] 26) := ⟨_, rfl⟩
  rw [← hw]
  obtain ⟨pA, hp⟩ : ∃ px, px = w5.heap.size := ⟨_, rfl⟩
  rw [← hp]
  have hb : Below w5.heap.size w5 w6 := by rw [hw]; exact (Below.refl _ _).alloc (Nat.le_refl _) _
  have hx : BxPg pA 6480 6000 0 0 1015808 0 0 9 false w6 := by rw [hp, hw]; exact BxPg.new _ 6480 6000 0 0 1015808 0 0 9 false
  have hs : pA < w6.heap.size := by rw [hp, hw]; simp
  have GA := Lib.hid (show w.heap.size ≤ pA by rw [hp]; exact B5.out.size)
  have ONA := Lib.hid (show pN < pA by rw [hp]; exact SN5.out)
  have OMA := Lib.hid (show pM < pA by rw [hp]; exact SM5.out)
  have B6 := Lib.hid (below_trans' B5.out hb)
  have XN6 := Lib.hid (XN5.out.below hb SN5.out)
  have SN6 := Lib.hid (Nat.lt_of_lt_of_le SN5.out hb.size)
  have XM6 := Lib.hid (XM5.out.below hb SM5.out)
  have SM6 := Lib.hid (Nat.lt_of_lt_of_le SM5.out hb.size)
  clear hb B5 XN5 SN5 XM5 SM5
  have XA6 := Lib.hid hx
  have SA6 := Lib.hid hs
  clear hx hs hw hp
  obtain ⟨n0, n1, n2, n3, n4, n5, n6, n7, n8, -, -, -, -, -, -, -, -, -⟩ := XN6.out
  obtain ⟨m0, m1, m2, m3, m4, m5, m6, m7, m8, -, -, -, -, -, -, -, -, -⟩ := XM6.out
  obtain ⟨a0, a1, a2, a3, a4, a5, a6, a7, a8, -, -, -, -, -, -, -, -, -⟩ := XA6.out
  go_wp2_with fail
  go_ret
  exact ⟨rfl, B6.out⟩
end Go.Proofs.Ytpdmepblmjjeeaa
