/-
  What the head of layer 12's statements returns: true. No condition.
-/
import Derived.Test.YtjnkmghlhihjkaaCbC
namespace Go.Proofs.Ytjnkmghlhihjkaa
open Go.ChangeShapes Go.WideShapes Go.ChangeAt Go.RowKit
set_option linter.unusedVariables false

set_option maxHeartbeats 4000000 in
theorem awake_any (w : World) : Calls Try.prog 8 #[] w fun e w' => e = .returned (.bool true) ∧ Below w.heap.size w w' := by
  have C0 := Lib.hid (show ∀ w, Calls Try.prog 17 #[] w fun e w' =>
      e = .returned (.agg #[.int .u64 12000, .int .u64 16777216, .int .u64 0, .bool false, .int .u64 0, .int .u64 0, .int .u64 0, .int .u64 0]) ∧ Below w.heap.size w w' from
    fun w => new_any w)
  have C1 := Lib.hid (show ∀ w, Calls Try.prog 11 #[.agg #[.int .u64 12000, .int .u64 16777216, .int .u64 0, .bool false, .int .u64 0, .int .u64 0, .int .u64 0, .int .u64 0], .int .u64 0, .int .u64 9] w fun e w' =>
      e = .returned (.agg #[.int .u64 8400, .int .u64 8400, .int .u64 10, .bool false, .int .u64 0, .int .u64 12000, .int .u64 0, .int .u64 0]) ∧ Below w.heap.size w w' from
    fun w => loss_any 12000 16777216 0 false 0 0 0 0 0 9 8400 8400 10 false 0 12000 0 0 w ⟨by decide, by decide, by decide, by decide, by decide, by decide, by decide⟩ (by decide) (by decide) (by decide +kernel))
  have C2 := Lib.hid (show ∀ w, Calls Try.prog 9 #[.agg #[.int .u64 8400, .int .u64 8400, .int .u64 10, .bool false, .int .u64 0, .int .u64 12000, .int .u64 0, .int .u64 0], .int .u64 0, .int .u64 10, .int .u64 50, .int .u64 0, .bool false] w fun e w' =>
      e = .returned (.agg #[.int .u64 8400, .int .u64 8400, .int .u64 10, .bool true, .int .u64 50, .int .u64 12000, .int .u64 1957, .int .u64 8400]) ∧ Below w.heap.size w w' from
    fun w => ack_any 8400 8400 10 false 0 12000 0 0 0 10 50 0 8400 8400 10 true false 50 12000 1957 8400 w ⟨by decide, by decide, by decide, by decide, by decide, by decide, by decide⟩ (by decide) (by decide) (by decide) (by decide) (by decide +kernel))
  have C3 := Lib.hid (show ∀ w, Calls Try.prog 15 #[.agg #[.int .u64 8400, .int .u64 0, .int .u64 0, .bool false, .int .u64 0, .int .u64 12000, .int .u64 100, .int .u64 0], .int .u64 100] w fun e w' =>
      e = .returned (.int .u64 12000) ∧ Below w.heap.size w w' from
    fun w => target_any 8400 0 0 false 0 12000 100 0 100 12000 w ⟨by decide, by decide, by decide, by decide, by decide, by decide, by decide⟩ (by decide) (by decide +kernel))
  have C4 := Lib.hid (show ∀ w, Calls Try.prog 15 #[.agg #[.int .u64 8400, .int .u64 0, .int .u64 0, .bool false, .int .u64 0, .int .u64 12000, .int .u64 100, .int .u64 0], .int .u64 2100] w fun e w' =>
      e = .returned (.int .u64 12600) ∧ Below w.heap.size w w' from
    fun w => target_any 8400 0 0 false 0 12000 100 0 2100 12600 w ⟨by decide, by decide, by decide, by decide, by decide, by decide, by decide⟩ (by decide) (by decide +kernel))
  have C5 := Lib.hid (show ∀ w, Calls Try.prog 13 #[.agg #[.int .u64 8400, .int .u64 8400, .int .u64 10, .bool false, .int .u64 0, .int .u64 12000, .int .u64 0, .int .u64 0]] w fun e w' =>
      e = .returned (.agg #[.int .u64 2400, .int .u64 8400, .int .u64 0, .bool false, .int .u64 0, .int .u64 12000, .int .u64 0, .int .u64 0]) ∧ Below w.heap.size w w' from
    fun w => coll_any 8400 8400 10 false 0 12000 0 0 w)
  have g := cubic_guard
  have ee := cubic_same 8400 8400 10 false 0 12000 0 0
  have rf := cubic_field0
  have B0 := Lib.hid (Below.refl w.heap.size w)
  go_enter Try.func8, Try.ntmps8
  go_wp2_with fail
  refine (C0.out _).mono ?_
  rintro e w1 ⟨rfl, hb⟩
  have B1 := Lib.hid (below_trans' B0.out hb)
  clear hb B0
  go_wp2_with fail
  refine (C1.out _).mono ?_
  rintro e w2 ⟨rfl, hb⟩
  have B2 := Lib.hid (below_trans' B1.out hb)
  clear hb B1
  go_upto_region 2 with fail
  obtain ⟨w3, hw⟩ : ∃ wx, wx = w2.alloc (.cells #[.int .u64 8400, .int .u64 8400, .int .u64 10, .bool false, .int .u64 0, .int .u64 12000, .int .u64 0, .int .u64 0] 24) := ⟨_, rfl⟩
  rw [← hw]
  obtain ⟨pL, hp⟩ : ∃ px, px = w2.heap.size := ⟨_, rfl⟩
  rw [← hp]
  have hb : Below w2.heap.size w2 w3 := by rw [hw]; exact (Below.refl _ _).alloc (Nat.le_refl _) _
  have hx : BxCu pL 8400 8400 10 false 0 12000 0 0 w3 := by rw [hp, hw]; exact BxCu.new _ 8400 8400 10 false 0 12000 0 0
  have hs : pL < w3.heap.size := by rw [hp, hw]; simp
  have GL := Lib.hid (show w.heap.size ≤ pL by rw [hp]; exact B2.out.size)
  have B3 := Lib.hid (below_trans' B2.out hb)
  clear hb B2
  have XL3 := Lib.hid hx
  have SL3 := Lib.hid hs
  clear hx hs hw hp
  obtain ⟨l0, l1, l2, l3, l4, l5, l6, l7, -, -, -, -, -, -, -, -⟩ := XL3.out
  go_wp2_with fail
  refine (C2.out _).mono ?_
  rintro e w4 ⟨rfl, hb⟩
  have B4 := Lib.hid (below_trans' B3.out hb)
  have XL4 := Lib.hid (XL3.out.below hb SL3.out)
  have SL4 := Lib.hid (Nat.lt_of_lt_of_le SL3.out hb.size)
  clear l0 l1 l2 l3 l4 l5 l6 l7
  clear hb B3 XL3 SL3
  go_upto_region 3 with fail
  obtain ⟨w5, hw⟩ : ∃ wx, wx = w4.alloc (.cells #[.int .u64 8400, .int .u64 8400, .int .u64 10, .bool true, .int .u64 50, .int .u64 12000, .int .u64 1957, .int .u64 8400] 24) := ⟨_, rfl⟩
  rw [← hw]
  obtain ⟨pA, hp⟩ : ∃ px, px = w4.heap.size := ⟨_, rfl⟩
  rw [← hp]
  have hb : Below w4.heap.size w4 w5 := by rw [hw]; exact (Below.refl _ _).alloc (Nat.le_refl _) _
  have hx : BxCu pA 8400 8400 10 true 50 12000 1957 8400 w5 := by rw [hp, hw]; exact BxCu.new _ 8400 8400 10 true 50 12000 1957 8400
  have hs : pA < w5.heap.size := by rw [hp, hw]; simp
  have GA := Lib.hid (show w.heap.size ≤ pA by rw [hp]; exact B4.out.size)
  have OLA := Lib.hid (show pL < pA by rw [hp]; exact SL4.out)
  have B5 := Lib.hid (below_trans' B4.out hb)
  have XL5 := Lib.hid (XL4.out.below hb SL4.out)
  have SL5 := Lib.hid (Nat.lt_of_lt_of_le SL4.out hb.size)
  clear hb B4 XL4 SL4
  have XA5 := Lib.hid hx
  have SA5 := Lib.hid hs
  clear hx hs hw hp
  go_upto_region 4 with fail
  obtain ⟨w6, hw⟩ : ∃ wx, wx = w5.alloc (.cells #[.int .u64 8400, .int .u64 0, .int .u64 0, .bool false, .int .u64 0, .int .u64 12000, .int .u64 100, .int .u64 0] 24) := ⟨_, rfl⟩
  rw [← hw]
  obtain ⟨pC, hp⟩ : ∃ px, px = w5.heap.size := ⟨_, rfl⟩
  rw [← hp]
  have hb : Below w5.heap.size w5 w6 := by rw [hw]; exact (Below.refl _ _).alloc (Nat.le_refl _) _
  have hx : BxCu pC 8400 0 0 false 0 12000 100 0 w6 := by rw [hp, hw]; exact BxCu.new _ 8400 0 0 false 0 12000 100 0
  have hs : pC < w6.heap.size := by rw [hp, hw]; simp
  have GC := Lib.hid (show w.heap.size ≤ pC by rw [hp]; exact B5.out.size)
  have OLC := Lib.hid (show pL < pC by rw [hp]; exact SL5.out)
  have OAC := Lib.hid (show pA < pC by rw [hp]; exact SA5.out)
  have B6 := Lib.hid (below_trans' B5.out hb)
  have XL6 := Lib.hid (XL5.out.below hb SL5.out)
  have SL6 := Lib.hid (Nat.lt_of_lt_of_le SL5.out hb.size)
  have XA6 := Lib.hid (XA5.out.below hb SA5.out)
  have SA6 := Lib.hid (Nat.lt_of_lt_of_le SA5.out hb.size)
  clear hb B5 XL5 SL5 XA5 SA5
  have XC6 := Lib.hid hx
  have SC6 := Lib.hid hs
  clear hx hs hw hp
  obtain ⟨l0, l1, l2, l3, l4, l5, l6, l7, -, -, -, -, -, -, -, -⟩ := XL6.out
  obtain ⟨a0, a1, a2, a3, a4, a5, a6, a7, -, -, -, -, -, -, -, -⟩ := XA6.out
  obtain ⟨c0, c1, c2, c3, c4, c5, c6, c7, -, -, -, -, -, -, -, -⟩ := XC6.out
  go_wp2_with fail
  refine (C3.out _).mono ?_
  rintro e w7 ⟨rfl, hb⟩
  have B7 := Lib.hid (below_trans' B6.out hb)
  have XL7 := Lib.hid (XL6.out.below hb SL6.out)
  have SL7 := Lib.hid (Nat.lt_of_lt_of_le SL6.out hb.size)
  have XA7 := Lib.hid (XA6.out.below hb SA6.out)
  have SA7 := Lib.hid (Nat.lt_of_lt_of_le SA6.out hb.size)
  have XC7 := Lib.hid (XC6.out.below hb SC6.out)
  have SC7 := Lib.hid (Nat.lt_of_lt_of_le SC6.out hb.size)
  clear l0 l1 l2 l3 l4 l5 l6 l7 a0 a1 a2 a3 a4 a5 a6 a7 c0 c1 c2 c3 c4 c5 c6 c7
  clear hb B6 XL6 SL6 XA6 SA6 XC6 SC6
  obtain ⟨l0, l1, l2, l3, l4, l5, l6, l7, -, -, -, -, -, -, -, -⟩ := XL7.out
  obtain ⟨a0, a1, a2, a3, a4, a5, a6, a7, -, -, -, -, -, -, -, -⟩ := XA7.out
  obtain ⟨c0, c1, c2, c3, c4, c5, c6, c7, -, -, -, -, -, -, -, -⟩ := XC7.out
  go_wp2_with fail
  refine (C4.out _).mono ?_
  rintro e w8 ⟨rfl, hb⟩
  have B8 := Lib.hid (below_trans' B7.out hb)
  have XL8 := Lib.hid (XL7.out.below hb SL7.out)
  have SL8 := Lib.hid (Nat.lt_of_lt_of_le SL7.out hb.size)
  have XA8 := Lib.hid (XA7.out.below hb SA7.out)
  have SA8 := Lib.hid (Nat.lt_of_lt_of_le SA7.out hb.size)
  have XC8 := Lib.hid (XC7.out.below hb SC7.out)
  have SC8 := Lib.hid (Nat.lt_of_lt_of_le SC7.out hb.size)
  clear l0 l1 l2 l3 l4 l5 l6 l7 a0 a1 a2 a3 a4 a5 a6 a7 c0 c1 c2 c3 c4 c5 c6 c7
  clear hb B7 XL7 SL7 XA7 SA7 XC7 SC7
  obtain ⟨l0, l1, l2, l3, l4, l5, l6, l7, -, -, -, -, -, -, -, -⟩ := XL8.out
  obtain ⟨a0, a1, a2, a3, a4, a5, a6, a7, -, -, -, -, -, -, -, -⟩ := XA8.out
  obtain ⟨c0, c1, c2, c3, c4, c5, c6, c7, -, -, -, -, -, -, -, -⟩ := XC8.out
  go_wp2_with fail
  refine (C5.out _).mono ?_
  rintro e w9 ⟨rfl, hb⟩
  have B9 := Lib.hid (below_trans' B8.out hb)
  have XL9 := Lib.hid (XL8.out.below hb SL8.out)
  have SL9 := Lib.hid (Nat.lt_of_lt_of_le SL8.out hb.size)
  have XA9 := Lib.hid (XA8.out.below hb SA8.out)
  have SA9 := Lib.hid (Nat.lt_of_lt_of_le SA8.out hb.size)
  have XC9 := Lib.hid (XC8.out.below hb SC8.out)
  have SC9 := Lib.hid (Nat.lt_of_lt_of_le SC8.out hb.size)
  clear l0 l1 l2 l3 l4 l5 l6 l7 a0 a1 a2 a3 a4 a5 a6 a7 c0 c1 c2 c3 c4 c5 c6 c7
  clear hb B8 XL8 SL8 XA8 SA8 XC8 SC8
  go_wp2_with fail
  go_ret
  exact ⟨rfl, B9.out⟩
end Go.Proofs.Ytjnkmghlhihjkaa
