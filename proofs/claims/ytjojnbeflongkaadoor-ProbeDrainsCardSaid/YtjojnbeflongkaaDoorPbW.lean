/-
  What the head of layer 13's statements returns: true. Condition: the table of the phases' parts holds what the door laid.
-/
import Derived.Test.YtjojnbeflongkaaDoorPbG
namespace Go.Proofs.YtjojnbeflongkaaDoor
open Go.ChangeShapes Go.WideShapes Go.ChangeAt Go.RowKit
set_option linter.unusedVariables false

theorem got_ok {g0 g1 g2 g3 g4 g5 g6 g7 : Nat} {gl gr : Bool} (h0 : g0 < 18446744073709551616) (h1 : g1 < 18446744073709551616) (h2 : g2 < 18446744073709551616) (h3 : g3 < 18446744073709551616) (h4 : g4 < 18446744073709551616) (h5 : g5 < 18446744073709551616) (h6 : g6 < 18446744073709551616) (h7 : g7 < 18446744073709551616) : Wig.Gt.Ok ⟨g0, g1, g2, g3, g4, g5, g6, g7, gl, gr⟩ := ⟨h0, h1, h2, h3, h4, h5, h6, h7⟩
theorem fits_one {a b : Nat} (ha : a < 18446744073709551616) (hb : b < 18446744073709551616) : Wig.Fits [(a, b)] := by
  intro p hp
  rw [List.mem_singleton.1 hp]
  exact ⟨ha, hb⟩
set_option maxHeartbeats 4000000 in
theorem awake_any (w : World) (hT : Tab w) : Calls Tryd.prog 9 #[] w fun e w' => e = .returned (.bool true) ∧ Below w.heap.size w w' := by
  have okN : Wig.Pb.Ok ⟨0, [], 18446744073709551615, 0, 0, 0, 0, 0, 0, 16777216⟩ := Wig.pbnew_ok (n := 0) (by decide)
  have okA : Wig.Pb.Ok ⟨0, [(1, 100000)], 100, 100, 100000, 0, 1, 0, 0, 16777216⟩ := ⟨by decide, by decide, fits_one (by decide) (by decide), by decide, by decide, by decide, by decide, by decide, by decide, by decide, by decide⟩
  have okL : Wig.Pb.Ok ⟨0, [(1, 100000)], 100, 100, 100000, 0, 1, 0, 0, 7000⟩ := ⟨by decide, by decide, fits_one (by decide) (by decide), by decide, by decide, by decide, by decide, by decide, by decide, by decide, by decide⟩
  have C0 := Lib.hid (fun w0 => (show Calls Tryd.prog 15 #[.int .u64 0] w0 fun e w' => e = .returned (.agg #[.int .i64 0, .slice none 0 0, .int .u64 18446744073709551615, .int .u64 0, .int .u64 0, .int .u64 0, .int .u64 0, .int .u64 0, .int .u64 0, .int .u64 16777216]) ∧ Below w0.heap.size w0 w' from new_any 0 w0))
  have C1 := Lib.hid (fun w0 => (show Calls Tryd.prog 11 #[.agg #[.int .i64 0, .slice none 0 0, .int .u64 18446744073709551615, .int .u64 0, .int .u64 0, .int .u64 0, .int .u64 0, .int .u64 0, .int .u64 0, .int .u64 16777216], .agg #[.int .u64 100, .int .u64 0, .int .u64 0, .int .u64 0, .int .u64 0, .int .u64 100, .int .u64 0, .int .u64 100000, .bool false, .bool true]] w0 fun e w' => ∃ A' c', e = .returned (.agg #[.int .i64 0, .slice A' 1 c', .int .u64 100, .int .u64 100, .int .u64 100000, .int .u64 0, .int .u64 1, .int .u64 0, .int .u64 0, .int .u64 16777216]) ∧ Rt w' w0.heap.size w'.heap.size A' 1 [(1, 100000)] ∧ Below w0.heap.size w0 w' from ack_any 0 none 0 0 18446744073709551615 0 0 0 0 0 0 16777216 [] 100 0 0 0 0 100 0 100000 false true 0 [(1, 100000)] 100 100 100000 0 1 0 0 16777216 1 w0 okN Rt.empty ⟨by decide, by decide, by decide, by decide, by decide, by decide, by decide, by decide⟩ (by decide) (by decide +kernel) rfl))
  have C2 := Lib.hid (fun A1 c1 w0 (hR : Rt w0 0 w0.heap.size A1 1 [(1, 100000)]) => (show Calls Tryd.prog 13 #[.agg #[.int .i64 0, .slice A1 1 c1, .int .u64 100, .int .u64 100, .int .u64 100000, .int .u64 0, .int .u64 1, .int .u64 0, .int .u64 0, .int .u64 16777216], .int .u64 10000] w0 fun e w' => ∃ A' c', e = .returned (.agg #[.int .i64 0, .slice A' 1 c', .int .u64 100, .int .u64 100, .int .u64 100000, .int .u64 0, .int .u64 1, .int .u64 0, .int .u64 0, .int .u64 7000]) ∧ Rt w' w0.heap.size w'.heap.size A' 1 [(1, 100000)] ∧ Below w0.heap.size w0 w' from loss_any 0 A1 1 c1 100 100 100000 0 1 0 0 16777216 [(1, 100000)] 10000 0 [(1, 100000)] 100 100 100000 0 1 0 0 7000 w0 okA hR (by decide) (by decide +kernel)))
  have C3 := Lib.hid (fun w0 => (show Calls Tryd.prog 19 #[.agg #[.int .i64 0, .slice none 0 0, .int .u64 18446744073709551615, .int .u64 0, .int .u64 0, .int .u64 0, .int .u64 0, .int .u64 0, .int .u64 0, .int .u64 16777216]] w0 fun e w' => e = .returned (.int .u64 12000) ∧ Below w0.heap.size w0 w' from window_any 0 none 0 0 18446744073709551615 0 0 0 0 0 0 16777216 [] 12000 w0 okN Rt.empty (by decide +kernel)))
  have C4 := Lib.hid (fun w0 (hb : Below w.heap.size w w0) => (show Calls Tryd.prog 21 #[.agg #[.int .i64 0, .slice none 0 0, .int .u64 18446744073709551615, .int .u64 0, .int .u64 0, .int .u64 0, .int .u64 0, .int .u64 0, .int .u64 0, .int .u64 16777216]] w0 fun e w' => e = .returned (.int .u64 36036) ∧ Below w0.heap.size w0 w' from rate_any 0 none 0 0 18446744073709551615 0 0 0 0 0 0 16777216 [] 36036 w0 okN Rt.empty (hT.below hb) (by decide +kernel)))
  have C5 := Lib.hid (fun A1 c1 w0 (hR : Rt w0 0 w0.heap.size A1 1 [(1, 100000)]) => (show Calls Tryd.prog 19 #[.agg #[.int .i64 0, .slice A1 1 c1, .int .u64 100, .int .u64 100, .int .u64 100000, .int .u64 0, .int .u64 1, .int .u64 0, .int .u64 0, .int .u64 16777216]] w0 fun e w' => e = .returned (.int .u64 28867) ∧ Below w0.heap.size w0 w' from window_any 0 A1 1 c1 100 100 100000 0 1 0 0 16777216 [(1, 100000)] 28867 w0 okA hR (by decide +kernel)))
  have C6 := Lib.hid (fun A1 c1 w0 (hR : Rt w0 0 w0.heap.size A1 1 [(1, 100000)]) (hb : Below w.heap.size w w0) => (show Calls Tryd.prog 21 #[.agg #[.int .i64 0, .slice A1 1 c1, .int .u64 100, .int .u64 100, .int .u64 100000, .int .u64 0, .int .u64 1, .int .u64 0, .int .u64 0, .int .u64 16777216]] w0 fun e w' => e = .returned (.int .u64 288671) ∧ Below w0.heap.size w0 w' from rate_any 0 A1 1 c1 100 100 100000 0 1 0 0 16777216 [(1, 100000)] 288671 w0 okA hR (hT.below hb) (by decide +kernel)))
  have C7 := Lib.hid (fun A2 c2 w0 (hR : Rt w0 0 w0.heap.size A2 1 [(1, 100000)]) => (show Calls Tryd.prog 19 #[.agg #[.int .i64 0, .slice A2 1 c2, .int .u64 100, .int .u64 100, .int .u64 100000, .int .u64 0, .int .u64 1, .int .u64 0, .int .u64 0, .int .u64 7000]] w0 fun e w' => e = .returned (.int .u64 7000) ∧ Below w0.heap.size w0 w' from window_any 0 A2 1 c2 100 100 100000 0 1 0 0 7000 [(1, 100000)] 7000 w0 okL hR (by decide +kernel)))
  have C8 := Lib.hid (fun A1 c1 w0 (hR : Rt w0 0 w0.heap.size A1 1 [(1, 100000)]) => (show Calls Tryd.prog 17 #[.agg #[.int .i64 0, .slice A1 1 c1, .int .u64 100, .int .u64 100, .int .u64 100000, .int .u64 0, .int .u64 1, .int .u64 0, .int .u64 0, .int .u64 16777216], .int .u64 256] w0 fun e w' => e = .returned (.int .u64 10000) ∧ Below w0.heap.size w0 w' from product_any 0 A1 1 c1 100 100 100000 0 1 0 0 16777216 [(1, 100000)] 256 10000 w0 okA hR (by decide) (by decide +kernel)))
  clear okN okA okL hT
  have B0 := Lib.hid (Below.refl w.heap.size w)
  go_enter Tryd.func9, Tryd.ntmps9
  go_wp2_with fail
  refine (C0.out _).mono ?_
  rintro e w1 ⟨rfl, hb⟩
  have B1 := Lib.hid (below_trans' B0.out hb)
  clear hb B0
  go_upto_region 2 with fail
  obtain ⟨w2, hw⟩ : ∃ wx, wx = w1.alloc (.cells #[.int .i64 0, .slice none 0 0, .int .u64 18446744073709551615, .int .u64 0, .int .u64 0, .int .u64 0, .int .u64 0, .int .u64 0, .int .u64 0, .int .u64 16777216] 26) := ⟨_, rfl⟩
  rw [← hw]
  obtain ⟨pN, hp⟩ : ∃ px, px = w1.heap.size := ⟨_, rfl⟩
  rw [← hp]
  have hb : Below w1.heap.size w1 w2 := by rw [hw]; exact (Below.refl _ _).alloc (Nat.le_refl _) _
  have hx : BxPb pN 0 none 0 0 18446744073709551615 0 0 0 0 0 0 16777216 w2 := by rw [hp, hw]; exact BxPb.new _ 0 none 0 0 18446744073709551615 0 0 0 0 0 0 16777216
  have hs : pN < w2.heap.size := by rw [hp, hw]; simp
  have GN := Lib.hid (show w.heap.size ≤ pN by rw [hp]; exact B1.out.size)
  have B2 := Lib.hid (below_trans' B1.out hb)
  clear hb B1
  have XN2 := Lib.hid hx
  have SN2 := Lib.hid hs
  clear hx hs hw hp
  obtain ⟨n0, n1, n2, n3, n4, n5, n6, n7, n8, n9, -, -, -, -, -, -, -, -, -, -⟩ := XN2.out
  go_wp2_with fail
  refine (C1.out _).mono ?_
  rintro e w3 ⟨A1, c1, rfl, hr, hb⟩
  have LTN := Lib.hid (show pN < w2.heap.size from SN2.out)
  have QT := Lib.hid (show w.heap.size ≤ w2.heap.size from B2.out.size)
  have B3 := Lib.hid (below_trans' B2.out hb)
  have XN3 := Lib.hid (XN2.out.below hb SN2.out)
  have SN3 := Lib.hid (Nat.lt_of_lt_of_le SN2.out hb.size)
  clear n0 n1 n2 n3 n4 n5 n6 n7 n8 n9
  clear hb B2 XN2 SN2
  have RT3 := Lib.hid hr
  clear hr
  go_upto_region 3 with fail
  obtain ⟨w4, hw⟩ : ∃ wx, wx = w3.alloc (.cells #[.int .i64 0, .slice A1 1 c1, .int .u64 100, .int .u64 100, .int .u64 100000, .int .u64 0, .int .u64 1, .int .u64 0, .int .u64 0, .int .u64 16777216] 26) := ⟨_, rfl⟩
  rw [← hw]
  obtain ⟨pA, hp⟩ : ∃ px, px = w3.heap.size := ⟨_, rfl⟩
  rw [← hp]
  have hb : Below w3.heap.size w3 w4 := by rw [hw]; exact (Below.refl _ _).alloc (Nat.le_refl _) _
  have hx : BxPb pA 0 A1 1 c1 100 100 100000 0 1 0 0 16777216 w4 := by rw [hp, hw]; exact BxPb.new _ 0 A1 1 c1 100 100 100000 0 1 0 0 16777216
  have hs : pA < w4.heap.size := by rw [hp, hw]; simp
  have GA := Lib.hid (show w.heap.size ≤ pA by rw [hp]; exact B3.out.size)
  have ONA := Lib.hid (show pN < pA by rw [hp]; exact SN3.out)
  have B4 := Lib.hid (below_trans' B3.out hb)
  have XN4 := Lib.hid (XN3.out.below hb SN3.out)
  have SN4 := Lib.hid (Nat.lt_of_lt_of_le SN3.out hb.size)
  have RT4 := Lib.hid (RT3.out.step hb)
  clear hb B3 XN3 SN3 RT3
  have XA4 := Lib.hid hx
  have SA4 := Lib.hid hs
  clear hx hs hw hp
  obtain ⟨a0, a1, a2, a3, a4, a5, a6, a7, a8, a9, -, -, -, -, -, -, -, -, -, -⟩ := XA4.out
  go_wp2_with fail
  refine (C2.out _ _ _ RT4.out.low).mono ?_
  rintro e w5 ⟨A2, c2, rfl, hr, hb⟩
  have LUN := Lib.hid (show pN < w4.heap.size from SN4.out)
  have LUA := Lib.hid (show pA < w4.heap.size from SA4.out)
  have QU := Lib.hid (show w.heap.size ≤ w4.heap.size from B4.out.size)
  have B5 := Lib.hid (below_trans' B4.out hb)
  have XN5 := Lib.hid (XN4.out.below hb SN4.out)
  have SN5 := Lib.hid (Nat.lt_of_lt_of_le SN4.out hb.size)
  have XA5 := Lib.hid (XA4.out.below hb SA4.out)
  have SA5 := Lib.hid (Nat.lt_of_lt_of_le SA4.out hb.size)
  have RT5 := Lib.hid (RT4.out.step hb)
  clear a0 a1 a2 a3 a4 a5 a6 a7 a8 a9
  clear hb B4 XN4 SN4 XA4 SA4 RT4
  have RU5 := Lib.hid hr
  clear hr
  go_upto_region 4 with fail
  obtain ⟨w6, hw⟩ : ∃ wx, wx = w5.alloc (.cells #[.int .i64 0, .slice A2 1 c2, .int .u64 100, .int .u64 100, .int .u64 100000, .int .u64 0, .int .u64 1, .int .u64 0, .int .u64 0, .int .u64 7000] 26) := ⟨_, rfl⟩
  rw [← hw]
  obtain ⟨pL, hp⟩ : ∃ px, px = w5.heap.size := ⟨_, rfl⟩
  rw [← hp]
  have hb : Below w5.heap.size w5 w6 := by rw [hw]; exact (Below.refl _ _).alloc (Nat.le_refl _) _
  have hx : BxPb pL 0 A2 1 c2 100 100 100000 0 1 0 0 7000 w6 := by rw [hp, hw]; exact BxPb.new _ 0 A2 1 c2 100 100 100000 0 1 0 0 7000
  have hs : pL < w6.heap.size := by rw [hp, hw]; simp
  have GL := Lib.hid (show w.heap.size ≤ pL by rw [hp]; exact B5.out.size)
  have ONL := Lib.hid (show pN < pL by rw [hp]; exact SN5.out)
  have OAL := Lib.hid (show pA < pL by rw [hp]; exact SA5.out)
  have B6 := Lib.hid (below_trans' B5.out hb)
  have XN6 := Lib.hid (XN5.out.below hb SN5.out)
  have SN6 := Lib.hid (Nat.lt_of_lt_of_le SN5.out hb.size)
  have XA6 := Lib.hid (XA5.out.below hb SA5.out)
  have SA6 := Lib.hid (Nat.lt_of_lt_of_le SA5.out hb.size)
  have RT6 := Lib.hid (RT5.out.step hb)
  have RU6 := Lib.hid (RU5.out.step hb)
  clear hb B5 XN5 SN5 XA5 SA5 RT5 RU5
  have XL6 := Lib.hid hx
  have SL6 := Lib.hid hs
  clear hx hs hw hp
  obtain ⟨n0, n1, n2, n3, n4, n5, n6, n7, n8, n9, -, -, -, -, -, -, -, -, -, -⟩ := XN6.out
  go_wp2_with fail
  refine (C3.out _).mono ?_
  rintro e w7 ⟨rfl, hb⟩
  have B7 := Lib.hid (below_trans' B6.out hb)
  have XN7 := Lib.hid (XN6.out.below hb SN6.out)
  have SN7 := Lib.hid (Nat.lt_of_lt_of_le SN6.out hb.size)
  have XA7 := Lib.hid (XA6.out.below hb SA6.out)
  have SA7 := Lib.hid (Nat.lt_of_lt_of_le SA6.out hb.size)
  have XL7 := Lib.hid (XL6.out.below hb SL6.out)
  have SL7 := Lib.hid (Nat.lt_of_lt_of_le SL6.out hb.size)
  have RT7 := Lib.hid (RT6.out.step hb)
  have RU7 := Lib.hid (RU6.out.step hb)
  clear n0 n1 n2 n3 n4 n5 n6 n7 n8 n9
  clear hb B6 XN6 SN6 XA6 SA6 XL6 SL6 RT6 RU6
  obtain ⟨n0, n1, n2, n3, n4, n5, n6, n7, n8, n9, -, -, -, -, -, -, -, -, -, -⟩ := XN7.out
  go_wp2_with fail
  refine (C4.out _ B7.out).mono ?_
  rintro e w8 ⟨rfl, hb⟩
  have B8 := Lib.hid (below_trans' B7.out hb)
  have XN8 := Lib.hid (XN7.out.below hb SN7.out)
  have SN8 := Lib.hid (Nat.lt_of_lt_of_le SN7.out hb.size)
  have XA8 := Lib.hid (XA7.out.below hb SA7.out)
  have SA8 := Lib.hid (Nat.lt_of_lt_of_le SA7.out hb.size)
  have XL8 := Lib.hid (XL7.out.below hb SL7.out)
  have SL8 := Lib.hid (Nat.lt_of_lt_of_le SL7.out hb.size)
  have RT8 := Lib.hid (RT7.out.step hb)
  have RU8 := Lib.hid (RU7.out.step hb)
  clear n0 n1 n2 n3 n4 n5 n6 n7 n8 n9
  clear hb B7 XN7 SN7 XA7 SA7 XL7 SL7 RT7 RU7
  obtain ⟨a0, a1, a2, a3, a4, a5, a6, a7, a8, a9, -, -, -, -, -, -, -, -, -, -⟩ := XA8.out
  go_wp2_with fail
  refine (C5.out _ _ _ RT8.out.low).mono ?_
  rintro e w9 ⟨rfl, hb⟩
  have B9 := Lib.hid (below_trans' B8.out hb)
  have XN9 := Lib.hid (XN8.out.below hb SN8.out)
  have SN9 := Lib.hid (Nat.lt_of_lt_of_le SN8.out hb.size)
  have XA9 := Lib.hid (XA8.out.below hb SA8.out)
  have SA9 := Lib.hid (Nat.lt_of_lt_of_le SA8.out hb.size)
  have XL9 := Lib.hid (XL8.out.below hb SL8.out)
  have SL9 := Lib.hid (Nat.lt_of_lt_of_le SL8.out hb.size)
  have RT9 := Lib.hid (RT8.out.step hb)
  have RU9 := Lib.hid (RU8.out.step hb)
  clear a0 a1 a2 a3 a4 a5 a6 a7 a8 a9
  clear hb B8 XN8 SN8 XA8 SA8 XL8 SL8 RT8 RU8
  obtain ⟨a0, a1, a2, a3, a4, a5, a6, a7, a8, a9, -, -, -, -, -, -, -, -, -, -⟩ := XA9.out
  go_wp2_with fail
  refine (C6.out _ _ _ RT9.out.low B9.out).mono ?_
  rintro e w10 ⟨rfl, hb⟩
  have B10 := Lib.hid (below_trans' B9.out hb)
  have XN10 := Lib.hid (XN9.out.below hb SN9.out)
  have SN10 := Lib.hid (Nat.lt_of_lt_of_le SN9.out hb.size)
  have XA10 := Lib.hid (XA9.out.below hb SA9.out)
  have SA10 := Lib.hid (Nat.lt_of_lt_of_le SA9.out hb.size)
  have XL10 := Lib.hid (XL9.out.below hb SL9.out)
  have SL10 := Lib.hid (Nat.lt_of_lt_of_le SL9.out hb.size)
  have RT10 := Lib.hid (RT9.out.step hb)
  have RU10 := Lib.hid (RU9.out.step hb)
  clear a0 a1 a2 a3 a4 a5 a6 a7 a8 a9
  clear hb B9 XN9 SN9 XA9 SA9 XL9 SL9 RT9 RU9
  obtain ⟨l0, l1, l2, l3, l4, l5, l6, l7, l8, l9, -, -, -, -, -, -, -, -, -, -⟩ := XL10.out
  go_wp2_with fail
  refine (C7.out _ _ _ RU10.out.low).mono ?_
  rintro e w11 ⟨rfl, hb⟩
  have B11 := Lib.hid (below_trans' B10.out hb)
  have XN11 := Lib.hid (XN10.out.below hb SN10.out)
  have SN11 := Lib.hid (Nat.lt_of_lt_of_le SN10.out hb.size)
  have XA11 := Lib.hid (XA10.out.below hb SA10.out)
  have SA11 := Lib.hid (Nat.lt_of_lt_of_le SA10.out hb.size)
  have XL11 := Lib.hid (XL10.out.below hb SL10.out)
  have SL11 := Lib.hid (Nat.lt_of_lt_of_le SL10.out hb.size)
  have RT11 := Lib.hid (RT10.out.step hb)
  have RU11 := Lib.hid (RU10.out.step hb)
  clear l0 l1 l2 l3 l4 l5 l6 l7 l8 l9
  clear hb B10 XN10 SN10 XA10 SA10 XL10 SL10 RT10 RU10
  obtain ⟨a0, a1, a2, a3, a4, a5, a6, a7, a8, a9, -, -, -, -, -, -, -, -, -, -⟩ := XA11.out
  go_wp2_with fail
  refine (C8.out _ _ _ RT11.out.low).mono ?_
  rintro e w12 ⟨rfl, hb⟩
  have B12 := Lib.hid (below_trans' B11.out hb)
  have XN12 := Lib.hid (XN11.out.below hb SN11.out)
  have SN12 := Lib.hid (Nat.lt_of_lt_of_le SN11.out hb.size)
  have XA12 := Lib.hid (XA11.out.below hb SA11.out)
  have SA12 := Lib.hid (Nat.lt_of_lt_of_le SA11.out hb.size)
  have XL12 := Lib.hid (XL11.out.below hb SL11.out)
  have SL12 := Lib.hid (Nat.lt_of_lt_of_le SL11.out hb.size)
  have RT12 := Lib.hid (RT11.out.step hb)
  have RU12 := Lib.hid (RU11.out.step hb)
  clear a0 a1 a2 a3 a4 a5 a6 a7 a8 a9
  clear hb B11 XN11 SN11 XA11 SA11 XL11 SL11 RT11 RU11
  go_wp2_with fail
  go_ret
  exact ⟨rfl, B12.out⟩
end Go.Proofs.YtjojnbeflongkaaDoor
