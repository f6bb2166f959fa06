/-
  PragueShare: the share of marks rises with a round whose bytes were all marked, or stays, and falls with one of none, or stays; and is between these with any other one. No condition.
-/
import Derived.Test.YtpdmepblmjjeeaaPgW
import Derived.Test.YtpdmepblmjjeeaaOpen
import Derived.Test.YtpdmepblmjjeeaaOpQ
import Derived.Deep.CutBlock
import Derived.Deep.DeepCutAuto
namespace Go.Proofs.Ytpdmepblmjjeeaa.pragueShare
open Go.ChangeShapes Go.WideShapes Go.ChangeAt Go.RowKit Go.Deep
set_option linter.unusedVariables false

set_option maxHeartbeats 8000000 in
theorem walk (c t s r al ac mk en : Nat) (cu : Bool) (b m : Nat) (hc : c < 18446744073709551616) (ht : t < 18446744073709551616) (hs : s < 18446744073709551616) (hr : r < 18446744073709551616) (hal : al < 18446744073709551616) (hac : ac < 18446744073709551616) (hmk : mk < 18446744073709551616) (hen : en < 18446744073709551616) (hb : b < 4294967296) (hm : m < 4294967296) (w : World) :
    Calls Try.prog 7 #[aggPg c t s r al ac mk en cu, .int .u32 (b : Int), .int .u32 (m : Int)] w fun e w' => e = .returned (.bool true) ∧ Below w.heap.size w w' := by
  have C0 := Lib.hid (fun w => awake_any w)
  obtain ⟨v, hv⟩ : ∃ v, v = min al 1048576 := ⟨_, rfl⟩
  have m2 : ∀ ts ty w, (Builtin.min_ ts ty #[.int .u64 (al : Int), .int .u64 1048576]).run Try.prog w = .ok (.int .u64 (v : Int)) w := by
    intro ts ty w
    rw [run_min_int2, show (if (1048576 : Int) < (al : Int) then (1048576 : Int) else (al : Int)) = (v : Int) by split <;> omega]
  have v1 : v ≤ 1048576 := by omega
  obtain ⟨⟨bc, bt, bs, br⟩, hbase⟩ : ∃ q, Wig.nack ⟨c, t, s, r⟩ b 0 false = q := ⟨_, rfl⟩
  obtain ⟨yn, hyn⟩ : ∃ q, q = Wig.galpha v 0 b := ⟨_, rfl⟩
  have Cn := Lib.hid (fun w => (show Calls Try.prog 9 #[.agg #[.int .u64 (c : Int), .int .u64 (t : Int), .int .u64 (s : Int), .int .u64 (r : Int), .int .u64 (v : Int), .int .u64 0, .int .u64 0, .int .u64 0, .bool cu], .agg #[.int .u64 0, .int .u64 (b : Int), .int .u64 0, .int .u64 0, .int .u64 9, .int .u64 0, .int .u64 0, .int .u64 0, .bool false, .bool false]] w fun e w' => e = .returned (.agg #[.int .u64 (bc : Int), .int .u64 (bt : Int), .int .u64 (bs : Int), .int .u64 (br : Int), .int .u64 (yn : Int), .int .u64 0, .int .u64 0, .int .u64 9, .bool false]) ∧ Below w.heap.size w w' from ack_any c t s r v 0 0 0 cu 0 b 0 0 9 0 0 0 false false bc bt bs br yn 0 0 9 false w ⟨⟨hc, ht, hs, hr⟩, by simp only; omega, by simp only; omega, by simp only; omega, by simp only; omega⟩ (by omega) (by omega) (by unfold Wig.gack Wig.gturn; simp only; rw [if_pos (Nat.zero_le _), hbase, hyn, show Wig.fadd 0 b = b by unfold Wig.fadd; rw [if_pos (by omega)]; omega])))
  obtain ⟨ya, hya⟩ : ∃ q, q = Wig.galpha v b b := ⟨_, rfl⟩
  have Ca := Lib.hid (fun w => (show Calls Try.prog 9 #[.agg #[.int .u64 (c : Int), .int .u64 (t : Int), .int .u64 (s : Int), .int .u64 (r : Int), .int .u64 (v : Int), .int .u64 0, .int .u64 (b : Int), .int .u64 0, .bool cu], .agg #[.int .u64 0, .int .u64 (b : Int), .int .u64 0, .int .u64 0, .int .u64 9, .int .u64 0, .int .u64 0, .int .u64 0, .bool false, .bool false]] w fun e w' => e = .returned (.agg #[.int .u64 (bc : Int), .int .u64 (bt : Int), .int .u64 (bs : Int), .int .u64 (br : Int), .int .u64 (ya : Int), .int .u64 0, .int .u64 0, .int .u64 9, .bool false]) ∧ Below w.heap.size w w' from ack_any c t s r v 0 b 0 cu 0 b 0 0 9 0 0 0 false false bc bt bs br ya 0 0 9 false w ⟨⟨hc, ht, hs, hr⟩, by simp only; omega, by simp only; omega, by simp only; omega, by simp only; omega⟩ (by omega) (by omega) (by unfold Wig.gack Wig.gturn; simp only; rw [if_pos (Nat.zero_le _), hbase, hya, show Wig.fadd 0 b = b by unfold Wig.fadd; rw [if_pos (by omega)]; omega])))
  obtain ⟨ys, hys⟩ : ∃ q, q = Wig.galpha v m b := ⟨_, rfl⟩
  have Cs := Lib.hid (fun w => (show Calls Try.prog 9 #[.agg #[.int .u64 (c : Int), .int .u64 (t : Int), .int .u64 (s : Int), .int .u64 (r : Int), .int .u64 (v : Int), .int .u64 0, .int .u64 (m : Int), .int .u64 0, .bool cu], .agg #[.int .u64 0, .int .u64 (b : Int), .int .u64 0, .int .u64 0, .int .u64 9, .int .u64 0, .int .u64 0, .int .u64 0, .bool false, .bool false]] w fun e w' => e = .returned (.agg #[.int .u64 (bc : Int), .int .u64 (bt : Int), .int .u64 (bs : Int), .int .u64 (br : Int), .int .u64 (ys : Int), .int .u64 0, .int .u64 0, .int .u64 9, .bool false]) ∧ Below w.heap.size w w' from ack_any c t s r v 0 m 0 cu 0 b 0 0 9 0 0 0 false false bc bt bs br ys 0 0 9 false w ⟨⟨hc, ht, hs, hr⟩, by simp only; omega, by simp only; omega, by simp only; omega, by simp only; omega⟩ (by omega) (by omega) (by unfold Wig.gack Wig.gturn; simp only; rw [if_pos (Nat.zero_le _), hbase, hys, show Wig.fadd 0 b = b by unfold Wig.fadd; rw [if_pos (by omega)]; omega])))
  have hsh := Wig.gshares (x := v) (m := m) (b := b) v1
  rw [← hyn, ← hya, ← hys] at hsh
  obtain ⟨i1, i2, i3, i4, i5⟩ := hsh
  have q1 : decide (yn ≤ v) = true := decide_eq_true (by omega)
  have q3 : decide (yn ≤ ys) = true := decide_eq_true (by omega)
  have q4 : decide (ys ≤ ya) = true := decide_eq_true (by omega)
  have q5 : decide ((ya : Int) ≤ 1048576) = true := decide_eq_true (by omega)
  obtain ⟨za, hza⟩ : ∃ q, q = ya + 16 := ⟨_, rfl⟩
  have e1 : IntKind.u64.wrap ((ya : Int) + 16) = (za : Int) := by rw [IntKind.wrap_u64]; omega
  have v3 : IntKind.u64.wrap (b : Int) = (b : Int) := by rw [IntKind.wrap_u64]; omega
  have v4 : IntKind.u64.wrap (m : Int) = (m : Int) := by rw [IntKind.wrap_u64]; omega
  obtain ⟨q, hq⟩ : ∃ q, q = decide (v ≤ za) := ⟨_, rfl⟩
  have t1 : decide (v ≤ za) = q := hq.symm
  have t2 : q = false → ((b : Int) == 0) = true := by intro h; rw [h] at hq; have := of_decide_eq_false hq.symm; simp; omega
  have T2 := Lib.hid t2
  clear t2 hq hza i1 i2 i3 i4 i5 hyn hya hys hbase v1 hv hb hm hc ht hs hr hal hac hmk hen
  have B0 := Lib.hid (Below.refl w.heap.size w)
  go_enter Try.func7, Try.ntmps7
  go_upto_region 1 with fail
  obtain ⟨w1, hw⟩ : ∃ wx, wx = w.alloc (.cells #[.int .u64 (c : Int), .int .u64 (t : Int), .int .u64 (s : Int), .int .u64 (r : Int), .int .u64 (al : Int), .int .u64 (ac : Int), .int .u64 (mk : Int), .int .u64 (en : Int), .bool cu] 26) := ⟨_, rfl⟩
  rw [← hw]
  obtain ⟨pC, hp⟩ : ∃ px, px = w.heap.size := ⟨_, rfl⟩
  rw [← hp]
  have hb : Below w.heap.size w w1 := by rw [hw]; exact (Below.refl _ _).alloc (Nat.le_refl _) _
  have hx : BxPg pC c t s r al ac mk en cu w1 := by rw [hp, hw]; exact BxPg.new _ c t s r al ac mk en cu
  have hs : pC < w1.heap.size := by rw [hp, hw]; simp
  have GC := Lib.hid (show w.heap.size ≤ pC by rw [hp]; exact B0.out.size)
  have B1 := Lib.hid (below_trans' B0.out hb)
  clear hb B0
  have XC1 := Lib.hid hx
  have SC1 := Lib.hid hs
  clear hx hs hw hp
  go_wp2_with fail
  refine (C0.out _).mono ?_
  rintro e w2 ⟨rfl, hb⟩
  have B2 := Lib.hid (below_trans' B1.out hb)
  have XC2 := Lib.hid (XC1.out.below hb SC1.out)
  have SC2 := Lib.hid (Nat.lt_of_lt_of_le SC1.out hb.size)
  clear hb B1 XC1 SC1
  obtain ⟨c0, c1, c2, c3, c4, c5, c6, c7, c8, cf0, cf1, cf2, cf3, cf4, cf5, cf6, cf7, cf8⟩ := XC2.out
  go_upto_region 3 with fail
  obtain ⟨w3, hw⟩ : ∃ wx, wx = w2.setCell ⟨pC, 4, none⟩ (.int .u64 (v : Int)) := ⟨_, rfl⟩
  rw [← hw]
  have XC3 := Lib.hid (show BxPg pC c t s r v ac mk en cu w3 by rw [hw]; exact XC2.out.set4)
  have B3 := Lib.hid (show Below w.heap.size w w3 by rw [hw]; exact Below.setCell B2.out GC.out _)
  have SC3 := Lib.hid (show pC < w3.heap.size by rw [hw]; have := SC2.out; simpa using this)
  clear c0 c1 c2 c3 c4 c5 c6 c7 c8 cf0 cf1 cf2 cf3 cf4 cf5 cf6 cf7 cf8
  clear hw B2 XC2 SC2
  obtain ⟨c0, c1, c2, c3, c4, c5, c6, c7, c8, cf0, cf1, cf2, cf3, cf4, cf5, cf6, cf7, cf8⟩ := XC3.out
  go_upto_region 4 with fail
  obtain ⟨w4, hw⟩ : ∃ wx, wx = w3.setCell ⟨pC, 5, none⟩ (.int .u64 0) := ⟨_, rfl⟩
  rw [← hw]
  have XC4 := Lib.hid (show BxPg pC c t s r v 0 mk en cu w4 by rw [hw]; exact XC3.out.set5)
  have B4 := Lib.hid (show Below w.heap.size w w4 by rw [hw]; exact Below.setCell B3.out GC.out _)
  have SC4 := Lib.hid (show pC < w4.heap.size by rw [hw]; have := SC3.out; simpa using this)
  clear c0 c1 c2 c3 c4 c5 c6 c7 c8 cf0 cf1 cf2 cf3 cf4 cf5 cf6 cf7 cf8
  clear hw B3 XC3 SC3
  obtain ⟨c0, c1, c2, c3, c4, c5, c6, c7, c8, cf0, cf1, cf2, cf3, cf4, cf5, cf6, cf7, cf8⟩ := XC4.out
  go_upto_region 5 with fail
  obtain ⟨w5, hw⟩ : ∃ wx, wx = w4.setCell ⟨pC, 7, none⟩ (.int .u64 0) := ⟨_, rfl⟩
  rw [← hw]
  have XC5 := Lib.hid (show BxPg pC c t s r v 0 mk 0 cu w5 by rw [hw]; exact XC4.out.set7)
  have B5 := Lib.hid (show Below w.heap.size w w5 by rw [hw]; exact Below.setCell B4.out GC.out _)
  have SC5 := Lib.hid (show pC < w5.heap.size by rw [hw]; have := SC4.out; simpa using this)
  clear c0 c1 c2 c3 c4 c5 c6 c7 c8 cf0 cf1 cf2 cf3 cf4 cf5 cf6 cf7 cf8
  clear hw B4 XC4 SC4
  go_upto_region 6 with fail
  obtain ⟨w6, hw⟩ : ∃ wx, wx = w5.alloc (.cells #[.int .u64 0, .int .u64 (b : Int), .int .u64 0, .int .u64 0, .int .u64 9, .int .u64 0, .int .u64 0, .int .u64 0, .bool false, .bool false] 28) := ⟨_, rfl⟩
  rw [← hw]
  obtain ⟨pG, hp⟩ : ∃ px, px = w5.heap.size := ⟨_, rfl⟩
  rw [← hp]
  have hb : Below w5.heap.size w5 w6 := by rw [hw]; exact (Below.refl _ _).alloc (Nat.le_refl _) _
  have hx : BxGt pG 0 b 0 0 9 0 0 0 false false w6 := by rw [hp, hw]; exact BxGt.new _ 0 b 0 0 9 0 0 0 false false
  have hs : pG < w6.heap.size := by rw [hp, hw]; simp
  have GG := Lib.hid (show w.heap.size ≤ pG by rw [hp]; exact B5.out.size)
  have OCG := Lib.hid (show pC < pG by rw [hp]; exact SC5.out)
  have B6 := Lib.hid (below_trans' B5.out hb)
  have XC6 := Lib.hid (XC5.out.below hb SC5.out)
  have SC6 := Lib.hid (Nat.lt_of_lt_of_le SC5.out hb.size)
  clear hb B5 XC5 SC5
  have XG6 := Lib.hid hx
  have SG6 := Lib.hid hs
  clear hx hs hw hp
  obtain ⟨c0, c1, c2, c3, c4, c5, c6, c7, c8, cf0, cf1, cf2, cf3, cf4, cf5, cf6, cf7, cf8⟩ := XC6.out
  go_upto_region 7 with fail
  obtain ⟨w7, hw⟩ : ∃ wx, wx = w6.setCell ⟨pC, 6, none⟩ (.int .u64 0) := ⟨_, rfl⟩
  rw [← hw]
  have XC7 := Lib.hid (show BxPg pC c t s r v 0 0 0 cu w7 by rw [hw]; exact XC6.out.set6)
  have B7 := Lib.hid (show Below w.heap.size w w7 by rw [hw]; exact Below.setCell B6.out GC.out _)
  have SC7 := Lib.hid (show pC < w7.heap.size by rw [hw]; have := SC6.out; simpa using this)
  have XG7 := Lib.hid (show BxGt pG 0 b 0 0 9 0 0 0 false false w7 by rw [hw]; exact XG6.out.other rfl (Nat.ne_of_lt OCG.out))
  have SG7 := Lib.hid (show pG < w7.heap.size by rw [hw]; have := SG6.out; simpa using this)
  clear c0 c1 c2 c3 c4 c5 c6 c7 c8 cf0 cf1 cf2 cf3 cf4 cf5 cf6 cf7 cf8
  clear hw B6 XC6 SC6 XG6 SG6
  obtain ⟨c0, c1, c2, c3, c4, c5, c6, c7, c8, -, -, -, -, -, -, -, -, -⟩ := XC7.out
  obtain ⟨g0, g1, g2, g3, g4, g5, g6, g7, g8, g9, -, -, -, -, -, -, -, -, -, -⟩ := XG7.out
  go_wp2_with fail
  refine (Cn.out _).mono ?_
  rintro e w8 ⟨rfl, hb⟩
  have B8 := Lib.hid (below_trans' B7.out hb)
  have XC8 := Lib.hid (XC7.out.below hb SC7.out)
  have SC8 := Lib.hid (Nat.lt_of_lt_of_le SC7.out hb.size)
  have XG8 := Lib.hid (XG7.out.below hb SG7.out)
  have SG8 := Lib.hid (Nat.lt_of_lt_of_le SG7.out hb.size)
  clear c0 c1 c2 c3 c4 c5 c6 c7 c8 g0 g1 g2 g3 g4 g5 g6 g7 g8 g9
  clear hb B7 XC7 SC7 XG7 SG7
  go_upto_region 8 with fail
  obtain ⟨w9, hw⟩ : ∃ wx, wx = w8.alloc (.cells #[.int .u64 (bc : Int), .int .u64 (bt : Int), .int .u64 (bs : Int), .int .u64 (br : Int), .int .u64 (yn : Int), .int .u64 0, .int .u64 0, .int .u64 9, .bool false] 26) := ⟨_, rfl⟩
  rw [← hw]
  obtain ⟨pN, hp⟩ : ∃ px, px = w8.heap.size := ⟨_, rfl⟩
  rw [← hp]
  have hb : Below w8.heap.size w8 w9 := by rw [hw]; exact (Below.refl _ _).alloc (Nat.le_refl _) _
  have hx : BxPg pN bc bt bs br yn 0 0 9 false w9 := by rw [hp, hw]; exact BxPg.new _ bc bt bs br yn 0 0 9 false
  have hs : pN < w9.heap.size := by rw [hp, hw]; simp
  have GN := Lib.hid (show w.heap.size ≤ pN by rw [hp]; exact B8.out.size)
  have OCN := Lib.hid (show pC < pN by rw [hp]; exact SC8.out)
  have OGN := Lib.hid (show pG < pN by rw [hp]; exact SG8.out)
  have B9 := Lib.hid (below_trans' B8.out hb)
  have XC9 := Lib.hid (XC8.out.below hb SC8.out)
  have SC9 := Lib.hid (Nat.lt_of_lt_of_le SC8.out hb.size)
  have XG9 := Lib.hid (XG8.out.below hb SG8.out)
  have SG9 := Lib.hid (Nat.lt_of_lt_of_le SG8.out hb.size)
  clear hb B8 XC8 SC8 XG8 SG8
  have XN9 := Lib.hid hx
  have SN9 := Lib.hid hs
  clear hx hs hw hp
  obtain ⟨c0, c1, c2, c3, c4, c5, c6, c7, c8, cf0, cf1, cf2, cf3, cf4, cf5, cf6, cf7, cf8⟩ := XC9.out
  go_upto_region 9 with fail
  obtain ⟨w10, hw⟩ : ∃ wx, wx = w9.setCell ⟨pC, 6, none⟩ (.int .u64 (b : Int)) := ⟨_, rfl⟩
  rw [← hw]
  have XC10 := Lib.hid (show BxPg pC c t s r v 0 b 0 cu w10 by rw [hw]; exact XC9.out.set6)
  have B10 := Lib.hid (show Below w.heap.size w w10 by rw [hw]; exact Below.setCell B9.out GC.out _)
  have SC10 := Lib.hid (show pC < w10.heap.size by rw [hw]; have := SC9.out; simpa using this)
  have XG10 := Lib.hid (show BxGt pG 0 b 0 0 9 0 0 0 false false w10 by rw [hw]; exact XG9.out.other rfl (Nat.ne_of_lt OCG.out))
  have SG10 := Lib.hid (show pG < w10.heap.size by rw [hw]; have := SG9.out; simpa using this)
  have XN10 := Lib.hid (show BxPg pN bc bt bs br yn 0 0 9 false w10 by rw [hw]; exact XN9.out.other rfl (Nat.ne_of_lt OCN.out))
  have SN10 := Lib.hid (show pN < w10.heap.size by rw [hw]; have := SN9.out; simpa using this)
  clear c0 c1 c2 c3 c4 c5 c6 c7 c8 cf0 cf1 cf2 cf3 cf4 cf5 cf6 cf7 cf8
  clear hw B9 XC9 SC9 XG9 SG9 XN9 SN9
  obtain ⟨c0, c1, c2, c3, c4, c5, c6, c7, c8, -, -, -, -, -, -, -, -, -⟩ := XC10.out
  obtain ⟨g0, g1, g2, g3, g4, g5, g6, g7, g8, g9, -, -, -, -, -, -, -, -, -, -⟩ := XG10.out
  go_wp2_with fail
  refine (Ca.out _).mono ?_
  rintro e w11 ⟨rfl, hb⟩
  have B11 := Lib.hid (below_trans' B10.out hb)
  have XC11 := Lib.hid (XC10.out.below hb SC10.out)
  have SC11 := Lib.hid (Nat.lt_of_lt_of_le SC10.out hb.size)
  have XG11 := Lib.hid (XG10.out.below hb SG10.out)
  have SG11 := Lib.hid (Nat.lt_of_lt_of_le SG10.out hb.size)
  have XN11 := Lib.hid (XN10.out.below hb SN10.out)
  have SN11 := Lib.hid (Nat.lt_of_lt_of_le SN10.out hb.size)
  clear c0 c1 c2 c3 c4 c5 c6 c7 c8 g0 g1 g2 g3 g4 g5 g6 g7 g8 g9
  clear hb B10 XC10 SC10 XG10 SG10 XN10 SN10
  go_upto_region 10 with fail
  obtain ⟨w12, hw⟩ : ∃ wx, wx = w11.alloc (.cells #[.int .u64 (bc : Int), .int .u64 (bt : Int), .int .u64 (bs : Int), .int .u64 (br : Int), .int .u64 (ya : Int), .int .u64 0, .int .u64 0, .int .u64 9, .bool false] 26) := ⟨_, rfl⟩
  rw [← hw]
  obtain ⟨pA, hp⟩ : ∃ px, px = w11.heap.size := ⟨_, rfl⟩
  rw [← hp]
  have hb : Below w11.heap.size w11 w12 := by rw [hw]; exact (Below.refl _ _).alloc (Nat.le_refl _) _
  have hx : BxPg pA bc bt bs br ya 0 0 9 false w12 := by rw [hp, hw]; exact BxPg.new _ bc bt bs br ya 0 0 9 false
  have hs : pA < w12.heap.size := by rw [hp, hw]; simp
  have GA := Lib.hid (show w.heap.size ≤ pA by rw [hp]; exact B11.out.size)
  have OCA := Lib.hid (show pC < pA by rw [hp]; exact SC11.out)
  have OGA := Lib.hid (show pG < pA by rw [hp]; exact SG11.out)
  have ONA := Lib.hid (show pN < pA by rw [hp]; exact SN11.out)
  have B12 := Lib.hid (below_trans' B11.out hb)
  have XC12 := Lib.hid (XC11.out.below hb SC11.out)
  have SC12 := Lib.hid (Nat.lt_of_lt_of_le SC11.out hb.size)
  have XG12 := Lib.hid (XG11.out.below hb SG11.out)
  have SG12 := Lib.hid (Nat.lt_of_lt_of_le SG11.out hb.size)
  have XN12 := Lib.hid (XN11.out.below hb SN11.out)
  have SN12 := Lib.hid (Nat.lt_of_lt_of_le SN11.out hb.size)
  clear hb B11 XC11 SC11 XG11 SG11 XN11 SN11
  have XA12 := Lib.hid hx
  have SA12 := Lib.hid hs
  clear hx hs hw hp
  obtain ⟨c0, c1, c2, c3, c4, c5, c6, c7, c8, cf0, cf1, cf2, cf3, cf4, cf5, cf6, cf7, cf8⟩ := XC12.out
  go_upto_region 11 with fail
  obtain ⟨w13, hw⟩ : ∃ wx, wx = w12.setCell ⟨pC, 6, none⟩ (.int .u64 (m : Int)) := ⟨_, rfl⟩
  rw [← hw]
  have XC13 := Lib.hid (show BxPg pC c t s r v 0 m 0 cu w13 by rw [hw]; exact XC12.out.set6)
  have B13 := Lib.hid (show Below w.heap.size w w13 by rw [hw]; exact Below.setCell B12.out GC.out _)
  have SC13 := Lib.hid (show pC < w13.heap.size by rw [hw]; have := SC12.out; simpa using this)
  have XG13 := Lib.hid (show BxGt pG 0 b 0 0 9 0 0 0 false false w13 by rw [hw]; exact XG12.out.other rfl (Nat.ne_of_lt OCG.out))
  have SG13 := Lib.hid (show pG < w13.heap.size by rw [hw]; have := SG12.out; simpa using this)
  have XN13 := Lib.hid (show BxPg pN bc bt bs br yn 0 0 9 false w13 by rw [hw]; exact XN12.out.other rfl (Nat.ne_of_lt OCN.out))
  have SN13 := Lib.hid (show pN < w13.heap.size by rw [hw]; have := SN12.out; simpa using this)
  have XA13 := Lib.hid (show BxPg pA bc bt bs br ya 0 0 9 false w13 by rw [hw]; exact XA12.out.other rfl (Nat.ne_of_lt OCA.out))
  have SA13 := Lib.hid (show pA < w13.heap.size by rw [hw]; have := SA12.out; simpa using this)
  clear c0 c1 c2 c3 c4 c5 c6 c7 c8 cf0 cf1 cf2 cf3 cf4 cf5 cf6 cf7 cf8
  clear hw B12 XC12 SC12 XG12 SG12 XN12 SN12 XA12 SA12
  obtain ⟨c0, c1, c2, c3, c4, c5, c6, c7, c8, -, -, -, -, -, -, -, -, -⟩ := XC13.out
  obtain ⟨g0, g1, g2, g3, g4, g5, g6, g7, g8, g9, -, -, -, -, -, -, -, -, -, -⟩ := XG13.out
  go_wp2_with fail
  refine (Cs.out _).mono ?_
  rintro e w14 ⟨rfl, hb⟩
  have B14 := Lib.hid (below_trans' B13.out hb)
  have XC14 := Lib.hid (XC13.out.below hb SC13.out)
  have SC14 := Lib.hid (Nat.lt_of_lt_of_le SC13.out hb.size)
  have XG14 := Lib.hid (XG13.out.below hb SG13.out)
  have SG14 := Lib.hid (Nat.lt_of_lt_of_le SG13.out hb.size)
  have XN14 := Lib.hid (XN13.out.below hb SN13.out)
  have SN14 := Lib.hid (Nat.lt_of_lt_of_le SN13.out hb.size)
  have XA14 := Lib.hid (XA13.out.below hb SA13.out)
  have SA14 := Lib.hid (Nat.lt_of_lt_of_le SA13.out hb.size)
  clear c0 c1 c2 c3 c4 c5 c6 c7 c8 g0 g1 g2 g3 g4 g5 g6 g7 g8 g9
  clear hb B13 XC13 SC13 XG13 SG13 XN13 SN13 XA13 SA13
  go_upto_region 12 with fail
  obtain ⟨w15, hw⟩ : ∃ wx, wx = w14.alloc (.cells #[.int .u64 (bc : Int), .int .u64 (bt : Int), .int .u64 (bs : Int), .int .u64 (br : Int), .int .u64 (ys : Int), .int .u64 0, .int .u64 0, .int .u64 9, .bool false] 26) := ⟨_, rfl⟩
  rw [← hw]
  obtain ⟨pS, hp⟩ : ∃ px, px = w14.heap.size := ⟨_, rfl⟩
  rw [← hp]
  have hb : Below w14.heap.size w14 w15 := by rw [hw]; exact (Below.refl _ _).alloc (Nat.le_refl _) _
  have hx : BxPg pS bc bt bs br ys 0 0 9 false w15 := by rw [hp, hw]; exact BxPg.new _ bc bt bs br ys 0 0 9 false
  have hs : pS < w15.heap.size := by rw [hp, hw]; simp
  have GS := Lib.hid (show w.heap.size ≤ pS by rw [hp]; exact B14.out.size)
  have OCS := Lib.hid (show pC < pS by rw [hp]; exact SC14.out)
  have OGS := Lib.hid (show pG < pS by rw [hp]; exact SG14.out)
  have ONS := Lib.hid (show pN < pS by rw [hp]; exact SN14.out)
  have OAS := Lib.hid (show pA < pS by rw [hp]; exact SA14.out)
  have B15 := Lib.hid (below_trans' B14.out hb)
  have XC15 := Lib.hid (XC14.out.below hb SC14.out)
  have SC15 := Lib.hid (Nat.lt_of_lt_of_le SC14.out hb.size)
  have XG15 := Lib.hid (XG14.out.below hb SG14.out)
  have SG15 := Lib.hid (Nat.lt_of_lt_of_le SG14.out hb.size)
  have XN15 := Lib.hid (XN14.out.below hb SN14.out)
  have SN15 := Lib.hid (Nat.lt_of_lt_of_le SN14.out hb.size)
  have XA15 := Lib.hid (XA14.out.below hb SA14.out)
  have SA15 := Lib.hid (Nat.lt_of_lt_of_le SA14.out hb.size)
  clear hb B14 XC14 SC14 XG14 SG14 XN14 SN14 XA14 SA14
  have XS15 := Lib.hid hx
  have SS15 := Lib.hid hs
  clear hx hs hw hp
  have c4 := XC15.out.c4
  have n4 := XN15.out.c4
  have a4 := XA15.out.c4
  have a5 := XA15.out.c5
  have a6 := XA15.out.c6
  have s4 := XS15.out.c4
  cases q with
  | true =>
    clear T2
    go_wp2_with fail
    go_ret
    exact ⟨rfl, B15.out⟩
  | false =>
    have t2 := T2.out rfl
    clear T2
    go_wp2_with fail
    go_ret
    exact ⟨rfl, B15.out⟩

set_option maxRecDepth 100000 in
theorem lifted (os : Os) (started : os.Started) (H : Type) (enc : TypeId × Value → H) :
    ReturnsInHanded {} Try.checked os 7 .any (Rows.pragueShareSpec.pre6 enc Try.prog Try.f7 Rows.pragueShareRow.domain false) (Rows.pragueShareSpec.post enc Try.prog Try.f7 false true false false) := by
  refine returnsInHanded_of_change (C := Try.checked) own started (by kernel_rfl) Try.func7
    (ChangeSpec.witness6 (enc := enc) (C := Try.checked) false ⟨#[], #[.agg #[.int .u64 0, .int .u64 0, .int .u64 0, .int .u64 0, .int .u64 0, .int .u64 0, .int .u64 0, .int .u64 0, .bool false], .int .u32 0, .int .u32 0], []⟩ 8 (by kernel_rfl) (by kernel_rfl) (by kernel_rfl) (by kernel_rfl)) ?_
  intro W base args ds gs before hval0 hW hcnd _
  have hval : ∀ (j : Nat) t v, Try.f7.params[j]? = some t → args[j]? = some v → Value.okWide Try.prog W .any base t v := hval0
  have hW' := hW
  obtain ⟨p, q, hA0, hV, rfl, hfz, hnd⟩ := hW
  have hA : DataW.TrodAll enc Try.prog W 0 (fun _ => true) true Try.f7.params.toList args.toList ds p := hA0
  obtain ⟨rfl, rfl⟩ := trodVars_none hV
  simp only [List.append_nil] at hW'
  have hlow : ∀ x ∈ p, x.block < W.heap.size := fun x hx => hW'.lt x hx
  have hA2 := hA
  rw [Try.params7] at hval hA2
  obtain ⟨v0, vs0, d0, ds0, p0, q0, hargs, rfl, rfl, h0, r0⟩ := trodAll_cons hA2
  obtain ⟨v1, vs1, d1, ds1, p1, q1, rfl, rfl, rfl, h1, r1⟩ := trodAll_cons r0
  obtain ⟨v2, vs2, d2, ds2, p2, q2, rfl, rfl, rfl, h2, r2⟩ := trodAll_cons r1
  obtain ⟨rfl, rfl, rfl⟩ := trodAll_nil r2
  obtain rfl : args = #[v0, v1, v2] := by cases args; simp_all
  obtain ⟨x0_0, x0_1, x0_2, x0_3, x0_4, x0_5, x0_6, x0_7, x0_8, rfl, b0_0, b0_1, b0_2, b0_3, b0_4, b0_5, b0_6, b0_7⟩ := open_prague (hval 0 26 v0 rfl rfl) h0 (fun x hx => hlow x (by simp [hx]))
  obtain ⟨n1, rfl, hn1⟩ := open_u32 Try.underlying44 (hval 1 44 v1 rfl rfl) h1
  obtain ⟨n2, rfl, hn2⟩ := open_u32 Try.underlying44 (hval 2 44 v2 rfl rfl) h2
  refine (walk x0_0 x0_1 x0_2 x0_3 x0_4 x0_5 x0_6 x0_7 x0_8 n1 n2 b0_0 b0_1 b0_2 b0_3 b0_4 b0_5 b0_6 b0_7 hn1 hn2 W).mono fun e W' ⟨he, hg⟩ => ?_
  subst he
  exact ⟨_, rfl, law_true laid_out (by kernel_rfl) rfl Try.underlying4 (by kernel_rfl) hW' hA rfl rfl rfl hg⟩

theorem over : Rows.pragueShareRow.holds Try.pinned (OpenSpec.ofChange Rows.pragueShareSpec) :=
  OpenClaim.holds_of_wide 7 Try.f7 rfl rfl rfl rfl rfl rfl rfl ⟨rfl, rfl, rfl, rfl, rfl⟩ rfl rfl rfl rfl rfl (by kernel_rfl) Try.func7 (by kernel_rfl)
    (of_decide_eq_true (by kernel_rfl)) (by unfold Func.isWrapper; first | (rw [if_pos (by decide +kernel)]; kernel_rfl) | (rw [if_neg (by decide +kernel)]; exact ⟨rfl, rfl⟩))
    (fun os started H enc _ => lifted os started H enc)

/-- The statement. -/
theorem proved : Rows.PragueShareSaid := over
end Go.Proofs.Ytpdmepblmjjeeaa.pragueShare
