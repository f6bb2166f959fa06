/-
  What the head of layer 11's statements returns: true. No condition.
-/
import Derived.Test.YtaiephdacioedaaHyC
import Derived.Test.YtaiephdacioedaaHyD
import Derived.Deep.CutBlock
import Derived.Deep.DeepCutAuto
namespace Wig
/-- The head's slow start behind so many samples. -/
def hrun : Nat → Sw
  | 0 => hnew 10
  | k + 1 => hsample (hrun k) (if 8 ≤ k then 10 else k) 20 (if 8 ≤ k then 113 else 100)
theorem hrun_ok : ∀ k, (hrun k).Ok
  | 0 => hnew_ok (by decide)
  | k + 1 => hsample_ok (hrun_ok k) (by decide)
theorem hrun_end : hrun 16 = ⟨1, 20, 100, 113, 8, 113, 0⟩ := by decide +kernel
end Wig
namespace Go.Proofs.Ytaiephdacioedaa
open Go.ChangeShapes Go.WideShapes Go.ChangeAt Go.RowKit
set_option linter.unusedVariables false

/-- At a round's head: what lies in the box. -/
def AwRel (p : Nat) (w : World) (i : Value) (wr : World) : Prop :=
  ∃ (k : Nat) (a : Int) (b c d f y r : Nat), k ≤ 16 ∧ i = .int .i64 (k : Int) ∧ Wig.hrun k = ⟨a, b, c, d, f, y, r⟩ ∧ BxSl p a b c d f y r wr ∧ p < wr.heap.size ∧ Below w.heap.size w wr

set_option maxHeartbeats 4000000 in
theorem awake_any (w : World) : Calls Try.prog 9 #[] w fun e w' => e = .returned (.bool true) ∧ Below w.heap.size w w' := by
  have C0 := Lib.hid (show ∀ w, Calls Try.prog 14 #[.int .u64 10] w fun e w' =>
      e = .returned (.agg #[.int .i64 0, .int .u64 10, .int .u64 18446744073709551615, .int .u64 18446744073709551615, .int .u64 0, .int .u64 18446744073709551615, .int .u64 0]) ∧ Below w.heap.size w w' from
    fun w => new_any 10 w)
  have C1 := Lib.hid (show ∀ w, Calls Try.prog 12 #[.agg #[.int .i64 0, .int .u64 10, .int .u64 18446744073709551615, .int .u64 18446744073709551615, .int .u64 0, .int .u64 18446744073709551615, .int .u64 0], .int .u64 1200] w fun e w' =>
      e = .returned (.int .u64 1200) ∧ Below w.heap.size w w' from
    fun w => grow_any 0 10 18446744073709551615 18446744073709551615 0 18446744073709551615 0 1200 1200 w (by decide) (by decide))
  have C3 := Lib.hid (show ∀ w, Calls Try.prog 12 #[.agg #[.int .i64 1, .int .u64 20, .int .u64 100, .int .u64 113, .int .u64 8, .int .u64 113, .int .u64 0], .int .u64 1200] w fun e w' =>
      e = .returned (.int .u64 300) ∧ Below w.heap.size w w' from
    fun w => grow_any 1 20 100 113 8 113 0 1200 300 w (by decide) (by decide))
  have C4 := Lib.hid (show ∀ w, Calls Try.prog 16 #[.agg #[.int .i64 1, .int .u64 20, .int .u64 100, .int .u64 113, .int .u64 8, .int .u64 113, .int .u64 0]] w fun e w' =>
      e = .returned (.agg #[.int .i64 2, .int .u64 20, .int .u64 100, .int .u64 113, .int .u64 8, .int .u64 113, .int .u64 0]) ∧ Below w.heap.size w w' from
    fun w => finish_any 1 20 100 113 8 113 0 w)
  have C5 := Lib.hid (show ∀ w, Calls Try.prog 12 #[.agg #[.int .i64 2, .int .u64 20, .int .u64 100, .int .u64 113, .int .u64 8, .int .u64 113, .int .u64 0], .int .u64 1200] w fun e w' =>
      e = .returned (.int .u64 0) ∧ Below w.heap.size w w' from
    fun w => grow_any 2 20 100 113 8 113 0 1200 0 w (by decide) (by decide))
  have B0 := Lib.hid (Below.refl w.heap.size w)
  go_enter Try.func9, Try.ntmps9
  go_wp2_with fail
  refine (C0.out _).mono ?_
  rintro e w1 ⟨rfl, hb⟩
  have B1 := Lib.hid (below_trans' B0.out hb)
  clear hb B0
  go_upto_region 2 with fail
  obtain ⟨w2, hw⟩ : ∃ wx, wx = w1.alloc (.cells #[.int .i64 0, .int .u64 10, .int .u64 18446744073709551615, .int .u64 18446744073709551615, .int .u64 0, .int .u64 18446744073709551615, .int .u64 0] 25) := ⟨_, rfl⟩
  rw [← hw]
  obtain ⟨pS, hp⟩ : ∃ px, px = w1.heap.size := ⟨_, rfl⟩
  rw [← hp]
  have hb : Below w1.heap.size w1 w2 := by rw [hw]; exact (Below.refl _ _).alloc (Nat.le_refl _) _
  have hx : BxSl pS 0 10 18446744073709551615 18446744073709551615 0 18446744073709551615 0 w2 := by rw [hp, hw]; exact BxSl.new _ 0 10 18446744073709551615 18446744073709551615 0 18446744073709551615 0
  have hs : pS < w2.heap.size := by rw [hp, hw]; simp
  have GS := Lib.hid (show w.heap.size ≤ pS by rw [hp]; exact B1.out.size)
  have B2 := Lib.hid (below_trans' B1.out hb)
  clear hb B1
  have XS2 := Lib.hid hx
  have SS2 := Lib.hid hs
  clear hx hs hw hp
  obtain ⟨s0, s1, s2, s3, s4, s5, s6, -, -, -, -, -, -, -⟩ := XS2.out
  go_wp2_with fail
  refine (C1.out _).mono ?_
  rintro e w3 ⟨rfl, hb⟩
  have B3 := Lib.hid (below_trans' B2.out hb)
  have XS3 := Lib.hid (XS2.out.below hb SS2.out)
  have SS3 := Lib.hid (Nat.lt_of_lt_of_le SS2.out hb.size)
  clear s0 s1 s2 s3 s4 s5 s6
  clear hb B2 XS2 SS2
  have ST := Lib.hid (show AwRel pS w (.int .i64 0) w3 from ⟨0, 0, 10, 18446744073709551615, 18446744073709551615, 0, 18446744073709551615, 0, Nat.zero_le _, rfl, rfl, XS3.out, SS3.out, B3.out⟩)
  go_wp2_with fail
  go_loopw [3] (fun i wr => AwRel pS w i wr) (fun i _ => 16 - (intOf i).toNat)
  case atStart => exact ST.out
  case round =>
    obtain ⟨k, a, b, c, d, f, y, r, hk, rfl, hrun, hbx, hlt, hbel⟩ := hrel
    have XS20 := Lib.hid hbx
    have SS20 := Lib.hid hlt
    have B20 := Lib.hid hbel
    clear XS3 SS3 B3 ST hbx hlt hbel
    by_cases hkn : k < 16
    · by_cases hk8 : 8 ≤ k
      · have t1 : decide ((k : Int) < 16) = true := decide_eq_true (by omega)
        have t2 : decide ((8 : Int) ≤ (k : Int)) = true := decide_eq_true (by omega)
        obtain ⟨⟨a', b', c', d', f', y', r'⟩, hq⟩ : ∃ q, Wig.hrun (k + 1) = q := ⟨_, rfl⟩
        have hsam : Wig.hsample ⟨a, b, c, d, f, y, r⟩ 10 20 113 = ⟨a', b', c', d', f', y', r'⟩ := by rw [← hq, ← hrun]; show _ = Wig.hsample (Wig.hrun k) (if 8 ≤ k then 10 else k) 20 (if 8 ≤ k then 113 else 100); rw [if_pos hk8, if_pos hk8]
        have ok : Wig.Sw.Ok ⟨a, b, c, d, f, y, r⟩ := by rw [← hrun]; exact Wig.hrun_ok k
        have C2 := Lib.hid (show ∀ w, Calls Try.prog 10 #[.agg #[.int .i64 a, .int .u64 (b : Int), .int .u64 (c : Int), .int .u64 (d : Int), .int .u64 (f : Int), .int .u64 (y : Int), .int .u64 (r : Int)], .int .u64 10, .int .u64 20, .int .u64 113] w fun e w' =>
            e = .returned (.agg #[.int .i64 (a'), .int .u64 (b' : Int), .int .u64 (c' : Int), .int .u64 (d' : Int), .int .u64 (f' : Int), .int .u64 (y' : Int), .int .u64 (r' : Int)]) ∧ Below w.heap.size w w' from
          fun w => sample_any a b c d f y r 10 20 113 a' b' c' d' f' y' r' w ok (by omega) (by decide) (by decide) hsam)
        obtain ⟨k1, hk1⟩ : ∃ k1, k1 = k + 1 := ⟨_, rfl⟩
        have q1 : IntKind.u64.wrap (k : Int) = (k : Int) := by rw [IntKind.wrap_u64]; omega
        have q3 : IntKind.i64.wrap ((k : Int) + 1) = (k1 : Int) := by rw [IntKind.wrap_i64] <;> omega
        have HR := Lib.hid (show k1 ≤ 16 ∧ Wig.hrun k1 = ⟨a', b', c', d', f', y', r'⟩ ∧ 16 - k1 < 16 - k from ⟨by omega, by rw [hk1]; exact hq, by omega⟩)
        clear hk hkn hk8 hrun hq hsam ok hk1
        obtain ⟨s0, s1, s2, s3, s4, s5, s6, -, -, -, -, -, -, -⟩ := XS20.out
        go_wp2_with fail
        refine (C2.out _).mono ?_
        rintro e w21 ⟨rfl, hb⟩
        have B21 := Lib.hid (below_trans' B20.out hb)
        have XS21 := Lib.hid (XS20.out.below hb SS20.out)
        have SS21 := Lib.hid (Nat.lt_of_lt_of_le SS20.out hb.size)
        clear s0 s1 s2 s3 s4 s5 s6
        clear hb B20 XS20 SS20
        obtain ⟨s0, s1, s2, s3, s4, s5, s6, sf0, sf1, sf2, sf3, sf4, sf5, sf6⟩ := XS21.out
        have RZ := Lib.hid (show AwRel pS w (.int .i64 (k1 : Int)) (putSl pS a' b' c' d' f' y' r' w21) from ⟨k1, a', b', c', d', f', y', r', HR.out.1, rfl, HR.out.2.1, XS21.out.put, Nat.lt_of_lt_of_le SS21.out (putSl_below (B := 0) (Nat.zero_le _)).size, B21.out.trans (putSl_below GS.out)⟩)
        go_wp2_with fail
        go_roundw
        case rel => exact RZ.out
        case measure => have := HR.out; simp [intOf]; omega
      · have t1 : decide ((k : Int) < 16) = true := decide_eq_true (by omega)
        have t2 : decide ((8 : Int) ≤ (k : Int)) = false := decide_eq_false (by omega)
        obtain ⟨⟨a', b', c', d', f', y', r'⟩, hq⟩ : ∃ q, Wig.hrun (k + 1) = q := ⟨_, rfl⟩
        have hsam : Wig.hsample ⟨a, b, c, d, f, y, r⟩ k 20 100 = ⟨a', b', c', d', f', y', r'⟩ := by rw [← hq, ← hrun]; show _ = Wig.hsample (Wig.hrun k) (if 8 ≤ k then 10 else k) 20 (if 8 ≤ k then 113 else 100); rw [if_neg hk8, if_neg hk8]
        have ok : Wig.Sw.Ok ⟨a, b, c, d, f, y, r⟩ := by rw [← hrun]; exact Wig.hrun_ok k
        have C2 := Lib.hid (show ∀ w, Calls Try.prog 10 #[.agg #[.int .i64 a, .int .u64 (b : Int), .int .u64 (c : Int), .int .u64 (d : Int), .int .u64 (f : Int), .int .u64 (y : Int), .int .u64 (r : Int)], .int .u64 (k : Int), .int .u64 20, .int .u64 100] w fun e w' =>
            e = .returned (.agg #[.int .i64 (a'), .int .u64 (b' : Int), .int .u64 (c' : Int), .int .u64 (d' : Int), .int .u64 (f' : Int), .int .u64 (y' : Int), .int .u64 (r' : Int)]) ∧ Below w.heap.size w w' from
          fun w => sample_any a b c d f y r k 20 100 a' b' c' d' f' y' r' w ok (by omega) (by decide) (by decide) hsam)
        obtain ⟨k1, hk1⟩ : ∃ k1, k1 = k + 1 := ⟨_, rfl⟩
        have q1 : IntKind.u64.wrap (k : Int) = (k : Int) := by rw [IntKind.wrap_u64]; omega
        have q3 : IntKind.i64.wrap ((k : Int) + 1) = (k1 : Int) := by rw [IntKind.wrap_i64] <;> omega
        have HR := Lib.hid (show k1 ≤ 16 ∧ Wig.hrun k1 = ⟨a', b', c', d', f', y', r'⟩ ∧ 16 - k1 < 16 - k from ⟨by omega, by rw [hk1]; exact hq, by omega⟩)
        clear hk hkn hk8 hrun hq hsam ok hk1
        obtain ⟨s0, s1, s2, s3, s4, s5, s6, -, -, -, -, -, -, -⟩ := XS20.out
        go_wp2_with fail
        refine (C2.out _).mono ?_
        rintro e w21 ⟨rfl, hb⟩
        have B21 := Lib.hid (below_trans' B20.out hb)
        have XS21 := Lib.hid (XS20.out.below hb SS20.out)
        have SS21 := Lib.hid (Nat.lt_of_lt_of_le SS20.out hb.size)
        clear s0 s1 s2 s3 s4 s5 s6
        clear hb B20 XS20 SS20
        obtain ⟨s0, s1, s2, s3, s4, s5, s6, sf0, sf1, sf2, sf3, sf4, sf5, sf6⟩ := XS21.out
        have RZ := Lib.hid (show AwRel pS w (.int .i64 (k1 : Int)) (putSl pS a' b' c' d' f' y' r' w21) from ⟨k1, a', b', c', d', f', y', r', HR.out.1, rfl, HR.out.2.1, XS21.out.put, Nat.lt_of_lt_of_le SS21.out (putSl_below (B := 0) (Nat.zero_le _)).size, B21.out.trans (putSl_below GS.out)⟩)
        go_wp2_with fail
        go_roundw
        case rel => exact RZ.out
        case measure => have := HR.out; simp [intOf]; omega
    · obtain rfl : k = 16 := by omega
      rw [Wig.hrun_end] at hrun
      injection hrun with r1 r2 r3 r4 r5 r6 r7
      subst r1 r2 r3 r4 r5 r6 r7
      have t1 : decide (((16 : Nat) : Int) < 16) = false := by decide
      clear hk hkn
      obtain ⟨s0, s1, s2, s3, s4, s5, s6, -, -, -, -, -, -, -⟩ := XS20.out
      go_wp2_with fail
      refine (C3.out _).mono ?_
      rintro e w21 ⟨rfl, hb⟩
      have B21 := Lib.hid (below_trans' B20.out hb)
      have XS21 := Lib.hid (XS20.out.below hb SS20.out)
      have SS21 := Lib.hid (Nat.lt_of_lt_of_le SS20.out hb.size)
      clear s0 s1 s2 s3 s4 s5 s6
      clear hb B20 XS20 SS20
      obtain ⟨s0, s1, s2, s3, s4, s5, s6, -, -, -, -, -, -, -⟩ := XS21.out
      go_wp2_with fail
      refine (C4.out _).mono ?_
      rintro e w22 ⟨rfl, hb⟩
      have B22 := Lib.hid (below_trans' B21.out hb)
      have XS22 := Lib.hid (XS21.out.below hb SS21.out)
      have SS22 := Lib.hid (Nat.lt_of_lt_of_le SS21.out hb.size)
      clear s0 s1 s2 s3 s4 s5 s6
      clear hb B21 XS21 SS21
      go_wp2_with fail
      refine (C5.out _).mono ?_
      rintro e w23 ⟨rfl, hb⟩
      have B23 := Lib.hid (below_trans' B22.out hb)
      have XS23 := Lib.hid (XS22.out.below hb SS22.out)
      have SS23 := Lib.hid (Nat.lt_of_lt_of_le SS22.out hb.size)
      clear hb B22 XS22 SS22
      go_wp2_with fail
      go_ret
      exact ⟨rfl, B23.out⟩
end Go.Proofs.Ytaiephdacioedaa
