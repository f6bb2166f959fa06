/-
  ProbeDrains: a model whose rate does not grow for three rounds is drained, and cycles as soon as no more than the path holds is under way. Condition: the table of the phases' parts holds what the door laid.
-/
import Derived.Test.YtjojnbeflongkaaDoorPbW
import Derived.Test.YtjojnbeflongkaaDoorOpen
import Derived.Test.YtjojnbeflongkaaDoorLaidP
import Derived.Test.YtjojnbeflongkaaDoorOpF
import Derived.Deep.CutBlock
import Derived.Deep.DeepCutAuto
namespace Go.Proofs.YtjojnbeflongkaaDoor.probeDrains
open Go.ChangeShapes Go.WideShapes Go.ChangeAt Go.RowKit Go.Deep
set_option linter.unusedVariables false

/-- The model behind k rounds. -/
def drst (rate took k : Nat) : Wig.Pb := if k = 0 then Wig.pbnew 0 else Wig.pbdr rate took k
theorem drst_ok {rate took k : Nat} (hr : rate < 4294967296) (ht : took < 65536) (hk : k ≤ 4) : (drst rate took k).Ok := by
  unfold drst
  split
  · exact Wig.pbnew_ok (by decide)
  · unfold Wig.pbdr
    refine ⟨?_, ?_, fits_one (by omega) (by omega), ?_, ?_, ?_, ?_, ?_, ?_, ?_, ?_⟩
    · show -9223372036854775808 ≤ (if k = 4 then (1 : Int) else 0); split <;> omega
    · show (if k = 4 then (1 : Int) else 0) ≤ 9223372036854775807; split <;> omega
    · show took < _; omega
    · show 0 < _; omega
    · show rate < _; omega
    · show k - 1 < _; omega
    · show k < _; omega
    · show 0 < _; omega
    · show 0 < _; omega
    · show 16777216 < _; omega
theorem drst_step {rate took k : Nat} (hr0 : 1000 ≤ rate) (hr : rate < 4294967296) (ht : took < 65536) (hk : k ≤ 3) : Wig.pback (drst rate took k) ⟨k, 0, 0, 0, 0, took, 1099511627776, rate, false, true⟩ = drst rate took (k + 1) := by
  unfold drst
  rw [if_neg (by omega : ¬ k + 1 = 0)]
  by_cases h : k = 0
  · subst h
    rw [if_pos rfl]
    exact Wig.pdrain_first hr0 ht
  · rw [if_neg h]
    exact Wig.pdrain_next hr0 hr (by omega) hk
theorem drst_start {rate took k : Nat} (hk : k ≤ 3) : (drst rate took k).state = 0 := by
  unfold drst
  split
  · rfl
  · show (if k = 4 then (1 : Int) else 0) = 0
    rw [if_neg (by omega)]
theorem drst_len {rate took k : Nat} : (drst rate took k).rates.length ≤ 1 := by
  unfold drst
  split
  · exact Nat.zero_le _
  · exact Nat.le_refl _
def DrRel (rate took p : Nat) (w : World) (i : Value) (wr : World) : Prop :=
  ∃ (k : Nat) (s : Int) (A : Option Addr) (n c lo la fu sl ro ph si hi : Nat) (ss : List Wig.Smp), k ≤ 4 ∧ i = .int .i64 (k : Int) ∧ ⟨s, ss, lo, la, fu, sl, ro, ph, si, hi⟩ = drst rate took k ∧ BxPb p s A n c lo la fu sl ro ph si hi wr ∧ Rt wr (p + 1) wr.heap.size A n ss ∧ p < wr.heap.size ∧ w.heap.size ≤ p ∧ Below w.heap.size w wr

set_option maxRecDepth 20000 in
set_option maxHeartbeats 8000000 in
theorem walk (rt tk : Nat) (hrt : rt < 4294967296) (htk : tk < 65536) (w : World) (hT : Tab w) :
    Calls Tryd.prog 8 #[.int .u32 (rt : Int), .int .u16 (tk : Int)] w fun e w' => e = .returned (.bool true) ∧ Below w.heap.size w w' := by
  have C0 := Lib.hid (fun (w0 : World) (hb0 : Below w.heap.size w w0) => awake_any w0 (hT.below hb0))
  by_cases h1 : rt < 1000
  · have t1 : decide ((rt : Int) < 1000) = true := decide_eq_true (by omega)
    clear hrt htk hT h1
    have B0 := Lib.hid (Below.refl w.heap.size w)
    go_enter Tryd.func8, Tryd.ntmps8
    go_wp2_with fail
    refine (C0.out _ B0.out).mono ?_
    rintro e w1 ⟨rfl, hb⟩
    have B1 := Lib.hid (below_trans' B0.out hb)
    clear hb B0
    go_wp2_with fail
    go_ret
    exact ⟨rfl, B1.out⟩
  · by_cases h2 : tk < 10
    · have t1 : decide ((rt : Int) < 1000) = false := decide_eq_false (by omega)
      have t2 : decide ((tk : Int) < 10) = true := decide_eq_true (by omega)
      clear hrt htk hT h1 h2
      have B0 := Lib.hid (Below.refl w.heap.size w)
      go_enter Tryd.func8, Tryd.ntmps8
      go_wp2_with fail
      refine (C0.out _ B0.out).mono ?_
      rintro e w1 ⟨rfl, hb⟩
      have B1 := Lib.hid (below_trans' B0.out hb)
      clear hb B0
      go_wp2_with fail
      go_ret
      exact ⟨rfl, B1.out⟩
    · have t1 : decide ((rt : Int) < 1000) = false := decide_eq_false (by omega)
      have t2 : decide ((tk : Int) < 10) = false := decide_eq_false (by omega)
      have CN := Lib.hid (fun w0 => (show Calls Tryd.prog 15 #[.int .u64 0] w0 fun e w' => e = .returned (.agg #[.int .i64 0, .slice none 0 0, .int .u64 18446744073709551615, .int .u64 0, .int .u64 0, .int .u64 0, .int .u64 0, .int .u64 0, .int .u64 0, .int .u64 16777216]) ∧ Below w0.heap.size w0 w' from new_any 0 w0))
      have v1 : IntKind.u64.wrap (rt : Int) = (rt : Int) := by rw [IntKind.wrap_u64]; omega
      have v2 : IntKind.u64.wrap (tk : Int) = (tk : Int) := by rw [IntKind.wrap_u64]; omega
      have HB0 := Lib.hid (And.intro (show 1000 ≤ rt by omega) (And.intro hrt htk))
      clear hT h1 h2 hrt htk
      have B0 := Lib.hid (Below.refl w.heap.size w)
      go_enter Tryd.func8, Tryd.ntmps8
      go_wp2_with fail
      refine (C0.out _ B0.out).mono ?_
      rintro e w1 ⟨rfl, hb⟩
      have B1 := Lib.hid (below_trans' B0.out hb)
      clear hb B0
      go_wp2_with fail
      refine (CN.out _).mono ?_
      rintro e w2 ⟨rfl, hb⟩
      have B2 := Lib.hid (below_trans' B1.out hb)
      clear hb B1
      go_upto_region 5 with fail
      obtain ⟨w3, hw⟩ : ∃ wx, wx = w2.alloc (.cells #[.int .i64 0, .slice none 0 0, .int .u64 18446744073709551615, .int .u64 0, .int .u64 0, .int .u64 0, .int .u64 0, .int .u64 0, .int .u64 0, .int .u64 16777216] 26) := ⟨_, rfl⟩
      rw [← hw]
      obtain ⟨pP, hp⟩ : ∃ px, px = w2.heap.size := ⟨_, rfl⟩
      rw [← hp]
      have hb : Below w2.heap.size w2 w3 := by rw [hw]; exact (Below.refl _ _).alloc (Nat.le_refl _) _
      have hx : BxPb pP 0 none 0 0 18446744073709551615 0 0 0 0 0 0 16777216 w3 := by rw [hp, hw]; exact BxPb.new _ 0 none 0 0 18446744073709551615 0 0 0 0 0 0 16777216
      have hs : pP < w3.heap.size := by rw [hp, hw]; simp
      have GP := Lib.hid (show w.heap.size ≤ pP by rw [hp]; exact B2.out.size)
      have B3 := Lib.hid (below_trans' B2.out hb)
      clear hb B2
      have XP3 := Lib.hid hx
      have SP3 := Lib.hid hs
      clear hx hs hw hp
      have ST := Lib.hid (show DrRel rt tk pP w (.int .i64 0) w3 from ⟨0, 0, none, 0, 0, 18446744073709551615, 0, 0, 0, 0, 0, 0, 16777216, [], by omega, rfl, rfl, XP3.out, Rt.empty, SP3.out, GP.out, B3.out⟩)
      go_wp2_with fail
      go_loopw [7] (fun i wr => DrRel rt tk pP w i wr) (fun i _ => 4 - (intOf i).toNat)
      case atStart => exact ST.out
      case round =>
        obtain ⟨k, s, A, n, c, lo, la, fu, sl, ro, ph, si, hi, ss, hk, rfl, hst, hbx, hrt, hlt, hge, hbel⟩ := hrel
        have XP20 := Lib.hid hbx
        have SP20 := Lib.hid hlt
        have B20 := Lib.hid hbel
        have RT20 := Lib.hid hrt
        have LTP := Lib.hid (show pP < pP + 1 by omega)
        clear XP3 SP3 B3 ST hbx hlt hbel hrt hge
        by_cases hk4 : k ≤ 3
        · have t3 : decide ((k : Int) < 4) = true := decide_eq_true (by omega)
          have hs0 : s = 0 := by have e := congrArg Wig.Pb.state hst; rw [drst_start hk4] at e; exact e
          have t4 : (s != 0) = false := by simp [hs0]
          obtain ⟨k1, hk1⟩ : ∃ k1, k1 = k + 1 := ⟨_, rfl⟩
          have q3 : IntKind.i64.wrap ((k : Int) + 1) = (k1 : Int) := by rw [IntKind.wrap_i64] <;> omega
          have q4 : IntKind.u64.wrap (k : Int) = (k : Int) := by rw [IntKind.wrap_u64]; omega
          obtain ⟨⟨s', ss', lo', la', fu', sl', ro', ph', si', hi'⟩, hnx⟩ : ∃ q, drst rt tk k1 = q := ⟨_, rfl⟩
          obtain ⟨n', hn'⟩ : ∃ n', ss'.length = n' := ⟨_, rfl⟩
          have hack : Wig.pback ⟨s, ss, lo, la, fu, sl, ro, ph, si, hi⟩ ⟨k, 0, 0, 0, 0, tk, 1099511627776, rt, false, true⟩ = ⟨s', ss', lo', la', fu', sl', ro', ph', si', hi'⟩ := by rw [hst, ← hnx, hk1]; exact drst_step HB0.out.1 HB0.out.2.1 HB0.out.2.2 hk4
          have ok : Wig.Pb.Ok ⟨s, ss, lo, la, fu, sl, ro, ph, si, hi⟩ := by rw [hst]; exact drst_ok HB0.out.2.1 HB0.out.2.2 hk
          have hn400 : n < 400 := by have e := congrArg (fun p => p.rates.length) hst; have e2 := drst_len (rate := rt) (took := tk) (k := k); have e3 := RT20.out.len; simp only at e; omega
          have C1 := Lib.hid (fun (w0 : World) (hR : Rt w0 0 w0.heap.size A n ss) => (show Calls Tryd.prog 11 #[aggPb s A n c lo la fu sl ro ph si hi, .agg #[.int .u64 (k : Int), .int .u64 0, .int .u64 0, .int .u64 0, .int .u64 0, .int .u64 (tk : Int), .int .u64 1099511627776, .int .u64 (rt : Int), .bool false, .bool true]] w0 fun e w' => ∃ A' c', e = .returned (aggPb s' A' n' c' lo' la' fu' sl' ro' ph' si' hi') ∧ Rt w' w0.heap.size w'.heap.size A' n' ss' ∧ Below w0.heap.size w0 w' from ack_any s A n c lo la fu sl ro ph si hi ss k 0 0 0 0 tk 1099511627776 rt false true s' ss' lo' la' fu' sl' ro' ph' si' hi' n' w0 ok hR (got_ok (by omega) (by decide) (by decide) (by decide) (by decide) (by have := HB0.out.2.2; omega) (by decide) (by have := HB0.out.2.1; omega)) hn400 hack hn'))
          have HR := Lib.hid (show k1 ≤ 4 ∧ 4 - k1 < 4 - k ∧ (⟨s', ss', lo', la', fu', sl', ro', ph', si', hi'⟩ : Wig.Pb) = drst rt tk k1 from ⟨by omega, by omega, hnx.symm⟩)
          clear hk hk4 hst hs0 hk1 hnx hn' hack ok hn400
          have k0 := XP20.out.c0
          go_upto_region 10 with fail
          clear k0
          obtain ⟨k0, k1, k2, k3, k4, k5, k6, k7, k8, k9, -, -, -, -, -, -, -, -, -, -⟩ := XP20.out
          go_wp2_with fail
          refine (C1.out _ RT20.out.low).mono ?_
          rintro e w21 ⟨A', c', rfl, hr, hb⟩
          clear RT20 LTP
          have LUP := Lib.hid (show pP < wr.heap.size from SP20.out)
          have QU := Lib.hid (show w.heap.size ≤ wr.heap.size from B20.out.size)
          have B21 := Lib.hid (below_trans' B20.out hb)
          have XP21 := Lib.hid (XP20.out.below hb SP20.out)
          have SP21 := Lib.hid (Nat.lt_of_lt_of_le SP20.out hb.size)
          clear k0 k1 k2 k3 k4 k5 k6 k7 k8 k9
          clear hb B20 XP20 SP20
          have RU21 := Lib.hid hr
          clear hr
          obtain ⟨k0, k1, k2, k3, k4, k5, k6, k7, k8, k9, kf0, kf1, kf2, kf3, kf4, kf5, kf6, kf7, kf8, kf9⟩ := XP21.out
          go_upto_region 7 with fail
          obtain ⟨w22, hw⟩ : ∃ wx, wx = putPb pP s' A' n' c' lo' la' fu' sl' ro' ph' si' hi' w21 := ⟨_, rfl⟩
          have XP22 := Lib.hid (show BxPb pP s' A' n' c' lo' la' fu' sl' ro' ph' si' hi' w22 by rw [hw]; exact XP21.out.put)
          have B22 := Lib.hid (show Below w.heap.size w w22 by rw [hw]; exact B21.out.trans (putPb_below GP.out))
          have hz : w21.heap.size ≤ w22.heap.size := by rw [hw]; exact (putPb_below (B := 0) (Nat.zero_le _)).size
          have SP22 := Lib.hid (Nat.lt_of_lt_of_le SP21.out hz)
          rw [show (((((((((w21.setCell ⟨pP, 0, none⟩ (.int .i64 (s'))).setCell ⟨pP, 1, none⟩ (.slice A' n' c')).setCell ⟨pP, 2, none⟩ (.int .u64 (lo' : Int))).setCell ⟨pP, 3, none⟩ (.int .u64 (la' : Int))).setCell ⟨pP, 4, none⟩ (.int .u64 (fu' : Int))).setCell ⟨pP, 5, none⟩ (.int .u64 (sl' : Int))).setCell ⟨pP, 6, none⟩ (.int .u64 (ro' : Int))).setCell ⟨pP, 7, none⟩ (.int .u64 (ph' : Int))).setCell ⟨pP, 8, none⟩ (.int .u64 (si' : Int))).setCell ⟨pP, 9, none⟩ (.int .u64 (hi' : Int)) = w22 from hw.symm]
          have RU22 := Lib.hid (show Rt w22 wr.heap.size w22.heap.size A' n' ss' by rw [hw]; exact RU21.out.put LUP.out _ _ _ _ _ _ _ _ _ _ _ _ )
          clear k0 k1 k2 k3 k4 k5 k6 k7 k8 k9 kf0 kf1 kf2 kf3 kf4 kf5 kf6 kf7 kf8 kf9
          clear hw hz B21 XP21 SP21 RU21
          have RZ := Lib.hid (show DrRel rt tk pP w (.int .i64 (k1 : Int)) w22 from ⟨k1, s', A', n', c', lo', la', fu', sl', ro', ph', si', hi', ss', HR.out.1, rfl, HR.out.2.2, XP22.out, RU22.out.wide (LUP.out) (Nat.le_refl _), SP22.out, GP.out, B22.out⟩)
          go_wp2_with fail
          go_roundw
          case rel => exact RZ.out
          case measure => have := HR.out; simp [intOf]; omega
        · obtain rfl : k = 4 := by omega
          have t3 : decide (((4 : Nat) : Int) < 4) = false := by decide
          have hst2 : (⟨1, [(4, rt)], tk, 0, rt, 3, 4, 0, 0, 16777216⟩ : Wig.Pb) = ⟨s, ss, lo, la, fu, sl, ro, ph, si, hi⟩ := hst.symm
          injection hst2 with r1 r2 r3 r4 r5 r6 r7 r8 r9 r10
          subst r1 r2 r3 r4 r5 r6 r7 r8 r9 r10
          have hb1 := HB0.out.2.1
          have hb2 := HB0.out.2.2
          have ok : Wig.Pb.Ok ⟨1, [(4, rt)], tk, 0, rt, 3, 4, 0, 0, 16777216⟩ := drst_ok (k := 4) hb1 hb2 (by omega)
          obtain ⟨h, hh⟩ : ∃ h, rt * tk / 1000 = h := ⟨_, rfl⟩
          have hpm : rt * tk ≤ 4294967295 * 65535 := Nat.mul_le_mul (by omega) (by omega)
          have hh1 : h < 4294967295 * 65535 := by rw [← hh]; omega
          have hprod : Wig.pbprod ⟨1, [(4, rt)], tk, 0, rt, 3, 4, 0, 0, 16777216⟩ 256 = h := by rw [← hh]; exact Wig.pdrain_prod (k := 4) hb1 hb2
          obtain ⟨m, hm⟩ : ∃ m, m = rt * tk := ⟨_, rfl⟩
          have e1 : IntKind.u64.wrap ((rt : Int) * (tk : Int)) = (m : Int) := by rw [mul_nat (by omega), hm]
          have e2 : (m : Int) / 1000 = (h : Int) := by rw [← hm] at hh; omega
          have e3 : IntKind.u64.wrap (h : Int) = (h : Int) := by rw [IntKind.wrap_u64]; omega
          obtain ⟨h1, hh2⟩ : ∃ h1, h1 = h + 1 := ⟨_, rfl⟩
          have e4 : IntKind.u64.wrap ((h : Int) + 1) = (h1 : Int) := by rw [IntKind.wrap_u64]; omega
          have hlen : n = 1 := RT20.out.len.symm
          have C1 := Lib.hid (fun (w0 : World) (hR : Rt w0 0 w0.heap.size A n [(4, rt)]) => (show Calls Tryd.prog 17 #[.agg #[.int .i64 1, .slice A n c, .int .u64 (tk : Int), .int .u64 0, .int .u64 (rt : Int), .int .u64 3, .int .u64 4, .int .u64 0, .int .u64 0, .int .u64 16777216], .int .u64 256] w0 fun e w' => e = .returned (.int .u64 (h : Int)) ∧ Below w0.heap.size w0 w' from product_any 1 A n c tk 0 rt 3 4 0 0 16777216 [(4, rt)] 256 h w0 ok hR (by decide) hprod))
          obtain ⟨⟨c2s, c2ss, c2lo, c2la, c2fu, c2sl, c2ro, c2ph, c2si, c2hi⟩, hc2⟩ : ∃ q, Wig.pback ⟨1, [(4, rt)], tk, 0, rt, 3, 4, 0, 0, 16777216⟩ ⟨5, 0, 0, 0, 0, tk, h, rt, false, false⟩ = q := ⟨_, rfl⟩
          have hsc2 : c2s = 2 := by have e := Wig.pdrain_last (rate := rt) (took := tk) (flight := h) hb1 hb2; have e2 := congrArg Wig.Pb.state hc2; exact (e2.symm.trans e).trans (if_pos (by omega))
          subst hsc2
          obtain ⟨c2n, hc2n⟩ : ∃ q, c2ss.length = q := ⟨_, rfl⟩
          have C2 := Lib.hid (fun (w0 : World) (hR : Rt w0 0 w0.heap.size A n [(4, rt)]) => (show Calls Tryd.prog 11 #[.agg #[.int .i64 1, .slice A n c, .int .u64 (tk : Int), .int .u64 0, .int .u64 (rt : Int), .int .u64 3, .int .u64 4, .int .u64 0, .int .u64 0, .int .u64 16777216], .agg #[.int .u64 5, .int .u64 0, .int .u64 0, .int .u64 0, .int .u64 0, .int .u64 (tk : Int), .int .u64 (h : Int), .int .u64 (rt : Int), .bool false, .bool false]] w0 fun e w' => ∃ A' c', e = .returned (.agg #[.int .i64 2, .slice A' c2n c', .int .u64 (c2lo : Int), .int .u64 (c2la : Int), .int .u64 (c2fu : Int), .int .u64 (c2sl : Int), .int .u64 (c2ro : Int), .int .u64 (c2ph : Int), .int .u64 (c2si : Int), .int .u64 (c2hi : Int)]) ∧ Rt w' w0.heap.size w'.heap.size A' c2n c2ss ∧ Below w0.heap.size w0 w' from ack_any 1 A n c tk 0 rt 3 4 0 0 16777216 [(4, rt)] 5 0 0 0 0 tk h rt false false 2 c2ss c2lo c2la c2fu c2sl c2ro c2ph c2si c2hi c2n w0 ok hR (got_ok (by decide) (by decide) (by decide) (by decide) (by decide) (by omega) (by omega) (by omega)) (by omega) hc2 hc2n))
          obtain ⟨⟨c3s, c3ss, c3lo, c3la, c3fu, c3sl, c3ro, c3ph, c3si, c3hi⟩, hc3⟩ : ∃ q, Wig.pback ⟨1, [(4, rt)], tk, 0, rt, 3, 4, 0, 0, 16777216⟩ ⟨5, 0, 0, 0, 0, tk, h1, rt, false, false⟩ = q := ⟨_, rfl⟩
          have hsc3 : c3s = 1 := by have e := Wig.pdrain_last (rate := rt) (took := tk) (flight := h1) hb1 hb2; have e2 := congrArg Wig.Pb.state hc3; exact (e2.symm.trans e).trans (if_neg (by omega))
          subst hsc3
          obtain ⟨c3n, hc3n⟩ : ∃ q, c3ss.length = q := ⟨_, rfl⟩
          have C3 := Lib.hid (fun (w0 : World) (hR : Rt w0 0 w0.heap.size A n [(4, rt)]) => (show Calls Tryd.prog 11 #[.agg #[.int .i64 1, .slice A n c, .int .u64 (tk : Int), .int .u64 0, .int .u64 (rt : Int), .int .u64 3, .int .u64 4, .int .u64 0, .int .u64 0, .int .u64 16777216], .agg #[.int .u64 5, .int .u64 0, .int .u64 0, .int .u64 0, .int .u64 0, .int .u64 (tk : Int), .int .u64 (h1 : Int), .int .u64 (rt : Int), .bool false, .bool false]] w0 fun e w' => ∃ A' c', e = .returned (.agg #[.int .i64 1, .slice A' c3n c', .int .u64 (c3lo : Int), .int .u64 (c3la : Int), .int .u64 (c3fu : Int), .int .u64 (c3sl : Int), .int .u64 (c3ro : Int), .int .u64 (c3ph : Int), .int .u64 (c3si : Int), .int .u64 (c3hi : Int)]) ∧ Rt w' w0.heap.size w'.heap.size A' c3n c3ss ∧ Below w0.heap.size w0 w' from ack_any 1 A n c tk 0 rt 3 4 0 0 16777216 [(4, rt)] 5 0 0 0 0 tk h1 rt false false 1 c3ss c3lo c3la c3fu c3sl c3ro c3ph c3si c3hi c3n w0 ok hR (got_ok (by decide) (by decide) (by decide) (by decide) (by decide) (by omega) (by omega) (by omega)) (by omega) hc3 hc3n))
          clear hk hk4 hst hb1 hb2 ok hh hpm hh1 hprod hm hh2 hlen hc2 hc3 hc2n hc3n
          go_upto_region 11 with fail
          obtain ⟨k0, k1, k2, k3, k4, k5, k6, k7, k8, k9, -, -, -, -, -, -, -, -, -, -⟩ := XP20.out
          go_wp2_with fail
          refine (C1.out _ RT20.out.low).mono ?_
          rintro e w21 ⟨rfl, hb⟩
          have B21 := Lib.hid (below_trans' B20.out hb)
          have XP21 := Lib.hid (XP20.out.below hb SP20.out)
          have SP21 := Lib.hid (Nat.lt_of_lt_of_le SP20.out hb.size)
          have RT21 := Lib.hid (RT20.out.step hb)
          clear k0 k1 k2 k3 k4 k5 k6 k7 k8 k9
          clear hb B20 XP20 SP20 RT20
          obtain ⟨k0, k1, k2, k3, k4, k5, k6, k7, k8, k9, -, -, -, -, -, -, -, -, -, -⟩ := XP21.out
          go_wp2_with fail
          refine (C2.out _ RT21.out.low).mono ?_
          rintro e w22 ⟨A2, cc2, rfl, hr, hb⟩
          clear hr
          have B22 := Lib.hid (below_trans' B21.out hb)
          have XP22 := Lib.hid (XP21.out.below hb SP21.out)
          have SP22 := Lib.hid (Nat.lt_of_lt_of_le SP21.out hb.size)
          have RT22 := Lib.hid (RT21.out.step hb)
          clear k0 k1 k2 k3 k4 k5 k6 k7 k8 k9
          clear hb B21 XP21 SP21 RT21
          go_upto_region 13 with fail
          obtain ⟨w23, hw⟩ : ∃ wx, wx = w22.alloc (.cells #[.int .i64 2, .slice A2 c2n cc2, .int .u64 (c2lo : Int), .int .u64 (c2la : Int), .int .u64 (c2fu : Int), .int .u64 (c2sl : Int), .int .u64 (c2ro : Int), .int .u64 (c2ph : Int), .int .u64 (c2si : Int), .int .u64 (c2hi : Int)] 26) := ⟨_, rfl⟩
          rw [← hw]
          obtain ⟨pQ, hp⟩ : ∃ px, px = w22.heap.size := ⟨_, rfl⟩
          rw [← hp]
          have hb : Below w22.heap.size w22 w23 := by rw [hw]; exact (Below.refl _ _).alloc (Nat.le_refl _) _
          have hx : BxPb pQ 2 A2 c2n cc2 c2lo c2la c2fu c2sl c2ro c2ph c2si c2hi w23 := by rw [hp, hw]; exact BxPb.new _ 2 A2 c2n cc2 c2lo c2la c2fu c2sl c2ro c2ph c2si c2hi
          have hs : pQ < w23.heap.size := by rw [hp, hw]; simp
          have GQ := Lib.hid (show w.heap.size ≤ pQ by rw [hp]; exact B22.out.size)
          have OPQ := Lib.hid (show pP < pQ by rw [hp]; exact SP22.out)
          have B23 := Lib.hid (below_trans' B22.out hb)
          have XP23 := Lib.hid (XP22.out.below hb SP22.out)
          have SP23 := Lib.hid (Nat.lt_of_lt_of_le SP22.out hb.size)
          have RT23 := Lib.hid (RT22.out.step hb)
          clear hb B22 XP22 SP22 RT22
          have XQ23 := Lib.hid hx
          have SQ23 := Lib.hid hs
          clear hx hs hw hp
          obtain ⟨k0, k1, k2, k3, k4, k5, k6, k7, k8, k9, -, -, -, -, -, -, -, -, -, -⟩ := XP23.out
          go_wp2_with fail
          refine (C3.out _ RT23.out.low).mono ?_
          rintro e w24 ⟨A3, cc3, rfl, hr, hb⟩
          clear hr
          have B24 := Lib.hid (below_trans' B23.out hb)
          have XP24 := Lib.hid (XP23.out.below hb SP23.out)
          have SP24 := Lib.hid (Nat.lt_of_lt_of_le SP23.out hb.size)
          have XQ24 := Lib.hid (XQ23.out.below hb SQ23.out)
          have SQ24 := Lib.hid (Nat.lt_of_lt_of_le SQ23.out hb.size)
          have RT24 := Lib.hid (RT23.out.step hb)
          clear k0 k1 k2 k3 k4 k5 k6 k7 k8 k9
          clear hb B23 XP23 SP23 XQ23 SQ23 RT23
          go_upto_region 14 with fail
          obtain ⟨w25, hw⟩ : ∃ wx, wx = w24.alloc (.cells #[.int .i64 1, .slice A3 c3n cc3, .int .u64 (c3lo : Int), .int .u64 (c3la : Int), .int .u64 (c3fu : Int), .int .u64 (c3sl : Int), .int .u64 (c3ro : Int), .int .u64 (c3ph : Int), .int .u64 (c3si : Int), .int .u64 (c3hi : Int)] 26) := ⟨_, rfl⟩
          rw [← hw]
          obtain ⟨pV, hp⟩ : ∃ px, px = w24.heap.size := ⟨_, rfl⟩
          rw [← hp]
          have hb : Below w24.heap.size w24 w25 := by rw [hw]; exact (Below.refl _ _).alloc (Nat.le_refl _) _
          have hx : BxPb pV 1 A3 c3n cc3 c3lo c3la c3fu c3sl c3ro c3ph c3si c3hi w25 := by rw [hp, hw]; exact BxPb.new _ 1 A3 c3n cc3 c3lo c3la c3fu c3sl c3ro c3ph c3si c3hi
          have hs : pV < w25.heap.size := by rw [hp, hw]; simp
          have GV := Lib.hid (show w.heap.size ≤ pV by rw [hp]; exact B24.out.size)
          have OPV := Lib.hid (show pP < pV by rw [hp]; exact SP24.out)
          have OQV := Lib.hid (show pQ < pV by rw [hp]; exact SQ24.out)
          have B25 := Lib.hid (below_trans' B24.out hb)
          have XP25 := Lib.hid (XP24.out.below hb SP24.out)
          have SP25 := Lib.hid (Nat.lt_of_lt_of_le SP24.out hb.size)
          have XQ25 := Lib.hid (XQ24.out.below hb SQ24.out)
          have SQ25 := Lib.hid (Nat.lt_of_lt_of_le SQ24.out hb.size)
          have RT25 := Lib.hid (RT24.out.step hb)
          clear hb B24 XP24 SP24 XQ24 SQ24 RT24
          have XV25 := Lib.hid hx
          have SV25 := Lib.hid hs
          clear hx hs hw hp
          have k0 := XP25.out.c0
          have j0 := XQ25.out.c0
          have m0 := XV25.out.c0
          go_wp2_with fail
          go_ret
          exact ⟨rfl, B25.out⟩

set_option maxRecDepth 100000 in
theorem lifted (os : Os) (started : os.Started) (H : Type) (enc : TypeId × Value → H) :
    ReturnsInHanded {} Tryd.checked os 8 .any (fun w args => (Rows.probeDrainsSpec.pre enc Tryd.prog Tryd.f8 [] false w args ∧ laidMetH Tryd.prog laidList w) ∧ sizedMet enc Tryd.prog Tryd.f8 (OpenSpec.ofChange Rows.probeDrainsSpec) false w args)
      (Rows.probeDrainsSpec.post enc Tryd.prog Tryd.f8 false true false false) := by
  refine returnsInHanded_of_change_and (C := Tryd.checked) (X := fun w _ => laidMetH Tryd.prog laidList w) (fun _ _ _ hh h => h.of_heap hh) own started (by kernel_rfl) Tryd.func8
    (ChangeSpec.witness_shaped (enc := enc) (C := Tryd.checked) (os := os) (X := fun w _ => laidMetH Tryd.prog laidList w) false (World.doorLaid Tryd.prog 400 os) #[.int .u32 0, .int .u16 0] 8 rfl (World.shaped_of_RefB (by kernel_rfl) (by kernel_rfl)) (by kernel_rfl) (by kernel_rfl) (by kernel_rfl) (door_met os _)) ?_
  intro W base args ds gs before hval0 hW _ _ hL _
  have hval : ∀ (j : Nat) t v, Tryd.f8.params[j]? = some t → args[j]? = some v → Value.okWide Tryd.prog W .any base t v := hval0
  have hW' := hW
  obtain ⟨p, q, hA0, hV, rfl, hfz, hnd⟩ := hW
  have hA : DataW.TrodAll enc Tryd.prog W 0 (fun _ => true) true Tryd.f8.params.toList args.toList ds p := hA0
  obtain ⟨rfl, rfl⟩ := trodVars_none hV
  simp only [List.append_nil] at hW'
  have hlow : ∀ x ∈ p, x.block < W.heap.size := fun x hx => hW'.lt x hx
  have hA2 := hA
  rw [Tryd.params8] at hval hA2
  obtain ⟨v0, vs0, d0, ds0, p0, q0, hargs, rfl, rfl, h0, r0⟩ := trodAll_cons hA2
  obtain ⟨v1, vs1, d1, ds1, p1, q1, rfl, rfl, rfl, h1, r1⟩ := trodAll_cons r0
  obtain ⟨rfl, rfl, rfl⟩ := trodAll_nil r1
  obtain rfl : args = #[v0, v1] := by cases args; simp_all
  obtain ⟨n0, rfl, hn0⟩ := open_u32 Tryd.underlying44 (hval 0 44 v0 rfl rfl) h0
  obtain ⟨n1, rfl, hn1⟩ := open_u16 Tryd.underlying43 (hval 1 43 v1 rfl rfl) h1
  refine (walk n0 n1 hn0 hn1 W (tab_of_laid hL)).mono fun e W' ⟨he, hg⟩ => ?_
  subst he
  exact ⟨_, rfl, law_true laid_out (by kernel_rfl) rfl Tryd.underlying4 (by kernel_rfl) hW' hA rfl rfl rfl hg⟩

theorem over : Rows.probeDrainsRow.holds Tryd.pinned (OpenSpec.ofChange Rows.probeDrainsSpec) :=
  OpenClaim.holds_of_wide 8 Tryd.f8 rfl rfl rfl rfl rfl rfl rfl ⟨rfl, rfl, rfl, rfl, rfl⟩ rfl rfl rfl rfl rfl (by kernel_rfl) Tryd.func8 (by kernel_rfl)
    (of_decide_eq_true (by kernel_rfl)) (by unfold Func.isWrapper; first | (rw [if_pos (by decide +kernel)]; kernel_rfl) | (rw [if_neg (by decide +kernel)]; exact ⟨rfl, rfl⟩))
    (fun os started H enc _ => lifted os started H enc)

/-- The statement: the card of it, its table tied to the program. -/
theorem proved : Rows.ProbeDrainsCardSaid :=
  Claim7.holds_tied_plain_at .later [] [.data] true (true, "0cfa15146e02506e26c00cdb08a8114b329d7ab63ab7622119cae80ce9231d0a") false
    over (fun _ h => by cases h) (by kernel_rfl) (fun _ h => by cases h) probeDrains_row_tie rfl ⟨rfl, rfl⟩ (by kernel_rfl) rfl
    (fun f fn hf hfn => by
      obtain rfl : f = 8 := Option.some.inj ((show Tryd.prog.funcNamed "wigwag/wigwaglaw13.ProbeDrains" = some 8 by kernel_rfl).symm.trans hf) |>.symm
      obtain rfl : fn = Tryd.f8 := (Option.some.inj (Tryd.func8.symm.trans hfn)).symm
      exact ⟨by kernel_rfl, fun j t ht => by
        rw [Tryd.params8] at ht
        have hm : t ∈ [44, 43] := by simpa using Array.mem_of_getElem? ht
        have hall : ([44, 43].all fun u => !Tryd.prog.wantsStandIn u) = true := by kernel_rfl
        exact (show Tryd.prog.wantsStandIn t = false by simpa using List.all_eq_true.1 hall t hm)⟩)
    (by kernel_rfl)
end Go.Proofs.YtjojnbeflongkaaDoor.probeDrains
