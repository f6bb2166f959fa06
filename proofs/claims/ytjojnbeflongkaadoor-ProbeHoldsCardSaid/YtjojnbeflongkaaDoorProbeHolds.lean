/-
  ProbeHolds: windows of a model that began as it should are within the least and the greatest, no loss lets one rise, and what was drained once never starts again. Condition: the table of the phases' parts holds what the door laid.
-/
import Derived.Test.YtjojnbeflongkaaDoorPbW
import Derived.Test.YtjojnbeflongkaaDoorOpen
import Derived.Test.YtjojnbeflongkaaDoorLaidP
import Derived.Test.YtjojnbeflongkaaDoorEv13
import Derived.Deep.CutBlock
import Derived.Deep.DeepCutAuto
namespace Go.Proofs.YtjojnbeflongkaaDoor.probeHolds
open Go.ChangeShapes Go.WideShapes Go.ChangeAt Go.RowKit Go.Deep
set_option linter.unusedVariables false

def HoRel (m p : Nat) (w : World) (i : Value) (wr : World) : Prop :=
  ∃ (k : Nat) (s : Int) (A : Option Addr) (n c lo la fu sl ro ph si hi : Nat) (ss : List Wig.Smp), k ≤ m ∧ k ≤ 100 ∧ n ≤ k ∧ i = .int .i64 (k : Int) ∧ Wig.PFine ⟨s, ss, lo, la, fu, sl, ro, ph, si, hi⟩ ∧ Wig.Pb.Ok ⟨s, ss, lo, la, fu, sl, ro, ph, si, hi⟩ ∧
    BxPb p s A n c lo la fu sl ro ph si hi wr ∧ Rt wr (p + 1) wr.heap.size A n ss ∧ p < wr.heap.size ∧ w.heap.size ≤ p ∧ Below w.heap.size w wr

set_option maxRecDepth 20000 in
set_option maxHeartbeats 16000000 in
theorem walk (t0 : Nat) (A0 : Option Addr) (c0 : Nat) (es : List Wig.Ev) (ht0 : t0 < 18446744073709551616) (hf : ∀ x ∈ es, Wig.Ev.Ok x) (hl : es.length ≤ maxLen) (hm : es.length ≤ c0) (w : World) (hr : RdEv w w.heap.size A0 es) (hT : Tab w) :
    Calls Tryd.prog 5 #[.int .u64 (t0 : Int), .slice A0 es.length c0] w fun e w' => e = .returned (.bool true) ∧ Below w.heap.size w w' := by
  have C0 := Lib.hid (fun (w0 : World) (hb0 : Below w.heap.size w w0) => awake_any w0 (hT.below hb0))
  obtain ⟨m, hmx⟩ : ∃ m, m = es.length := ⟨_, rfl⟩
  rw [← hmx]
  rw [← hmx] at hl hm
  have HX := Lib.hid (And.intro hf hmx)
  have HD := Lib.hid hr
  have CN := Lib.hid (fun w0 => (show Calls Tryd.prog 15 #[.int .u64 (t0 : Int)] w0 fun e w' => e = .returned (.agg #[.int .i64 0, .slice none 0 0, .int .u64 18446744073709551615, .int .u64 (t0 : Int), .int .u64 0, .int .u64 0, .int .u64 0, .int .u64 0, .int .u64 (t0 : Int), .int .u64 16777216]) ∧ Below w0.heap.size w0 w' from new_any t0 w0))
  have HT0 := Lib.hid ht0
  clear hf hl hm hmx hr hT ht0
  have B0 := Lib.hid (Below.refl w.heap.size w)
  go_enter Tryd.func5, Tryd.ntmps5
  go_wp2_with fail
  refine (C0.out _ B0.out).mono ?_
  rintro e w1 ⟨rfl, hb⟩
  have B1 := Lib.hid (below_trans' B0.out hb)
  clear hb B0
  go_wp2_with fail
  refine (CN.out _).mono ?_
  rintro e w2 ⟨rfl, hb⟩
  have B2 := Lib.hid (below_trans' B1.out hb)
  clear hb B1
  go_upto_region 3 with fail
  obtain ⟨w3, hw⟩ : ∃ wx, wx = w2.alloc (.cells #[.int .i64 0, .slice none 0 0, .int .u64 18446744073709551615, .int .u64 (t0 : Int), .int .u64 0, .int .u64 0, .int .u64 0, .int .u64 0, .int .u64 (t0 : Int), .int .u64 16777216] 26) := ⟨_, rfl⟩
  rw [← hw]
  obtain ⟨pP, hp⟩ : ∃ px, px = w2.heap.size := ⟨_, rfl⟩
  rw [← hp]
  have hb : Below w2.heap.size w2 w3 := by rw [hw]; exact (Below.refl _ _).alloc (Nat.le_refl _) _
  have hx : BxPb pP 0 none 0 0 18446744073709551615 t0 0 0 0 0 t0 16777216 w3 := by rw [hp, hw]; exact BxPb.new _ 0 none 0 0 18446744073709551615 t0 0 0 0 0 t0 16777216
  have hs : pP < w3.heap.size := by rw [hp, hw]; simp
  have GP := Lib.hid (show w.heap.size ≤ pP by rw [hp]; exact B2.out.size)
  have B3 := Lib.hid (below_trans' B2.out hb)
  clear hb B2
  have XP3 := Lib.hid hx
  have SP3 := Lib.hid hs
  clear hx hs hw hp
  have ST := Lib.hid (show HoRel m pP w (.int .i64 0) w3 from ⟨0, 0, none, 0, 0, 18446744073709551615, t0, 0, 0, 0, 0, t0, 16777216, [], by omega, by omega, by omega, rfl, Wig.pfine_new t0, Wig.pbnew_ok HT0.out, XP3.out, Rt.empty, SP3.out, GP.out, B3.out⟩)
  go_wp2_with fail
  go_loopw [7] (fun i wr => HoRel m pP w i wr) (fun i _ => 100 - (intOf i).toNat)
  case atStart => exact ST.out
  case round =>
    obtain ⟨k, s, A, n, c, lo, la, fu, sl, ro, ph, si, hi, ss, hk, hk2, hnk, rfl, hfine, ok, hbx, hrt, hlt, hge, hbel⟩ := hrel
    have XP20 := Lib.hid hbx
    have SP20 := Lib.hid hlt
    have B20 := Lib.hid hbel
    have RT20 := Lib.hid hrt
    have LTP := Lib.hid (show pP < pP + 1 by omega)
    clear XP3 SP3 B3 ST hbx hlt hbel hrt hge
    by_cases a1 : k < m
    · by_cases a2 : k < 100
      · have t1 : decide (k < m) = true := decide_eq_true a1
        have t2 : decide ((k : Int) < 100) = true := decide_eq_true (by omega)
        obtain ⟨⟨lost, g0, g1, g2, g3, g4, g5, g6, g7, gl, gr⟩, hp⟩ : ∃ p, es[k]? = some p := ⟨_, List.getElem?_eq_getElem (by have := HX.out.2; omega)⟩
        have eo := HX.out.1 _ (List.mem_of_getElem? hp)
        obtain ⟨bb, off, rfl, hbb, e0, e1, e2, e3, e4, e5, e6, e7, e8, e9, e10⟩ := HD.out.at_ hp
        unfold Wig.Ev.Ok at eo
        simp only [] at e0 e1 e2 e3 e4 e5 e6 e7 e8 e9 e10 eo
        have E0 := Lib.hid e0
        have HBB0 := Lib.hid (show (⟨bb, off + k * 11, none⟩ : Addr).block < w.heap.size from hbb)
        have E1 := Lib.hid e1
        have HBB1 := Lib.hid (show (⟨bb, off + k * 11 + 1, none⟩ : Addr).block < w.heap.size from hbb)
        have E2 := Lib.hid e2
        have HBB2 := Lib.hid (show (⟨bb, off + k * 11 + 2, none⟩ : Addr).block < w.heap.size from hbb)
        have E3 := Lib.hid e3
        have HBB3 := Lib.hid (show (⟨bb, off + k * 11 + 3, none⟩ : Addr).block < w.heap.size from hbb)
        have E4 := Lib.hid e4
        have HBB4 := Lib.hid (show (⟨bb, off + k * 11 + 4, none⟩ : Addr).block < w.heap.size from hbb)
        have E5 := Lib.hid e5
        have HBB5 := Lib.hid (show (⟨bb, off + k * 11 + 5, none⟩ : Addr).block < w.heap.size from hbb)
        have E6 := Lib.hid e6
        have HBB6 := Lib.hid (show (⟨bb, off + k * 11 + 6, none⟩ : Addr).block < w.heap.size from hbb)
        have E7 := Lib.hid e7
        have HBB7 := Lib.hid (show (⟨bb, off + k * 11 + 7, none⟩ : Addr).block < w.heap.size from hbb)
        have E8 := Lib.hid e8
        have HBB8 := Lib.hid (show (⟨bb, off + k * 11 + 8, none⟩ : Addr).block < w.heap.size from hbb)
        have E9 := Lib.hid e9
        have HBB9 := Lib.hid (show (⟨bb, off + k * 11 + 9, none⟩ : Addr).block < w.heap.size from hbb)
        have E10 := Lib.hid e10
        have HBB10 := Lib.hid (show (⟨bb, off + k * 11 + 10, none⟩ : Addr).block < w.heap.size from hbb)
        obtain ⟨k1, hk1⟩ : ∃ k1, k1 = k + 1 := ⟨_, rfl⟩
        have i0 : (0 : Int) ≤ (k : Int) := by omega
        have i1 : (k : Int) < (m : Int) := by omega
        have q3 : IntKind.i64.wrap ((k : Int) + 1) = (k1 : Int) := by rw [IntKind.wrap_i64] <;> omega
        clear hp hbb e0 e1 e2 e3 e4 e5 e6 e7 e8 e9 e10
        cases lost
        · obtain ⟨⟨s', ss', lo', la', fu', sl', ro', ph', si', hi'⟩, hnx⟩ : ∃ q, Wig.pback ⟨s, ss, lo, la, fu, sl, ro, ph, si, hi⟩ ⟨g0, g1, g2, g3, g4, g5, g6, g7, gl, gr⟩ = q := ⟨_, rfl⟩
          obtain ⟨hf1, h01, h12⟩ := Wig.pfine_ack hfine ⟨g0, g1, g2, g3, g4, g5, g6, g7, gl, gr⟩
          rw [hnx] at hf1 h01 h12
          have h01 : 0 < s → s' ≠ 0 := h01
          have h12 : 1 < s → s' ≠ 1 := h12
          have hg : Wig.Gt.Ok ⟨g0, g1, g2, g3, g4, g5, g6, g7, gl, gr⟩ := eo
          have ok1 : Wig.Pb.Ok ⟨s', ss', lo', la', fu', sl', ro', ph', si', hi'⟩ := by rw [← hnx]; exact Wig.pback_ok ok hg
          obtain ⟨n', hn'⟩ : ∃ n', ss'.length = n' := ⟨_, rfl⟩
          have hn2 : n' ≤ n + 1 := by have e := Wig.pback_len ⟨s, ss, lo, la, fu, sl, ro, ph, si, hi⟩ ⟨g0, g1, g2, g3, g4, g5, g6, g7, gl, gr⟩; rw [hnx] at e; have e3 := RT20.out.len; simp only at e; omega
          have C1 := Lib.hid (fun (w0 : World) (hR : Rt w0 0 w0.heap.size A n ss) => ack_any s A n c lo la fu sl ro ph si hi ss g0 g1 g2 g3 g4 g5 g6 g7 gl gr s' ss' lo' la' fu' sl' ro' ph' si' hi' n' w0 ok hR hg (by omega) hnx hn')
          obtain ⟨wn, hwn⟩ : ∃ q, Wig.pbwindow ⟨s', ss', lo', la', fu', sl', ro', ph', si', hi'⟩ = q := ⟨_, rfl⟩
          have CW := Lib.hid (fun (A' : Option Addr) (c' : Nat) (w0 : World) (hR : Rt w0 0 w0.heap.size A' n' ss') => window_any s' A' n' c' lo' la' fu' sl' ro' ph' si' hi' ss' wn w0 ok1 hR hwn)
          have hwin := Wig.pbwindow_in hf1
          rw [hwn] at hwin
          have u1 : decide ((wn : Int) < 2400) = false := decide_eq_false (by omega)
          have u2 : decide ((16777216 : Int) < (wn : Int)) = false := decide_eq_false (by omega)
          have hs0 : 0 ≤ s' := hf1.2.2.1
          have hs3 : s' ≤ 3 := hf1.2.2.2
          have u3 : decide (s' < 0) = false := decide_eq_false (by omega)
          have u4 : decide (3 < s') = false := decide_eq_false (by omega)
          have HR := Lib.hid (show k1 ≤ m ∧ k1 ≤ 100 ∧ n' ≤ k1 ∧ Wig.PFine ⟨s', ss', lo', la', fu', sl', ro', ph', si', hi'⟩ ∧ Wig.Pb.Ok ⟨s', ss', lo', la', fu', sl', ro', ph', si', hi'⟩ ∧ 100 - k1 < 100 - k from ⟨by omega, by omega, by omega, hf1, ok1, by omega⟩)
          have H01 := Lib.hid h01
          have H12 := Lib.hid h12
          clear hk hk2 hnk hfine ok a1 a2 hk1 hnx hf1 hwn hwin hs0 hs3 h01 h12 ok1 hn' hn2 eo hg
          have d0 := (B20.out.cell HBB0.out).trans E0.out
          obtain ⟨k0, k1, k2, k3, k4, k5, k6, k7, k8, k9, -, -, -, -, -, -, -, -, -, -⟩ := XP20.out
          go_upto_region 7 with fail
          clear d0
          obtain ⟨w21, hw⟩ : ∃ wx, wx = wr.alloc (.cells #[.int .i64 s, .slice A n c, .int .u64 (lo : Int), .int .u64 (la : Int), .int .u64 (fu : Int), .int .u64 (sl : Int), .int .u64 (ro : Int), .int .u64 (ph : Int), .int .u64 (si : Int), .int .u64 (hi : Int)] 26) := ⟨_, rfl⟩
          rw [← hw]
          obtain ⟨pV, hp⟩ : ∃ px, px = wr.heap.size := ⟨_, rfl⟩
          rw [← hp]
          have hb : Below wr.heap.size wr w21 := by rw [hw]; exact (Below.refl _ _).alloc (Nat.le_refl _) _
          have hx : BxPb pV s A n c lo la fu sl ro ph si hi w21 := by rw [hp, hw]; exact BxPb.new _ s A n c lo la fu sl ro ph si hi
          have hs : pV < w21.heap.size := by rw [hp, hw]; simp
          have GV := Lib.hid (show w.heap.size ≤ pV by rw [hp]; exact B20.out.size)
          have OPV := Lib.hid (show pP < pV by rw [hp]; exact SP20.out)
          have B21 := Lib.hid (below_trans' B20.out hb)
          have XP21 := Lib.hid (XP20.out.below hb SP20.out)
          have SP21 := Lib.hid (Nat.lt_of_lt_of_le SP20.out hb.size)
          have RT21 := Lib.hid (RT20.out.step hb)
          clear k0 k1 k2 k3 k4 k5 k6 k7 k8 k9
          clear hb B20 XP20 SP20 RT20
          have XV21 := Lib.hid hx
          have SV21 := Lib.hid hs
          clear hx hs hw hp
          have d0 := (B21.out.cell HBB0.out).trans E0.out
          go_upto_region 11 with fail
          clear d0
          obtain ⟨p0, p1, p2, p3, p4, p5, p6, p7, p8, p9, -, -, -, -, -, -, -, -, -, -⟩ := XP21.out
          refine wp_region_held_drew (S := fun wx => wx.cell? ⟨bb, off + k * 11 + 1, none⟩ = some (.int .u64 (g0 : Int)) ∧ wx.cell? ⟨bb, off + k * 11 + 2, none⟩ = some (.int .u64 (g1 : Int)) ∧ wx.cell? ⟨bb, off + k * 11 + 3, none⟩ = some (.int .u64 (g2 : Int)) ∧ wx.cell? ⟨bb, off + k * 11 + 4, none⟩ = some (.int .u64 (g3 : Int)) ∧ wx.cell? ⟨bb, off + k * 11 + 5, none⟩ = some (.int .u64 (g4 : Int)) ∧ wx.cell? ⟨bb, off + k * 11 + 6, none⟩ = some (.int .u64 (g5 : Int)) ∧ wx.cell? ⟨bb, off + k * 11 + 7, none⟩ = some (.int .u64 (g6 : Int)) ∧ wx.cell? ⟨bb, off + k * 11 + 8, none⟩ = some (.int .u64 (g7 : Int)) ∧ wx.cell? ⟨bb, off + k * 11 + 9, none⟩ = some (.bool gl) ∧ wx.cell? ⟨bb, off + k * 11 + 10, none⟩ = some (.bool gr)) (by kernel_rfl) ?_ (fun hHeld => ?_)
          · exact ⟨(B21.out.drew.cell HBB1.out).trans E1.out, (B21.out.drew.cell HBB2.out).trans E2.out, (B21.out.drew.cell HBB3.out).trans E3.out, (B21.out.drew.cell HBB4.out).trans E4.out, (B21.out.drew.cell HBB5.out).trans E5.out, (B21.out.drew.cell HBB6.out).trans E6.out, (B21.out.drew.cell HBB7.out).trans E7.out, (B21.out.drew.cell HBB8.out).trans E8.out, (B21.out.drew.cell HBB9.out).trans E9.out, (B21.out.drew.cell HBB10.out).trans E10.out⟩
          refine held_take (v := ?vv101) 1 rfl (by kernel_rfl) (by kernel_rfl) (by kernel_rfl) (fun _ _ _ h => h) (by rfl) ?yy101 (by assumption) ?nn101
          case yy101 =>
            intro w hSw
            (try dsimp only at hSw)
            go_simp
            try with_reducible rfl
          try simp only [Act.put, List.setIfInBounds_toArray, List.set_cons_zero, List.set_cons_succ]
          refine held_take (v := ?vv102) 2 rfl (by kernel_rfl) (by kernel_rfl) (by kernel_rfl) (fun _ _ _ h => h) (by rfl) ?yy102 (by assumption) ?nn102
          case yy102 =>
            intro w hSw
            (try dsimp only at hSw)
            go_simp
            try with_reducible rfl
          try simp only [Act.put, List.setIfInBounds_toArray, List.set_cons_zero, List.set_cons_succ]
          refine held_take (v := ?vv103) 3 rfl (by kernel_rfl) (by kernel_rfl) (by kernel_rfl) (fun _ _ _ h => h) (by rfl) ?yy103 (by assumption) ?nn103
          case yy103 =>
            intro w hSw
            (try dsimp only at hSw)
            go_simp
            try with_reducible rfl
          try simp only [Act.put, List.setIfInBounds_toArray, List.set_cons_zero, List.set_cons_succ]
          refine held_take (v := ?vv104) 4 rfl (by kernel_rfl) (by kernel_rfl) (by kernel_rfl) (fun _ _ _ h => h) (by rfl) ?yy104 (by assumption) ?nn104
          case yy104 =>
            intro w hSw
            (try dsimp only at hSw)
            go_simp
            try with_reducible rfl
          try simp only [Act.put, List.setIfInBounds_toArray, List.set_cons_zero, List.set_cons_succ]
          refine held_take (v := .agg #[.int .u64 (g0 : Int), .int .u64 (g1 : Int), .int .u64 (g2 : Int), .int .u64 (g3 : Int), .int .u64 (g4 : Int), .int .u64 (g5 : Int), .int .u64 (g6 : Int), .int .u64 (g7 : Int), .bool gl, .bool gr]) 5 rfl (by kernel_rfl) (by kernel_rfl) (by kernel_rfl) (fun _ _ _ h => h) (by rfl) (fun wx hSw => by obtain ⟨a0, a1, a2, a3, a4, a5, a6, a7, a8, a9⟩ := hSw; (try dsimp only at a0 a1 a2 a3 a4 a5 a6 a7 a8 a9); go_simp) (by assumption) ?_
          try simp only [Act.put, List.setIfInBounds_toArray, List.set_cons_zero, List.set_cons_succ]
          refine held_do 0 rfl (by kernel_rfl) (by rfl) (fun K hK => ?_)
          go_wp2_with fail
          refine hK.out _ _ ?_ (fun hHeld => ?_)
          · exact ⟨(B21.out.drew.cell HBB1.out).trans E1.out, (B21.out.drew.cell HBB2.out).trans E2.out, (B21.out.drew.cell HBB3.out).trans E3.out, (B21.out.drew.cell HBB4.out).trans E4.out, (B21.out.drew.cell HBB5.out).trans E5.out, (B21.out.drew.cell HBB6.out).trans E6.out, (B21.out.drew.cell HBB7.out).trans E7.out, (B21.out.drew.cell HBB8.out).trans E8.out, (B21.out.drew.cell HBB9.out).trans E9.out, (B21.out.drew.cell HBB10.out).trans E10.out⟩
          clear hK K
          try simp only [Act.put, List.setIfInBounds_toArray, List.set_cons_zero, List.set_cons_succ]
          refine held_do 6 rfl (by kernel_rfl) (by rfl) (fun K hK => ?_)
          go_wp2_with (go_at_call 11; refine (C1.out _ RT21.out.drew.low).mono ?_; rintro e w22 ⟨A', c', rfl, hr, hb22⟩; have HB := Lib.hid hb22; clear hb22)
          refine hK.out _ _ ?_ (fun hHeld => ?_)
          · exact ⟨((below_trans' B21.out.drew HB.out).cell HBB1.out).trans E1.out, ((below_trans' B21.out.drew HB.out).cell HBB2.out).trans E2.out, ((below_trans' B21.out.drew HB.out).cell HBB3.out).trans E3.out, ((below_trans' B21.out.drew HB.out).cell HBB4.out).trans E4.out, ((below_trans' B21.out.drew HB.out).cell HBB5.out).trans E5.out, ((below_trans' B21.out.drew HB.out).cell HBB6.out).trans E6.out, ((below_trans' B21.out.drew HB.out).cell HBB7.out).trans E7.out, ((below_trans' B21.out.drew HB.out).cell HBB8.out).trans E8.out, ((below_trans' B21.out.drew HB.out).cell HBB9.out).trans E9.out, ((below_trans' B21.out.drew HB.out).cell HBB10.out).trans E10.out⟩
          clear hK K
          try simp only [Act.put, List.setIfInBounds_toArray, List.set_cons_zero, List.set_cons_succ]
          have LUP := Lib.hid (show pP < w21.heap.size from SP21.out)
          have LUV := Lib.hid (show pV < w21.heap.size from SV21.out)
          have QU := Lib.hid (show w.heap.size ≤ w21.heap.size from B21.out.size)
          clear RT21
          have B22 := Lib.hid (below_trans' B21.out.drew HB.out)
          have XP22 := Lib.hid (XP21.out.drew.below HB.out SP21.out)
          have SP22 := Lib.hid (Nat.lt_of_lt_of_le SP21.out HB.out.size)
          have XV22 := Lib.hid (XV21.out.drew.below HB.out SV21.out)
          have SV22 := Lib.hid (Nat.lt_of_lt_of_le SV21.out HB.out.size)
          clear p0 p1 p2 p3 p4 p5 p6 p7 p8 p9
          clear HB B21 XP21 SP21 XV21 SV21
          have RU22 := Lib.hid (show Rt w22 w21.heap.size w22.heap.size A' n' ss' from hr)
          clear hr
          obtain ⟨p0, p1, p2, p3, p4, p5, p6, p7, p8, p9, pf0, pf1, pf2, pf3, pf4, pf5, pf6, pf7, pf8, pf9⟩ := XP22.out
          refine held_do 7 rfl (by kernel_rfl) (by rfl) (fun K hK => ?_)
          go_wp2_with fail
          refine hK.out _ _ ?_ (fun hHeld => ?_)
          · exact ⟨((B22.out.trans (putPb_below (p := pP) GP.out)).cell HBB1.out).trans E1.out, ((B22.out.trans (putPb_below (p := pP) GP.out)).cell HBB2.out).trans E2.out, ((B22.out.trans (putPb_below (p := pP) GP.out)).cell HBB3.out).trans E3.out, ((B22.out.trans (putPb_below (p := pP) GP.out)).cell HBB4.out).trans E4.out, ((B22.out.trans (putPb_below (p := pP) GP.out)).cell HBB5.out).trans E5.out, ((B22.out.trans (putPb_below (p := pP) GP.out)).cell HBB6.out).trans E6.out, ((B22.out.trans (putPb_below (p := pP) GP.out)).cell HBB7.out).trans E7.out, ((B22.out.trans (putPb_below (p := pP) GP.out)).cell HBB8.out).trans E8.out, ((B22.out.trans (putPb_below (p := pP) GP.out)).cell HBB9.out).trans E9.out, ((B22.out.trans (putPb_below (p := pP) GP.out)).cell HBB10.out).trans E10.out⟩
          clear hK K
          try simp only [Act.put, List.setIfInBounds_toArray, List.set_cons_zero, List.set_cons_succ]
          refine wpAnyH_done (by kernel_rfl) ?_ _
          clear hHeld
          obtain ⟨w23, hw⟩ : ∃ wx, wx = putPb pP s' A' n' c' lo' la' fu' sl' ro' ph' si' hi' w22 := ⟨_, rfl⟩
          have XP23 := Lib.hid (show BxPb pP s' A' n' c' lo' la' fu' sl' ro' ph' si' hi' w23 by rw [hw]; exact XP22.out.put)
          have B23 := Lib.hid (show Below w.heap.size w w23 by rw [hw]; exact B22.out.trans (putPb_below GP.out))
          have hz : w22.heap.size ≤ w23.heap.size := by rw [hw]; exact (putPb_below (B := 0) (Nat.zero_le _)).size
          have SP23 := Lib.hid (Nat.lt_of_lt_of_le SP22.out hz)
          have XV23 := Lib.hid (show BxPb pV s A n c lo la fu sl ro ph si hi w23 by rw [hw]; unfold putPb; exact ((((((((((XV22.out.other rfl (Nat.ne_of_lt OPV.out)).other rfl (Nat.ne_of_lt OPV.out)).other rfl (Nat.ne_of_lt OPV.out)).other rfl (Nat.ne_of_lt OPV.out)).other rfl (Nat.ne_of_lt OPV.out)).other rfl (Nat.ne_of_lt OPV.out)).other rfl (Nat.ne_of_lt OPV.out)).other rfl (Nat.ne_of_lt OPV.out)).other rfl (Nat.ne_of_lt OPV.out)).other rfl (Nat.ne_of_lt OPV.out)))
          have SV23 := Lib.hid (Nat.lt_of_lt_of_le SV22.out hz)
          rw [show (((((((((w22.setCell ⟨pP, 0, none⟩ (.int .i64 (s'))).setCell ⟨pP, 1, none⟩ (.slice A' n' c')).setCell ⟨pP, 2, none⟩ (.int .u64 (lo' : Int))).setCell ⟨pP, 3, none⟩ (.int .u64 (la' : Int))).setCell ⟨pP, 4, none⟩ (.int .u64 (fu' : Int))).setCell ⟨pP, 5, none⟩ (.int .u64 (sl' : Int))).setCell ⟨pP, 6, none⟩ (.int .u64 (ro' : Int))).setCell ⟨pP, 7, none⟩ (.int .u64 (ph' : Int))).setCell ⟨pP, 8, none⟩ (.int .u64 (si' : Int))).setCell ⟨pP, 9, none⟩ (.int .u64 (hi' : Int)) = w23 from hw.symm]
          have RU23 := Lib.hid (show Rt w23 w21.heap.size w23.heap.size A' n' ss' by rw [hw]; exact RU22.out.put LUP.out _ _ _ _ _ _ _ _ _ _ _ _ )
          clear p0 p1 p2 p3 p4 p5 p6 p7 p8 p9 pf0 pf1 pf2 pf3 pf4 pf5 pf6 pf7 pf8 pf9
          clear hw hz B22 XP22 SP22 XV22 SV22 RU22
          go_upto_region 12 with fail
          obtain ⟨k0, k1, k2, k3, k4, k5, k6, k7, k8, k9, -, -, -, -, -, -, -, -, -, -⟩ := XP23.out
          go_wp2_with fail
          refine (CW.out _ _ _ RU23.out.low).mono ?_
          rintro e w24 ⟨rfl, hb⟩
          have B24 := Lib.hid (below_trans' B23.out hb)
          have XP24 := Lib.hid (XP23.out.below hb SP23.out)
          have SP24 := Lib.hid (Nat.lt_of_lt_of_le SP23.out hb.size)
          have XV24 := Lib.hid (XV23.out.below hb SV23.out)
          have SV24 := Lib.hid (Nat.lt_of_lt_of_le SV23.out hb.size)
          have RU24 := Lib.hid (RU23.out.step hb)
          clear k0 k1 k2 k3 k4 k5 k6 k7 k8 k9
          clear hb B23 XP23 SP23 XV23 SV23 RU23
          have k0 := XP24.out.c0
          have j0 := XV24.out.c0
          have RZ := Lib.hid (show HoRel m pP w (.int .i64 (k1 : Int)) w24 from ⟨k1, s', A', n', c', lo', la', fu', sl', ro', ph', si', hi', ss', HR.out.1, HR.out.2.1, HR.out.2.2.1, rfl, HR.out.2.2.2.1, HR.out.2.2.2.2.1, XP24.out, RU24.out.wide LUP.out (Nat.le_refl _), SP24.out, GP.out, B24.out⟩)
          by_cases b0 : 0 < s
          · have u5 : decide (0 < s) = true := decide_eq_true b0
            have u6 : (s' == 0) = false := by simpa using H01.out b0
            by_cases b1 : 1 < s
            · have u7 : decide (1 < s) = true := decide_eq_true b1
              have u8 : (s' == 1) = false := by simpa using H12.out b1
              clear b0 b1
              go_wp2_with fail
              go_roundw
              case rel => exact RZ.out
              case measure => have := HR.out; simp [intOf]; omega
            · have u7 : decide (1 < s) = false := decide_eq_false b1
              clear b0 b1
              go_wp2_with fail
              go_roundw
              case rel => exact RZ.out
              case measure => have := HR.out; simp [intOf]; omega
          · have u5 : decide (0 < s) = false := decide_eq_false b0
            have u7 : decide (1 < s) = false := decide_eq_false (by omega)
            clear b0
            go_wp2_with fail
            go_roundw
            case rel => exact RZ.out
            case measure => have := HR.out; simp [intOf]; omega
        · obtain ⟨⟨s', ss', lo', la', fu', sl', ro', ph', si', hi'⟩, hnx⟩ : ∃ q, Wig.pbloss ⟨s, ss, lo, la, fu, sl, ro, ph, si, hi⟩ g6 = q := ⟨_, rfl⟩
          obtain ⟨hf1, hw, hst⟩ := Wig.pfine_loss hfine g6
          rw [hnx] at hf1 hw hst
          have hst2 : s' = s := hst
          clear hst
          have hss : ss = ss' := by have e := congrArg Wig.Pb.rates hnx; rw [Wig.pbloss_rates] at e; exact e
          subst hss
          have ok1 : Wig.Pb.Ok ⟨s', ss, lo', la', fu', sl', ro', ph', si', hi'⟩ := by rw [← hnx]; exact Wig.pbloss_ok ok
          obtain ⟨n', hn'⟩ : ∃ n', n = n' := ⟨_, rfl⟩
          have hn2 : n' ≤ n + 1 := by omega
          have h01 : 0 < s → s' ≠ 0 := by intro h; rw [hst2]; omega
          have h12 : 1 < s → s' ≠ 1 := by intro h; rw [hst2]; omega
          have C1 := Lib.hid (fun (w0 : World) (hR : Rt w0 0 w0.heap.size A n ss) => (show Calls Tryd.prog 13 #[aggPb s A n c lo la fu sl ro ph si hi, .int .u64 (g6 : Int)] w0 fun e w' => ∃ A' c', e = .returned (aggPb s' A' n' c' lo' la' fu' sl' ro' ph' si' hi') ∧ Rt w' w0.heap.size w'.heap.size A' n' ss ∧ Below w0.heap.size w0 w' from hn' ▸ loss_any s A n c lo la fu sl ro ph si hi ss g6 s' ss lo' la' fu' sl' ro' ph' si' hi' w0 ok hR eo.2.2.2.2.2.2.1 hnx))
          obtain ⟨wn, hwn⟩ : ∃ q, Wig.pbwindow ⟨s', ss, lo', la', fu', sl', ro', ph', si', hi'⟩ = q := ⟨_, rfl⟩
          have CW := Lib.hid (fun (A' : Option Addr) (c' : Nat) (w0 : World) (hR : Rt w0 0 w0.heap.size A' n' ss) => window_any s' A' n' c' lo' la' fu' sl' ro' ph' si' hi' ss wn w0 ok1 hR hwn)
          obtain ⟨wo, hwo⟩ : ∃ q, Wig.pbwindow ⟨s, ss, lo, la, fu, sl, ro, ph, si, hi⟩ = q := ⟨_, rfl⟩
          have CV := Lib.hid (fun (w0 : World) (hR : Rt w0 0 w0.heap.size A n ss) => window_any s A n c lo la fu sl ro ph si hi ss wo w0 ok hR hwo)
          have t5 : decide (wo < wn) = false := decide_eq_false (by rw [hwn, hwo] at hw; omega)
          have t6 : (s' != s) = false := by simp [hst2]
          have hwin := Wig.pbwindow_in hf1
          rw [hwn] at hwin
          have u1 : decide ((wn : Int) < 2400) = false := decide_eq_false (by omega)
          have u2 : decide ((16777216 : Int) < (wn : Int)) = false := decide_eq_false (by omega)
          have hs0 : 0 ≤ s' := hf1.2.2.1
          have hs3 : s' ≤ 3 := hf1.2.2.2
          have u3 : decide (s' < 0) = false := decide_eq_false (by omega)
          have u4 : decide (3 < s') = false := decide_eq_false (by omega)
          have HR := Lib.hid (show k1 ≤ m ∧ k1 ≤ 100 ∧ n' ≤ k1 ∧ Wig.PFine ⟨s', ss, lo', la', fu', sl', ro', ph', si', hi'⟩ ∧ Wig.Pb.Ok ⟨s', ss, lo', la', fu', sl', ro', ph', si', hi'⟩ ∧ 100 - k1 < 100 - k from ⟨by omega, by omega, by omega, hf1, ok1, by omega⟩)
          have H01 := Lib.hid h01
          have H12 := Lib.hid h12
          clear hk hk2 hnk hfine ok a1 a2 hk1 hnx hf1 hwn hwin hs0 hs3 h01 h12 ok1 hn' hn2 eo hw hst2 hwo
          have d0 := (B20.out.cell HBB0.out).trans E0.out
          obtain ⟨k0, k1, k2, k3, k4, k5, k6, k7, k8, k9, -, -, -, -, -, -, -, -, -, -⟩ := XP20.out
          go_upto_region 7 with fail
          clear d0
          obtain ⟨w21, hw⟩ : ∃ wx, wx = wr.alloc (.cells #[.int .i64 s, .slice A n c, .int .u64 (lo : Int), .int .u64 (la : Int), .int .u64 (fu : Int), .int .u64 (sl : Int), .int .u64 (ro : Int), .int .u64 (ph : Int), .int .u64 (si : Int), .int .u64 (hi : Int)] 26) := ⟨_, rfl⟩
          rw [← hw]
          obtain ⟨pV, hp⟩ : ∃ px, px = wr.heap.size := ⟨_, rfl⟩
          rw [← hp]
          have hb : Below wr.heap.size wr w21 := by rw [hw]; exact (Below.refl _ _).alloc (Nat.le_refl _) _
          have hx : BxPb pV s A n c lo la fu sl ro ph si hi w21 := by rw [hp, hw]; exact BxPb.new _ s A n c lo la fu sl ro ph si hi
          have hs : pV < w21.heap.size := by rw [hp, hw]; simp
          have GV := Lib.hid (show w.heap.size ≤ pV by rw [hp]; exact B20.out.size)
          have OPV := Lib.hid (show pP < pV by rw [hp]; exact SP20.out)
          have B21 := Lib.hid (below_trans' B20.out hb)
          have XP21 := Lib.hid (XP20.out.below hb SP20.out)
          have SP21 := Lib.hid (Nat.lt_of_lt_of_le SP20.out hb.size)
          have RT21 := Lib.hid (RT20.out.step hb)
          clear k0 k1 k2 k3 k4 k5 k6 k7 k8 k9
          clear hb B20 XP20 SP20 RT20
          have XV21 := Lib.hid hx
          have SV21 := Lib.hid hs
          clear hx hs hw hp
          have d0 := (B21.out.cell HBB0.out).trans E0.out
          go_upto_region 8 with fail
          clear d0
          obtain ⟨p0, p1, p2, p3, p4, p5, p6, p7, p8, p9, -, -, -, -, -, -, -, -, -, -⟩ := XP21.out
          refine wp_region_held_drew (S := fun wx => wx.cell? ⟨bb, off + k * 11 + 7, none⟩ = some (.int .u64 (g6 : Int))) (by kernel_rfl) ?_ (fun hHeld => ?_)
          · exact (B21.out.drew.cell HBB7.out).trans E7.out
          refine held_take (v := ?vv110) 1 rfl (by kernel_rfl) (by kernel_rfl) (by kernel_rfl) (fun _ _ _ h => h) (by rfl) ?yy110 (by assumption) ?nn110
          case yy110 =>
            intro w hSw
            (try dsimp only at hSw)
            go_simp
            try with_reducible rfl
          try simp only [Act.put, List.setIfInBounds_toArray, List.set_cons_zero, List.set_cons_succ]
          refine held_take (v := ?vv111) 2 rfl (by kernel_rfl) (by kernel_rfl) (by kernel_rfl) (fun _ _ _ h => h) (by rfl) ?yy111 (by assumption) ?nn111
          case yy111 =>
            intro w hSw
            (try dsimp only at hSw)
            go_simp
            try with_reducible rfl
          try simp only [Act.put, List.setIfInBounds_toArray, List.set_cons_zero, List.set_cons_succ]
          refine held_take (v := ?vv112) 3 rfl (by kernel_rfl) (by kernel_rfl) (by kernel_rfl) (fun _ _ _ h => h) (by rfl) ?yy112 (by assumption) ?nn112
          case yy112 =>
            intro w hSw
            (try dsimp only at hSw)
            go_simp
            try with_reducible rfl
          try simp only [Act.put, List.setIfInBounds_toArray, List.set_cons_zero, List.set_cons_succ]
          refine held_take (v := ?vv113) 4 rfl (by kernel_rfl) (by kernel_rfl) (by kernel_rfl) (fun _ _ _ h => h) (by rfl) ?yy113 (by assumption) ?nn113
          case yy113 =>
            intro w hSw
            (try dsimp only at hSw)
            go_simp
            try with_reducible rfl
          try simp only [Act.put, List.setIfInBounds_toArray, List.set_cons_zero, List.set_cons_succ]
          refine held_take (v := ?vv114) 5 rfl (by kernel_rfl) (by kernel_rfl) (by kernel_rfl) (fun _ _ _ h => h) (by rfl) ?yy114 (by assumption) ?nn114
          case yy114 =>
            intro w hSw
            (try dsimp only at hSw)
            go_simp
            try with_reducible rfl
          try simp only [Act.put, List.setIfInBounds_toArray, List.set_cons_zero, List.set_cons_succ]
          refine held_take (v := .int .u64 (g6 : Int)) 6 rfl (by kernel_rfl) (by kernel_rfl) (by kernel_rfl) (fun _ _ _ h => h) (by rfl) (fun wx hSw => by have a0 := hSw; clear hSw; (try dsimp only at a0); go_simp) (by assumption) ?_
          try simp only [Act.put, List.setIfInBounds_toArray, List.set_cons_zero, List.set_cons_succ]
          refine held_do 0 rfl (by kernel_rfl) (by rfl) (fun K hK => ?_)
          go_wp2_with fail
          refine hK.out _ _ ?_ (fun hHeld => ?_)
          · exact (B21.out.drew.cell HBB7.out).trans E7.out
          clear hK K
          try simp only [Act.put, List.setIfInBounds_toArray, List.set_cons_zero, List.set_cons_succ]
          refine held_do 7 rfl (by kernel_rfl) (by rfl) (fun K hK => ?_)
          go_wp2_with (go_at_call 13; refine (C1.out _ RT21.out.drew.low).mono ?_; rintro e w22 ⟨A', c', rfl, hr, hb22⟩; have HB := Lib.hid hb22; clear hb22)
          refine hK.out _ _ ?_ (fun hHeld => ?_)
          · exact ((below_trans' B21.out.drew HB.out).cell HBB7.out).trans E7.out
          clear hK K
          try simp only [Act.put, List.setIfInBounds_toArray, List.set_cons_zero, List.set_cons_succ]
          have LUP := Lib.hid (show pP < w21.heap.size from SP21.out)
          have LUV := Lib.hid (show pV < w21.heap.size from SV21.out)
          have QU := Lib.hid (show w.heap.size ≤ w21.heap.size from B21.out.size)
          have B22 := Lib.hid (below_trans' B21.out.drew HB.out)
          have XP22 := Lib.hid (XP21.out.drew.below HB.out SP21.out)
          have SP22 := Lib.hid (Nat.lt_of_lt_of_le SP21.out HB.out.size)
          have XV22 := Lib.hid (XV21.out.drew.below HB.out SV21.out)
          have SV22 := Lib.hid (Nat.lt_of_lt_of_le SV21.out HB.out.size)
          have RT22 := Lib.hid (RT21.out.drew.step HB.out)
          clear p0 p1 p2 p3 p4 p5 p6 p7 p8 p9
          clear HB B21 XP21 SP21 XV21 SV21 RT21
          have RU22 := Lib.hid (show Rt w22 w21.heap.size w22.heap.size A' n' ss from hr)
          clear hr
          obtain ⟨p0, p1, p2, p3, p4, p5, p6, p7, p8, p9, pf0, pf1, pf2, pf3, pf4, pf5, pf6, pf7, pf8, pf9⟩ := XP22.out
          refine held_do 8 rfl (by kernel_rfl) (by rfl) (fun K hK => ?_)
          go_wp2_with fail
          refine hK.out _ _ ?_ (fun hHeld => ?_)
          · exact ((B22.out.trans (putPb_below (p := pP) GP.out)).cell HBB7.out).trans E7.out
          clear hK K
          try simp only [Act.put, List.setIfInBounds_toArray, List.set_cons_zero, List.set_cons_succ]
          refine wpAnyH_done (by kernel_rfl) ?_ _
          clear hHeld
          obtain ⟨w23, hw⟩ : ∃ wx, wx = putPb pP s' A' n' c' lo' la' fu' sl' ro' ph' si' hi' w22 := ⟨_, rfl⟩
          have XP23 := Lib.hid (show BxPb pP s' A' n' c' lo' la' fu' sl' ro' ph' si' hi' w23 by rw [hw]; exact XP22.out.put)
          have B23 := Lib.hid (show Below w.heap.size w w23 by rw [hw]; exact B22.out.trans (putPb_below GP.out))
          have hz : w22.heap.size ≤ w23.heap.size := by rw [hw]; exact (putPb_below (B := 0) (Nat.zero_le _)).size
          have SP23 := Lib.hid (Nat.lt_of_lt_of_le SP22.out hz)
          have XV23 := Lib.hid (show BxPb pV s A n c lo la fu sl ro ph si hi w23 by rw [hw]; unfold putPb; exact ((((((((((XV22.out.other rfl (Nat.ne_of_lt OPV.out)).other rfl (Nat.ne_of_lt OPV.out)).other rfl (Nat.ne_of_lt OPV.out)).other rfl (Nat.ne_of_lt OPV.out)).other rfl (Nat.ne_of_lt OPV.out)).other rfl (Nat.ne_of_lt OPV.out)).other rfl (Nat.ne_of_lt OPV.out)).other rfl (Nat.ne_of_lt OPV.out)).other rfl (Nat.ne_of_lt OPV.out)).other rfl (Nat.ne_of_lt OPV.out)))
          have SV23 := Lib.hid (Nat.lt_of_lt_of_le SV22.out hz)
          rw [show (((((((((w22.setCell ⟨pP, 0, none⟩ (.int .i64 (s'))).setCell ⟨pP, 1, none⟩ (.slice A' n' c')).setCell ⟨pP, 2, none⟩ (.int .u64 (lo' : Int))).setCell ⟨pP, 3, none⟩ (.int .u64 (la' : Int))).setCell ⟨pP, 4, none⟩ (.int .u64 (fu' : Int))).setCell ⟨pP, 5, none⟩ (.int .u64 (sl' : Int))).setCell ⟨pP, 6, none⟩ (.int .u64 (ro' : Int))).setCell ⟨pP, 7, none⟩ (.int .u64 (ph' : Int))).setCell ⟨pP, 8, none⟩ (.int .u64 (si' : Int))).setCell ⟨pP, 9, none⟩ (.int .u64 (hi' : Int)) = w23 from hw.symm]
          have RT23 := Lib.hid (show Rt w23 (pP + 1) w23.heap.size A n ss by rw [hw]; exact RT22.out.put LTP.out _ _ _ _ _ _ _ _ _ _ _ _ )
          have RU23 := Lib.hid (show Rt w23 w21.heap.size w23.heap.size A' n' ss by rw [hw]; exact RU22.out.put LUP.out _ _ _ _ _ _ _ _ _ _ _ _ )
          clear p0 p1 p2 p3 p4 p5 p6 p7 p8 p9 pf0 pf1 pf2 pf3 pf4 pf5 pf6 pf7 pf8 pf9
          clear hw hz B22 XP22 SP22 XV22 SV22 RT22 RU22
          go_wp2_with fail
          refine wp_region_held_drew (S := fun wx => BxPb pP s' A' n' c' lo' la' fu' sl' ro' ph' si' hi' wx ∧ BxPb pV s A n c lo la fu sl ro ph si hi wx ∧ Below w23.heap.size w23 wx) (by kernel_rfl) ?_ (fun hHeld => ?_)
          · exact ⟨XP23.out.drew, XV23.out.drew, (Below.refl _ _).drew⟩
          refine held_take (v := .agg #[.int .i64 (s'), .slice A' n' c', .int .u64 (lo' : Int), .int .u64 (la' : Int), .int .u64 (fu' : Int), .int .u64 (sl' : Int), .int .u64 (ro' : Int), .int .u64 (ph' : Int), .int .u64 (si' : Int), .int .u64 (hi' : Int)]) 0 rfl (by kernel_rfl) (by kernel_rfl) (by kernel_rfl) (fun _ _ _ h => h) (by rfl) (fun wx hSw => by obtain ⟨c0, c1, c2, c3, c4, c5, c6, c7, c8, c9, -, -, -, -, -, -, -, -, -, -⟩ := hSw.1; clear hSw; go_simp) (by assumption) ?_
          try simp only [Act.put, List.setIfInBounds_toArray, List.set_cons_zero, List.set_cons_succ]
          refine held_take (v := .agg #[.int .i64 s, .slice A n c, .int .u64 (lo : Int), .int .u64 (la : Int), .int .u64 (fu : Int), .int .u64 (sl : Int), .int .u64 (ro : Int), .int .u64 (ph : Int), .int .u64 (si : Int), .int .u64 (hi : Int)]) 2 rfl (by kernel_rfl) (by kernel_rfl) (by kernel_rfl) (fun _ _ _ h => h) (by rfl) (fun wx hSw => by obtain ⟨c0, c1, c2, c3, c4, c5, c6, c7, c8, c9, -, -, -, -, -, -, -, -, -, -⟩ := hSw.2.1; clear hSw; go_simp) (by assumption) ?_
          try simp only [Act.put, List.setIfInBounds_toArray, List.set_cons_zero, List.set_cons_succ]
          refine held_do 1 rfl (by kernel_rfl) (by rfl) (fun K hK => ?_)
          go_wp2_with (go_at_call 19; refine (CW.out _ _ _ (RU23.out.step hHeld.2.2).low).mono ?_; rintro e w24 ⟨rfl, hb24⟩; have K24 := Lib.hid (Below.trans hHeld.2.2 (hb24.mono hHeld.2.2.size)); clear hb24)
          refine hK.out _ _ ?_ (fun hHeld => ?_)
          · exact ⟨XP23.out.below K24.out SP23.out, XV23.out.below K24.out SV23.out, K24.out⟩
          clear hK K
          try simp only [Act.put, List.setIfInBounds_toArray, List.set_cons_zero, List.set_cons_succ]
          refine held_do 3 rfl (by kernel_rfl) (by rfl) (fun K hK => ?_)
          go_wp2_with (go_at_call 19; refine (CV.out _ (RT23.out.step hHeld.2.2).low).mono ?_; rintro e w25 ⟨rfl, hb25⟩; have K25 := Lib.hid (Below.trans hHeld.2.2 (hb25.mono hHeld.2.2.size)); clear hb25)
          refine hK.out _ _ ?_ (fun hHeld => ?_)
          · exact ⟨XP23.out.below K25.out SP23.out, XV23.out.below K25.out SV23.out, K25.out⟩
          clear hK K
          try simp only [Act.put, List.setIfInBounds_toArray, List.set_cons_zero, List.set_cons_succ]
          refine held_take (v := ?vv124) 4 rfl (by kernel_rfl) (by kernel_rfl) (by kernel_rfl) (fun _ _ _ h => h) (by rfl) ?yy124 (by assumption) ?nn124
          case yy124 =>
            intro w hSw
            (try dsimp only at hSw)
            go_simp
            try with_reducible rfl
          try simp only [Act.put, List.setIfInBounds_toArray, List.set_cons_zero, List.set_cons_succ]
          refine held_take (v := ?vv125) 5 rfl (by kernel_rfl) (by kernel_rfl) (by kernel_rfl) (fun _ _ _ h => h) (by rfl) ?yy125 (by assumption) ?nn125
          case yy125 =>
            intro w hSw
            (try dsimp only at hSw)
            go_simp
            try with_reducible rfl
          try simp only [Act.put, List.setIfInBounds_toArray, List.set_cons_zero, List.set_cons_succ]
          refine held_take (v := ?vv126) 6 rfl (by kernel_rfl) (by kernel_rfl) (by kernel_rfl) (fun _ _ _ h => h) (by rfl) ?yy126 (by assumption) ?nn126
          case yy126 =>
            intro w hSw
            (try dsimp only at hSw)
            go_simp
            try with_reducible rfl
          try simp only [Act.put, List.setIfInBounds_toArray, List.set_cons_zero, List.set_cons_succ]
          refine held_take (v := .int .i64 (s')) 7 rfl (by kernel_rfl) (by kernel_rfl) (by kernel_rfl) (fun _ _ _ h => h) (by rfl) (fun wx hSw => by have c := hSw.1.c0; clear hSw; go_simp) (by assumption) ?_
          try simp only [Act.put, List.setIfInBounds_toArray, List.set_cons_zero, List.set_cons_succ]
          refine held_take (v := ?vv128) 8 rfl (by kernel_rfl) (by kernel_rfl) (by kernel_rfl) (fun _ _ _ h => h) (by rfl) ?yy128 (by assumption) ?nn128
          case yy128 =>
            intro w hSw
            (try dsimp only at hSw)
            go_simp
            try with_reducible rfl
          try simp only [Act.put, List.setIfInBounds_toArray, List.set_cons_zero, List.set_cons_succ]
          refine held_take (v := .int .i64 s) 9 rfl (by kernel_rfl) (by kernel_rfl) (by kernel_rfl) (fun _ _ _ h => h) (by rfl) (fun wx hSw => by have c := hSw.2.1.c0; clear hSw; go_simp) (by assumption) ?_
          try simp only [Act.put, List.setIfInBounds_toArray, List.set_cons_zero, List.set_cons_succ]
          refine held_take (v := ?vv130) 10 rfl (by kernel_rfl) (by kernel_rfl) (by kernel_rfl) (fun _ _ _ h => h) (by rfl) ?yy130 (by assumption) ?nn130
          case yy130 =>
            intro w hSw
            (try dsimp only at hSw)
            go_simp
            try with_reducible rfl
          try simp only [Act.put, List.setIfInBounds_toArray, List.set_cons_zero, List.set_cons_succ]
          refine held_take (v := ?vv131) 11 rfl (by kernel_rfl) (by kernel_rfl) (by kernel_rfl) (fun _ _ _ h => h) (by rfl) ?yy131 (by assumption) ?nn131
          case yy131 =>
            intro w hSw
            (try dsimp only at hSw)
            go_simp
            try with_reducible rfl
          try simp only [Act.put, List.setIfInBounds_toArray, List.set_cons_zero, List.set_cons_succ]
          refine wpAnyH_done (by kernel_rfl) ?_ _
          clear hHeld
          have B25 := Lib.hid (below_trans' B23.out K25.out)
          have XP25 := Lib.hid (XP23.out.below K25.out SP23.out)
          have SP25 := Lib.hid (Nat.lt_of_lt_of_le SP23.out K25.out.size)
          have XV25 := Lib.hid (XV23.out.below K25.out SV23.out)
          have SV25 := Lib.hid (Nat.lt_of_lt_of_le SV23.out K25.out.size)
          have RT25 := Lib.hid (RT23.out.step K25.out)
          have RU25 := Lib.hid (RU23.out.step K25.out)
          clear B23 XP23 SP23 XV23 SV23 RT23 RU23
          go_upto_region 12 with fail
          obtain ⟨k0, k1, k2, k3, k4, k5, k6, k7, k8, k9, -, -, -, -, -, -, -, -, -, -⟩ := XP25.out
          go_wp2_with fail
          refine (CW.out _ _ _ RU25.out.low).mono ?_
          rintro e w26 ⟨rfl, hb⟩
          have B26 := Lib.hid (below_trans' B25.out hb)
          have XP26 := Lib.hid (XP25.out.below hb SP25.out)
          have SP26 := Lib.hid (Nat.lt_of_lt_of_le SP25.out hb.size)
          have XV26 := Lib.hid (XV25.out.below hb SV25.out)
          have SV26 := Lib.hid (Nat.lt_of_lt_of_le SV25.out hb.size)
          have RT26 := Lib.hid (RT25.out.step hb)
          have RU26 := Lib.hid (RU25.out.step hb)
          clear k0 k1 k2 k3 k4 k5 k6 k7 k8 k9
          clear hb B25 XP25 SP25 XV25 SV25 RT25 RU25
          have k0 := XP26.out.c0
          have j0 := XV26.out.c0
          have RZ := Lib.hid (show HoRel m pP w (.int .i64 (k1 : Int)) w26 from ⟨k1, s', A', n', c', lo', la', fu', sl', ro', ph', si', hi', ss, HR.out.1, HR.out.2.1, HR.out.2.2.1, rfl, HR.out.2.2.2.1, HR.out.2.2.2.2.1, XP26.out, RU26.out.wide LUP.out (Nat.le_refl _), SP26.out, GP.out, B26.out⟩)
          by_cases b0 : 0 < s
          · have u5 : decide (0 < s) = true := decide_eq_true b0
            have u6 : (s' == 0) = false := by simpa using H01.out b0
            by_cases b1 : 1 < s
            · have u7 : decide (1 < s) = true := decide_eq_true b1
              have u8 : (s' == 1) = false := by simpa using H12.out b1
              clear b0 b1
              go_wp2_with fail
              go_roundw
              case rel => exact RZ.out
              case measure => have := HR.out; simp [intOf]; omega
            · have u7 : decide (1 < s) = false := decide_eq_false b1
              clear b0 b1
              go_wp2_with fail
              go_roundw
              case rel => exact RZ.out
              case measure => have := HR.out; simp [intOf]; omega
          · have u5 : decide (0 < s) = false := decide_eq_false b0
            have u7 : decide (1 < s) = false := decide_eq_false (by omega)
            clear b0
            go_wp2_with fail
            go_roundw
            case rel => exact RZ.out
            case measure => have := HR.out; simp [intOf]; omega
      · have t1 : decide (k < m) = true := decide_eq_true a1
        have t2 : decide ((k : Int) < 100) = false := decide_eq_false (by omega)
        clear hk hk2 hnk hfine ok a1 a2
        go_wp2_with fail
        go_ret
        exact ⟨rfl, B20.out⟩
    · have t1 : decide (k < m) = false := decide_eq_false (by omega)
      clear hk hk2 hnk hfine ok a1
      go_wp2_with fail
      go_ret
      exact ⟨rfl, B20.out⟩

set_option maxRecDepth 100000 in
theorem lifted (os : Os) (started : os.Started) (H : Type) (enc : TypeId × Value → H) :
    ReturnsInHanded {} Tryd.checked os 5 .any (fun w args => (Rows.probeHoldsSpec.pre enc Tryd.prog Tryd.f5 [] false w args ∧ laidMetH Tryd.prog laidList w) ∧ sizedMet enc Tryd.prog Tryd.f5 (OpenSpec.ofChange Rows.probeHoldsSpec) false w args)
      (Rows.probeHoldsSpec.post enc Tryd.prog Tryd.f5 false true false false) := by
  refine returnsInHanded_of_change_and (C := Tryd.checked) (X := fun w _ => laidMetH Tryd.prog laidList w) (fun _ _ _ hh h => h.of_heap hh) own started (by kernel_rfl) Tryd.func5
    (ChangeSpec.witness_shaped (enc := enc) (C := Tryd.checked) (os := os) (X := fun w _ => laidMetH Tryd.prog laidList w) false (World.doorLaid Tryd.prog 400 os) #[.int .u64 0, .slice none 0 0] 8 rfl (World.shaped_of_RefB (by kernel_rfl) (by kernel_rfl)) (by kernel_rfl) (by kernel_rfl) (by kernel_rfl) (door_met os _)) ?_
  intro W base args ds gs before hval0 hW _ _ hL _
  have hval : ∀ (j : Nat) t v, Tryd.f5.params[j]? = some t → args[j]? = some v → Value.okWide Tryd.prog W .any base t v := hval0
  have hW' := hW
  obtain ⟨p, q, hA0, hV, rfl, hfz, hnd⟩ := hW
  have hA : DataW.TrodAll enc Tryd.prog W 0 (fun _ => true) true Tryd.f5.params.toList args.toList ds p := hA0
  obtain ⟨rfl, rfl⟩ := trodVars_none hV
  simp only [List.append_nil] at hW'
  have hlow : ∀ x ∈ p, x.block < W.heap.size := fun x hx => hW'.lt x hx
  have hA2 := hA
  rw [Tryd.params5] at hval hA2
  obtain ⟨v0, vs0, d0, ds0, p0, q0, hargs, rfl, rfl, h0, r0⟩ := trodAll_cons hA2
  obtain ⟨v1, vs1, d1, ds1, p1, q1, rfl, rfl, rfl, h1, r1⟩ := trodAll_cons r0
  obtain ⟨rfl, rfl, rfl⟩ := trodAll_nil r1
  obtain rfl : args = #[v0, v1] := by cases args; simp_all
  obtain ⟨n0, rfl, hn0⟩ := open_u64 Tryd.underlying24 (hval 0 24 v0 rfl rfl) h0
  obtain ⟨A1, c1, ss1, rfl, hf1, hr1, hl1, hc1⟩ := open_evs Tryd.underlying36 (hval 1 36 v1 rfl rfl) h1 (fun x hx => hlow x (by simp [hx]))
  refine (walk n0 A1 c1 ss1 hn0 hf1 hl1 hc1 W hr1 (tab_of_laid hL)).mono fun e W' ⟨he, hg⟩ => ?_
  subst he
  exact ⟨_, rfl, law_true laid_out (by kernel_rfl) rfl Tryd.underlying4 (by kernel_rfl) hW' hA rfl rfl rfl hg⟩

theorem over : Rows.probeHoldsRow.holds Tryd.pinned (OpenSpec.ofChange Rows.probeHoldsSpec) :=
  OpenClaim.holds_of_wide 5 Tryd.f5 rfl rfl rfl rfl rfl rfl rfl ⟨rfl, rfl, rfl, rfl, rfl⟩ rfl rfl rfl rfl rfl (by kernel_rfl) Tryd.func5 (by kernel_rfl)
    (of_decide_eq_true (by kernel_rfl)) (by unfold Func.isWrapper; first | (rw [if_pos (by decide +kernel)]; kernel_rfl) | (rw [if_neg (by decide +kernel)]; exact ⟨rfl, rfl⟩))
    (fun os started H enc _ => lifted os started H enc)

/-- The statement: the card of it, its table tied to the program. -/
theorem proved : Rows.ProbeHoldsCardSaid :=
  Claim7.holds_tied_plain_at .later [] [.data] true (true, "0cfa15146e02506e26c00cdb08a8114b329d7ab63ab7622119cae80ce9231d0a") false
    over (fun _ h => by cases h) (by kernel_rfl) (fun _ h => by cases h) probeHolds_row_tie rfl ⟨rfl, rfl⟩ (by kernel_rfl) rfl
    (fun f fn hf hfn => by
      obtain rfl : f = 5 := Option.some.inj ((show Tryd.prog.funcNamed "wigwag/wigwaglaw13.ProbeHolds" = some 5 by kernel_rfl).symm.trans hf) |>.symm
      obtain rfl : fn = Tryd.f5 := (Option.some.inj (Tryd.func5.symm.trans hfn)).symm
      exact ⟨by kernel_rfl, fun j t ht => by
        rw [Tryd.params5] at ht
        have hm : t ∈ [24, 36] := by simpa using Array.mem_of_getElem? ht
        have hall : ([24, 36].all fun u => !Tryd.prog.wantsStandIn u) = true := by kernel_rfl
        exact (show Tryd.prog.wantsStandIn t = false by simpa using List.all_eq_true.1 hall t hm)⟩)
    (by kernel_rfl)
end Go.Proofs.YtjojnbeflongkaaDoor.probeHolds
