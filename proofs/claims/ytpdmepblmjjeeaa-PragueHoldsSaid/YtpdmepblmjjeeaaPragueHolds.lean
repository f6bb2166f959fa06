/-
  PragueHolds: a window that began as it should stays within the least and the greatest, and its share of marks at most the whole, whatever comes; bytes that come never let it fall, nor marks and losses rise; and between two rounds' ends marks let it fall once; at most two hundred events. No condition.
-/
import Derived.Test.YtpdmepblmjjeeaaPgW
import Derived.Test.YtpdmepblmjjeeaaOpen
import Derived.Test.YtpdmepblmjjeeaaEv14
import Derived.Test.YtpdmepblmjjeeaaRgn
import Derived.Deep.CutBlock
import Derived.Deep.DeepCutAuto
namespace Go.Proofs.Ytpdmepblmjjeeaa.pragueHolds
open Go.ChangeShapes Go.WideShapes Go.ChangeAt Go.RowKit Go.Deep
set_option linter.unusedVariables false

/-- At a round's head: what lies in the box. -/
def HoRel (m p : Nat) (w : World) (i : Value) (wr : World) : Prop :=
  ∃ (k c t s r al ac mk en : Nat) (cu : Bool), k ≤ m ∧ k ≤ 200 ∧ i = .int .i64 (k : Int) ∧ Wig.GFine ⟨⟨c, t, s, r⟩, al, ac, mk, en, cu⟩ ∧ Wig.Pg.Ok ⟨⟨c, t, s, r⟩, al, ac, mk, en, cu⟩ ∧ BxPg p c t s r al ac mk en cu wr ∧ p < wr.heap.size ∧ Below w.heap.size w wr

set_option maxRecDepth 20000 in
set_option maxHeartbeats 16000000 in
theorem walk (t0 : Nat) (A0 : Option Addr) (c0 : Nat) (es : List Wig.Ev) (ht0 : t0 < 18446744073709551616) (hf : ∀ x ∈ es, Wig.Ev.Ok x) (hl : es.length ≤ maxLen) (hm : es.length ≤ c0) (w : World) (hr : RdEv w w.heap.size A0 es) :
    Calls Try.prog 4 #[.int .u64 (t0 : Int), .slice A0 es.length c0] w fun e w' => e = .returned (.bool true) ∧ Below w.heap.size w w' := by
  have C0 := Lib.hid (fun w => awake_any w)
  obtain ⟨m, hmx⟩ : ∃ m, m = es.length := ⟨_, rfl⟩
  rw [← hmx]
  rw [← hmx] at hl hm
  have HX := Lib.hid (And.intro hf hmx)
  have HD := Lib.hid hr
  have CN := Lib.hid (fun w0 => (show Calls Try.prog 17 #[.int .u64 (t0 : Int)] w0 fun e w' => e = .returned (.agg #[.int .u64 12000, .int .u64 16777216, .int .u64 0, .int .u64 0, .int .u64 1048576, .int .u64 0, .int .u64 0, .int .u64 (t0 : Int), .bool false]) ∧ Below w0.heap.size w0 w' from new_any t0 w0))
  have HT0 := Lib.hid ht0
  clear hf hl hm hmx hr ht0
  have B0 := Lib.hid (Below.refl w.heap.size w)
  go_enter Try.func4, Try.ntmps4
  go_wp2_with fail
  refine (C0.out _).mono ?_
  rintro e w1 ⟨rfl, hb⟩
  have B1 := Lib.hid (below_trans' B0.out hb)
  clear hb B0
  go_wp2_with fail
  refine (CN.out _).mono ?_
  rintro e w2 ⟨rfl, hb⟩
  have B2 := Lib.hid (below_trans' B1.out hb)
  clear hb B1
  go_upto_region 3 with fail
  obtain ⟨w3, hw⟩ : ∃ wx, wx = w2.alloc (.cells #[.int .u64 12000, .int .u64 16777216, .int .u64 0, .int .u64 0, .int .u64 1048576, .int .u64 0, .int .u64 0, .int .u64 (t0 : Int), .bool false] 26) := ⟨_, rfl⟩
  rw [← hw]
  obtain ⟨pC, hp⟩ : ∃ px, px = w2.heap.size := ⟨_, rfl⟩
  rw [← hp]
  have hb : Below w2.heap.size w2 w3 := by rw [hw]; exact (Below.refl _ _).alloc (Nat.le_refl _) _
  have hx : BxPg pC 12000 16777216 0 0 1048576 0 0 t0 false w3 := by rw [hp, hw]; exact BxPg.new _ 12000 16777216 0 0 1048576 0 0 t0 false
  have hs : pC < w3.heap.size := by rw [hp, hw]; simp
  have GC := Lib.hid (show w.heap.size ≤ pC by rw [hp]; exact B2.out.size)
  have B3 := Lib.hid (below_trans' B2.out hb)
  clear hb B2
  have XC3 := Lib.hid hx
  have SC3 := Lib.hid hs
  clear hx hs hw hp
  have ST := Lib.hid (show HoRel m pC w (.int .i64 0) w3 from ⟨0, 12000, 16777216, 0, 0, 1048576, 0, 0, t0, false, Nat.zero_le _, Nat.zero_le _, rfl, Wig.gfine_new t0, Wig.gnew_ok HT0.out, XC3.out, SC3.out, B3.out⟩)
  go_wp2_with fail
  go_loopw [7] (fun i wr => HoRel m pC w i wr) (fun i _ => 200 - (intOf i).toNat)
  case atStart => exact ST.out
  case round =>
    obtain ⟨k, c, t, s, r, al, ac, mk, en, cu, hka, hkb, rfl, hfine, ok, hbx, hlt, hbel⟩ := hrel
    have XC20 := Lib.hid hbx
    have SC20 := Lib.hid hlt
    have B20 := Lib.hid hbel
    clear XC3 SC3 B3 ST hbx hlt hbel
    by_cases a1 : k < m
    · by_cases a3 : k < 200
      · have t1 : decide (k < m) = true := decide_eq_true a1
        have t2 : decide ((k : Int) < 200) = true := decide_eq_true (by omega)
        obtain ⟨⟨kd, g0, g1, g2, g3, g4, g5, g6, g7, gl, gr, b2, a2⟩, hp⟩ : ∃ p, es[k]? = some p := ⟨_, List.getElem?_eq_getElem (by have := HX.out.2; omega)⟩
        have eo := HX.out.1 _ (List.mem_of_getElem? hp)
        obtain ⟨bb, off, rfl, hbb, e0, e1, e2, e3, e4, e5, e6, e7, e8, e9, e10, e11, e12⟩ := HD.out.at_ hp
        unfold Wig.Ev.Ok at eo
        simp only [] at e0 e1 e2 e3 e4 e5 e6 e7 e8 e9 e10 e11 e12 eo
        obtain ⟨-, -, hg0, hg1, hg2, hg3, hg4, -, -, -, hb2, ha2⟩ := eo
        have E0 := Lib.hid e0
        have HBB0 := Lib.hid (show (⟨bb, off + k * 13, none⟩ : Addr).block < w.heap.size from hbb)
        have E1 := Lib.hid e1
        have HBB1 := Lib.hid (show (⟨bb, off + k * 13 + 1, none⟩ : Addr).block < w.heap.size from hbb)
        have E2 := Lib.hid e2
        have HBB2 := Lib.hid (show (⟨bb, off + k * 13 + 2, none⟩ : Addr).block < w.heap.size from hbb)
        have E3 := Lib.hid e3
        have HBB3 := Lib.hid (show (⟨bb, off + k * 13 + 3, none⟩ : Addr).block < w.heap.size from hbb)
        have E4 := Lib.hid e4
        have HBB4 := Lib.hid (show (⟨bb, off + k * 13 + 4, none⟩ : Addr).block < w.heap.size from hbb)
        have E5 := Lib.hid e5
        have HBB5 := Lib.hid (show (⟨bb, off + k * 13 + 5, none⟩ : Addr).block < w.heap.size from hbb)
        have E6 := Lib.hid e6
        have HBB6 := Lib.hid (show (⟨bb, off + k * 13 + 6, none⟩ : Addr).block < w.heap.size from hbb)
        have E7 := Lib.hid e7
        have HBB7 := Lib.hid (show (⟨bb, off + k * 13 + 7, none⟩ : Addr).block < w.heap.size from hbb)
        have E8 := Lib.hid e8
        have HBB8 := Lib.hid (show (⟨bb, off + k * 13 + 8, none⟩ : Addr).block < w.heap.size from hbb)
        have E9 := Lib.hid e9
        have HBB9 := Lib.hid (show (⟨bb, off + k * 13 + 9, none⟩ : Addr).block < w.heap.size from hbb)
        have E10 := Lib.hid e10
        have HBB10 := Lib.hid (show (⟨bb, off + k * 13 + 10, none⟩ : Addr).block < w.heap.size from hbb)
        have E11 := Lib.hid e11
        have HBB11 := Lib.hid (show (⟨bb, off + k * 13 + 11, none⟩ : Addr).block < w.heap.size from hbb)
        have E12 := Lib.hid e12
        have HBB12 := Lib.hid (show (⟨bb, off + k * 13 + 12, none⟩ : Addr).block < w.heap.size from hbb)
        obtain ⟨k1, hk1⟩ : ∃ k1, k1 = k + 1 := ⟨_, rfl⟩
        have i0 : (0 : Int) ≤ (k : Int) := by omega
        have i1 : (k : Int) < (m : Int) := by omega
        have q3 : IntKind.i64.wrap ((k : Int) + 1) = (k1 : Int) := by rw [IntKind.wrap_i64] <;> omega
        have HR := Lib.hid (show k1 ≤ m ∧ k1 ≤ 200 ∧ 200 - k1 < 200 - k from ⟨by omega, by omega, by omega⟩)
        clear hp hbb hk1 e0 e1 e2 e3 e4 e5 e6 e7 e8 e9 e10 e11 e12
        by_cases hk1 : kd = 1
        · subst hk1
          obtain ⟨⟨⟨c', t', s', r'⟩, al', ac', mk', en', cu'⟩, hq⟩ : ∃ q, Wig.gack ⟨⟨c, t, s, r⟩, al, ac, mk, en, cu⟩ g1 g2 g3 g4 gl = q := ⟨_, rfl⟩
          obtain ⟨hf1, hup⟩ := Wig.gfine_ack hfine g1 g2 g3 g4 gl
          have ok1 := Wig.gack_ok (b := g1) (a := g2) (m := g3) (l := gl) ok hg4
          rw [hq] at hf1 hup ok1
          simp only at hup
          have C2 := Lib.hid (fun w => ack_any c t s r al ac mk en cu g0 g1 g2 g3 g4 g5 g6 g7 gl gr c' t' s' r' al' ac' mk' en' cu' w ok hg1 hg2 hq)
          have t3 : decide (c' < c) = false := decide_eq_false (by omega)
          have HF := Lib.hid (And.intro hf1 ok1)
          obtain ⟨⟨z0, z1, -, -⟩, z2⟩ := hf1
          simp only at z0 z1 z2
          have u0 : decide ((c' : Int) < 2400) = false := decide_eq_false (by omega)
          have u1 : decide ((16777216 : Int) < (c' : Int)) = false := decide_eq_false (by omega)
          have u2 : decide ((1048576 : Int) < (al' : Int)) = false := decide_eq_false (by omega)
          clear z0 z1 z2 ok1 hfine ok hka hkb a1 a3 hg0 hg1 hg2 hg3 hg4 hb2 ha2 hq hup 
          have d00 := (B20.out.cell HBB0.out).trans E0.out
          obtain ⟨kc0, kc1, kc2, kc3, kc4, kc5, kc6, kc7, kc8, -, -, -, -, -, -, -, -, -⟩ := XC20.out
          go_upto_region 7 with fail
          clear d00
          obtain ⟨w21, hw⟩ : ∃ wx, wx = wr.alloc (.cells #[.int .u64 (c : Int), .int .u64 (t : Int), .int .u64 (s : Int), .int .u64 (r : Int), .int .u64 (al : Int), .int .u64 (ac : Int), .int .u64 (mk : Int), .int .u64 (en : Int), .bool cu] 26) := ⟨_, rfl⟩
          rw [← hw]
          obtain ⟨pV, hp⟩ : ∃ px, px = wr.heap.size := ⟨_, rfl⟩
          rw [← hp]
          have hb : Below wr.heap.size wr w21 := by rw [hw]; exact (Below.refl _ _).alloc (Nat.le_refl _) _
          have hx : BxPg pV c t s r al ac mk en cu w21 := by rw [hp, hw]; exact BxPg.new _ c t s r al ac mk en cu
          have hs : pV < w21.heap.size := by rw [hp, hw]; simp
          have GV := Lib.hid (show w.heap.size ≤ pV by rw [hp]; exact B20.out.size)
          have OCV := Lib.hid (show pC < pV by rw [hp]; exact SC20.out)
          have B21 := Lib.hid (below_trans' B20.out hb)
          have XC21 := Lib.hid (XC20.out.below hb SC20.out)
          have SC21 := Lib.hid (Nat.lt_of_lt_of_le SC20.out hb.size)
          clear kc0 kc1 kc2 kc3 kc4 kc5 kc6 kc7 kc8
          clear hb B20 XC20 SC20
          have XV21 := Lib.hid hx
          have SV21 := Lib.hid hs
          clear hx hs hw hp
          have d00 := (B21.out.cell HBB0.out).trans E0.out
          go_upto_region 9 with fail
          clear d00
          obtain ⟨c0, c1, c2, c3, c4, c5, c6, c7, c8, -, -, -, -, -, -, -, -, -⟩ := XC21.out
          refine wp_region_held_drew (S := fun wx => wx.cell? ⟨bb, off + k * 13 + 1, none⟩ = some (.int .u64 (g0 : Int)) ∧ wx.cell? ⟨bb, off + k * 13 + 2, none⟩ = some (.int .u64 (g1 : Int)) ∧ wx.cell? ⟨bb, off + k * 13 + 3, none⟩ = some (.int .u64 (g2 : Int)) ∧ wx.cell? ⟨bb, off + k * 13 + 4, none⟩ = some (.int .u64 (g3 : Int)) ∧ wx.cell? ⟨bb, off + k * 13 + 5, none⟩ = some (.int .u64 (g4 : Int)) ∧ wx.cell? ⟨bb, off + k * 13 + 6, none⟩ = some (.int .u64 (g5 : Int)) ∧ wx.cell? ⟨bb, off + k * 13 + 7, none⟩ = some (.int .u64 (g6 : Int)) ∧ wx.cell? ⟨bb, off + k * 13 + 8, none⟩ = some (.int .u64 (g7 : Int)) ∧ wx.cell? ⟨bb, off + k * 13 + 9, none⟩ = some (.bool gl) ∧ wx.cell? ⟨bb, off + k * 13 + 10, none⟩ = some (.bool gr)) (by kernel_rfl) ?_ (fun hHeld => ?_)
          · exact ⟨(B21.out.drew.cell HBB1.out).trans E1.out, (B21.out.drew.cell HBB2.out).trans E2.out, (B21.out.drew.cell HBB3.out).trans E3.out, (B21.out.drew.cell HBB4.out).trans E4.out, (B21.out.drew.cell HBB5.out).trans E5.out, (B21.out.drew.cell HBB6.out).trans E6.out, (B21.out.drew.cell HBB7.out).trans E7.out, (B21.out.drew.cell HBB8.out).trans E8.out, (B21.out.drew.cell HBB9.out).trans E9.out, (B21.out.drew.cell HBB10.out).trans E10.out⟩
          refine held_take (v := ?vv101) 1 rfl (by kernel_rfl) (by kernel_rfl) (by kernel_rfl) (fun _ _ _ h => h) (by rfl) ?yy101 (by assumption) ?nn101
          case yy101 =>
            intro w hSw
            (try dsimp only at hSw)
            go_simp
            try with_reducible rfl
          try simp only [Act.put, List.setIfInBounds_toArray, List.set_cons_zero, List.set_cons_succ]
          refine held_take (v := ?vv102) 2 rfl (by kernel_rfl) (by kernel_rfl) (by kernel_rfl) (fun _ _ _ h => h) (by rfl) ?yy102 (by assumption) ?nn102
          case yy102 =>
            intro w hSw
            (try dsimp only at hSw)
            go_simp
            try with_reducible rfl
          try simp only [Act.put, List.setIfInBounds_toArray, List.set_cons_zero, List.set_cons_succ]
          refine held_take (v := ?vv103) 3 rfl (by kernel_rfl) (by kernel_rfl) (by kernel_rfl) (fun _ _ _ h => h) (by rfl) ?yy103 (by assumption) ?nn103
          case yy103 =>
            intro w hSw
            (try dsimp only at hSw)
            go_simp
            try with_reducible rfl
          try simp only [Act.put, List.setIfInBounds_toArray, List.set_cons_zero, List.set_cons_succ]
          refine held_take (v := ?vv104) 4 rfl (by kernel_rfl) (by kernel_rfl) (by kernel_rfl) (fun _ _ _ h => h) (by rfl) ?yy104 (by assumption) ?nn104
          case yy104 =>
            intro w hSw
            (try dsimp only at hSw)
            go_simp
            try with_reducible rfl
          try simp only [Act.put, List.setIfInBounds_toArray, List.set_cons_zero, List.set_cons_succ]
          refine held_take (v := .agg #[.int .u64 (g0 : Int), .int .u64 (g1 : Int), .int .u64 (g2 : Int), .int .u64 (g3 : Int), .int .u64 (g4 : Int), .int .u64 (g5 : Int), .int .u64 (g6 : Int), .int .u64 (g7 : Int), .bool gl, .bool gr]) 5 rfl (by kernel_rfl) (by kernel_rfl) (by kernel_rfl) (fun _ _ _ h => h) (by rfl) (fun wx hSw => by obtain ⟨a0, a1, a2, a3, a4, a5, a6, a7, a8, a9⟩ := hSw; (try dsimp only at a0 a1 a2 a3 a4 a5 a6 a7 a8 a9); go_simp) (by assumption) ?_
          try simp only [Act.put, List.setIfInBounds_toArray, List.set_cons_zero, List.set_cons_succ]
          refine held_do 0 rfl (by kernel_rfl) (by rfl) (fun K hK => ?_)
          go_wp2_with fail
          refine hK.out _ _ ?_ (fun hHeld => ?_)
          · exact ⟨(B21.out.drew.cell HBB1.out).trans E1.out, (B21.out.drew.cell HBB2.out).trans E2.out, (B21.out.drew.cell HBB3.out).trans E3.out, (B21.out.drew.cell HBB4.out).trans E4.out, (B21.out.drew.cell HBB5.out).trans E5.out, (B21.out.drew.cell HBB6.out).trans E6.out, (B21.out.drew.cell HBB7.out).trans E7.out, (B21.out.drew.cell HBB8.out).trans E8.out, (B21.out.drew.cell HBB9.out).trans E9.out, (B21.out.drew.cell HBB10.out).trans E10.out⟩
          clear hK K
          try simp only [Act.put, List.setIfInBounds_toArray, List.set_cons_zero, List.set_cons_succ]
          refine held_do 6 rfl (by kernel_rfl) (by rfl) (fun K hK => ?_)
          go_wp2_with (go_at_call 9; refine (C2.out _).mono ?_; rintro e w22 ⟨rfl, hb22⟩; have HB := Lib.hid hb22; clear hb22)
          refine hK.out _ _ ?_ (fun hHeld => ?_)
          · exact ⟨((below_trans' B21.out.drew HB.out).cell HBB1.out).trans E1.out, ((below_trans' B21.out.drew HB.out).cell HBB2.out).trans E2.out, ((below_trans' B21.out.drew HB.out).cell HBB3.out).trans E3.out, ((below_trans' B21.out.drew HB.out).cell HBB4.out).trans E4.out, ((below_trans' B21.out.drew HB.out).cell HBB5.out).trans E5.out, ((below_trans' B21.out.drew HB.out).cell HBB6.out).trans E6.out, ((below_trans' B21.out.drew HB.out).cell HBB7.out).trans E7.out, ((below_trans' B21.out.drew HB.out).cell HBB8.out).trans E8.out, ((below_trans' B21.out.drew HB.out).cell HBB9.out).trans E9.out, ((below_trans' B21.out.drew HB.out).cell HBB10.out).trans E10.out⟩
          clear hK K
          try simp only [Act.put, List.setIfInBounds_toArray, List.set_cons_zero, List.set_cons_succ]
          have B22 := Lib.hid (below_trans' B21.out.drew HB.out)
          have XC22 := Lib.hid (XC21.out.drew.below HB.out SC21.out)
          have SC22 := Lib.hid (Nat.lt_of_lt_of_le SC21.out HB.out.size)
          have XV22 := Lib.hid (XV21.out.drew.below HB.out SV21.out)
          have SV22 := Lib.hid (Nat.lt_of_lt_of_le SV21.out HB.out.size)
          clear c0 c1 c2 c3 c4 c5 c6 c7 c8
          clear HB B21 XC21 SC21 XV21 SV21
          obtain ⟨c0, c1, c2, c3, c4, c5, c6, c7, c8, cf0, cf1, cf2, cf3, cf4, cf5, cf6, cf7, cf8⟩ := XC22.out
          refine held_do 7 rfl (by kernel_rfl) (by rfl) (fun K hK => ?_)
          go_wp2_with fail
          refine hK.out _ _ ?_ (fun hHeld => ?_)
          · exact ⟨((B22.out.trans (putPg_below (p := pC) GC.out)).cell HBB1.out).trans E1.out, ((B22.out.trans (putPg_below (p := pC) GC.out)).cell HBB2.out).trans E2.out, ((B22.out.trans (putPg_below (p := pC) GC.out)).cell HBB3.out).trans E3.out, ((B22.out.trans (putPg_below (p := pC) GC.out)).cell HBB4.out).trans E4.out, ((B22.out.trans (putPg_below (p := pC) GC.out)).cell HBB5.out).trans E5.out, ((B22.out.trans (putPg_below (p := pC) GC.out)).cell HBB6.out).trans E6.out, ((B22.out.trans (putPg_below (p := pC) GC.out)).cell HBB7.out).trans E7.out, ((B22.out.trans (putPg_below (p := pC) GC.out)).cell HBB8.out).trans E8.out, ((B22.out.trans (putPg_below (p := pC) GC.out)).cell HBB9.out).trans E9.out, ((B22.out.trans (putPg_below (p := pC) GC.out)).cell HBB10.out).trans E10.out⟩
          clear hK K
          try simp only [Act.put, List.setIfInBounds_toArray, List.set_cons_zero, List.set_cons_succ]
          refine wpAnyH_done (by kernel_rfl) ?_ _
          clear hHeld
          obtain ⟨w23, hw⟩ : ∃ wx, wx = putPg pC c' t' s' r' al' ac' mk' en' cu' w22 := ⟨_, rfl⟩
          have XC23 := Lib.hid (show BxPg pC c' t' s' r' al' ac' mk' en' cu' w23 by rw [hw]; exact XC22.out.put)
          have B23 := Lib.hid (show Below w.heap.size w w23 by rw [hw]; exact B22.out.trans (putPg_below GC.out))
          have hz : w22.heap.size ≤ w23.heap.size := by rw [hw]; exact (putPg_below (B := 0) (Nat.zero_le _)).size
          have SC23 := Lib.hid (Nat.lt_of_lt_of_le SC22.out hz)
          have XV23 := Lib.hid (show BxPg pV c t s r al ac mk en cu w23 by rw [hw]; unfold putPg; exact (((((((((XV22.out.other rfl (Nat.ne_of_lt OCV.out)).other rfl (Nat.ne_of_lt OCV.out)).other rfl (Nat.ne_of_lt OCV.out)).other rfl (Nat.ne_of_lt OCV.out)).other rfl (Nat.ne_of_lt OCV.out)).other rfl (Nat.ne_of_lt OCV.out)).other rfl (Nat.ne_of_lt OCV.out)).other rfl (Nat.ne_of_lt OCV.out)).other rfl (Nat.ne_of_lt OCV.out)))
          have SV23 := Lib.hid (Nat.lt_of_lt_of_le SV22.out hz)
          rw [show ((((((((w22.setCell ⟨pC, 0, none⟩ (.int .u64 (c' : Int))).setCell ⟨pC, 1, none⟩ (.int .u64 (t' : Int))).setCell ⟨pC, 2, none⟩ (.int .u64 (s' : Int))).setCell ⟨pC, 3, none⟩ (.int .u64 (r' : Int))).setCell ⟨pC, 4, none⟩ (.int .u64 (al' : Int))).setCell ⟨pC, 5, none⟩ (.int .u64 (ac' : Int))).setCell ⟨pC, 6, none⟩ (.int .u64 (mk' : Int))).setCell ⟨pC, 7, none⟩ (.int .u64 (en' : Int))).setCell ⟨pC, 8, none⟩ (.bool cu') = w23 from hw.symm]
          clear c0 c1 c2 c3 c4 c5 c6 c7 c8 cf0 cf1 cf2 cf3 cf4 cf5 cf6 cf7 cf8
          clear hw hz B22 XC22 SC22 XV22 SV22
          obtain ⟨c0, c1, c2, c3, c4, c5, c6, c7, c8, -, -, -, -, -, -, -, -, -⟩ := XC23.out
          obtain ⟨v0, v1, v2, v3, v4, v5, v6, v7, v8, -, -, -, -, -, -, -, -, -⟩ := XV23.out
          have RZ := Lib.hid (show HoRel m pC w (.int .i64 (k1 : Int)) w23 from ⟨k1, c', t', s', r', al', ac', mk', en', cu', HR.out.1, HR.out.2.1, rfl, HF.out.1, HF.out.2, XC23.out, SC23.out, B23.out⟩)
          go_wp2_with fail
          go_roundw
          case rel => exact RZ.out
          case measure => have := HR.out; simp [intOf]; omega
        · by_cases hk2 : kd = 2
          · subst hk2
            have d1 : ((2 : Int) == 1) = false := by decide
            obtain ⟨⟨⟨c', t', s', r'⟩, al', ac', mk', en', cu'⟩, hq⟩ : ∃ q, Wig.gmark ⟨⟨c, t, s, r⟩, al, ac, mk, en, cu⟩ b2 a2 = q := ⟨_, rfl⟩
            obtain ⟨hf1, hup, hsame, hal⟩ := Wig.gfine_mark hfine b2 a2
            have ok1 := Wig.gmark_ok (b := b2) (a := a2) ok
            rw [hq] at hf1 hup hsame hal ok1
            simp only at hup hsame hal
            obtain rfl : al = al' := hal.symm
            have C2 := Lib.hid (fun w => mark_any c t s r al ac mk en cu b2 a2 c' t' s' r' al ac' mk' en' cu' w ok hb2 ha2 hq)
            have t3 : decide (c < c') = false := decide_eq_false (by omega)
            have t4 : ((al : Int) != (al : Int)) = false := by simp
            have HS := Lib.hid hsame
            clear hsame
            have HF := Lib.hid (And.intro hf1 ok1)
            obtain ⟨⟨z0, z1, -, -⟩, z2⟩ := hf1
            simp only at z0 z1 z2
            have u0 : decide ((c' : Int) < 2400) = false := decide_eq_false (by omega)
            have u1 : decide ((16777216 : Int) < (c' : Int)) = false := decide_eq_false (by omega)
            have u2 : decide ((1048576 : Int) < (al : Int)) = false := decide_eq_false (by omega)
            clear z0 z1 z2 ok1 hfine ok hka hkb a1 a3 hg0 hg1 hg2 hg3 hg4 hb2 ha2 hq hup hk1
            have d00 := (B20.out.cell HBB0.out).trans E0.out
            obtain ⟨kc0, kc1, kc2, kc3, kc4, kc5, kc6, kc7, kc8, -, -, -, -, -, -, -, -, -⟩ := XC20.out
            go_upto_region 7 with fail
            clear d00
            obtain ⟨w21, hw⟩ : ∃ wx, wx = wr.alloc (.cells #[.int .u64 (c : Int), .int .u64 (t : Int), .int .u64 (s : Int), .int .u64 (r : Int), .int .u64 (al : Int), .int .u64 (ac : Int), .int .u64 (mk : Int), .int .u64 (en : Int), .bool cu] 26) := ⟨_, rfl⟩
            rw [← hw]
            obtain ⟨pV, hp⟩ : ∃ px, px = wr.heap.size := ⟨_, rfl⟩
            rw [← hp]
            have hb : Below wr.heap.size wr w21 := by rw [hw]; exact (Below.refl _ _).alloc (Nat.le_refl _) _
            have hx : BxPg pV c t s r al ac mk en cu w21 := by rw [hp, hw]; exact BxPg.new _ c t s r al ac mk en cu
            have hs : pV < w21.heap.size := by rw [hp, hw]; simp
            have GV := Lib.hid (show w.heap.size ≤ pV by rw [hp]; exact B20.out.size)
            have OCV := Lib.hid (show pC < pV by rw [hp]; exact SC20.out)
            have B21 := Lib.hid (below_trans' B20.out hb)
            have XC21 := Lib.hid (XC20.out.below hb SC20.out)
            have SC21 := Lib.hid (Nat.lt_of_lt_of_le SC20.out hb.size)
            clear kc0 kc1 kc2 kc3 kc4 kc5 kc6 kc7 kc8
            clear hb B20 XC20 SC20
            have XV21 := Lib.hid hx
            have SV21 := Lib.hid hs
            clear hx hs hw hp
            have d00 := (B21.out.cell HBB0.out).trans E0.out
            go_upto_region 13 with fail
            clear d00
            obtain ⟨c0, c1, c2, c3, c4, c5, c6, c7, c8, -, -, -, -, -, -, -, -, -⟩ := XC21.out
            refine wp_region_held_drew (S := fun wx => wx.cell? ⟨bb, off + k * 13 + 11, none⟩ = some (.int .u64 (b2 : Int)) ∧ wx.cell? ⟨bb, off + k * 13 + 12, none⟩ = some (.int .u64 (a2 : Int))) (by kernel_rfl) ?_ (fun hHeld => ?_)
            · exact ⟨(B21.out.drew.cell HBB11.out).trans E11.out, (B21.out.drew.cell HBB12.out).trans E12.out⟩
            refine held_take (v := ?vv110) 1 rfl (by kernel_rfl) (by kernel_rfl) (by kernel_rfl) (fun _ _ _ h => h) (by rfl) ?yy110 (by assumption) ?nn110
            case yy110 =>
              intro w hSw
              (try dsimp only at hSw)
              go_simp
              try with_reducible rfl
            try simp only [Act.put, List.setIfInBounds_toArray, List.set_cons_zero, List.set_cons_succ]
            refine held_take (v := ?vv111) 2 rfl (by kernel_rfl) (by kernel_rfl) (by kernel_rfl) (fun _ _ _ h => h) (by rfl) ?yy111 (by assumption) ?nn111
            case yy111 =>
              intro w hSw
              (try dsimp only at hSw)
              go_simp
              try with_reducible rfl
            try simp only [Act.put, List.setIfInBounds_toArray, List.set_cons_zero, List.set_cons_succ]
            refine held_take (v := ?vv112) 3 rfl (by kernel_rfl) (by kernel_rfl) (by kernel_rfl) (fun _ _ _ h => h) (by rfl) ?yy112 (by assumption) ?nn112
            case yy112 =>
              intro w hSw
              (try dsimp only at hSw)
              go_simp
              try with_reducible rfl
            try simp only [Act.put, List.setIfInBounds_toArray, List.set_cons_zero, List.set_cons_succ]
            refine held_take (v := ?vv113) 4 rfl (by kernel_rfl) (by kernel_rfl) (by kernel_rfl) (fun _ _ _ h => h) (by rfl) ?yy113 (by assumption) ?nn113
            case yy113 =>
              intro w hSw
              (try dsimp only at hSw)
              go_simp
              try with_reducible rfl
            try simp only [Act.put, List.setIfInBounds_toArray, List.set_cons_zero, List.set_cons_succ]
            refine held_take (v := .int .u64 (b2 : Int)) 5 rfl (by kernel_rfl) (by kernel_rfl) (by kernel_rfl) (fun _ _ _ h => h) (by rfl) (fun wx hSw => by have a0 := hSw.1; clear hSw; (try dsimp only at a0); go_simp) (by assumption) ?_
            try simp only [Act.put, List.setIfInBounds_toArray, List.set_cons_zero, List.set_cons_succ]
            refine held_take (v := ?vv115) 6 rfl (by kernel_rfl) (by kernel_rfl) (by kernel_rfl) (fun _ _ _ h => h) (by rfl) ?yy115 (by assumption) ?nn115
            case yy115 =>
              intro w hSw
              (try dsimp only at hSw)
              go_simp
              try with_reducible rfl
            try simp only [Act.put, List.setIfInBounds_toArray, List.set_cons_zero, List.set_cons_succ]
            refine held_take (v := ?vv116) 7 rfl (by kernel_rfl) (by kernel_rfl) (by kernel_rfl) (fun _ _ _ h => h) (by rfl) ?yy116 (by assumption) ?nn116
            case yy116 =>
              intro w hSw
              (try dsimp only at hSw)
              go_simp
              try with_reducible rfl
            try simp only [Act.put, List.setIfInBounds_toArray, List.set_cons_zero, List.set_cons_succ]
            refine held_take (v := ?vv117) 8 rfl (by kernel_rfl) (by kernel_rfl) (by kernel_rfl) (fun _ _ _ h => h) (by rfl) ?yy117 (by assumption) ?nn117
            case yy117 =>
              intro w hSw
              (try dsimp only at hSw)
              go_simp
              try with_reducible rfl
            try simp only [Act.put, List.setIfInBounds_toArray, List.set_cons_zero, List.set_cons_succ]
            refine held_take (v := ?vv118) 9 rfl (by kernel_rfl) (by kernel_rfl) (by kernel_rfl) (fun _ _ _ h => h) (by rfl) ?yy118 (by assumption) ?nn118
            case yy118 =>
              intro w hSw
              (try dsimp only at hSw)
              go_simp
              try with_reducible rfl
            try simp only [Act.put, List.setIfInBounds_toArray, List.set_cons_zero, List.set_cons_succ]
            refine held_take (v := .int .u64 (a2 : Int)) 10 rfl (by kernel_rfl) (by kernel_rfl) (by kernel_rfl) (fun _ _ _ h => h) (by rfl) (fun wx hSw => by have a0 := hSw.2; clear hSw; (try dsimp only at a0); go_simp) (by assumption) ?_
            try simp only [Act.put, List.setIfInBounds_toArray, List.set_cons_zero, List.set_cons_succ]
            refine held_do 0 rfl (by kernel_rfl) (by rfl) (fun K hK => ?_)
            go_wp2_with fail
            refine hK.out _ _ ?_ (fun hHeld => ?_)
            · exact ⟨(B21.out.drew.cell HBB11.out).trans E11.out, (B21.out.drew.cell HBB12.out).trans E12.out⟩
            clear hK K
            try simp only [Act.put, List.setIfInBounds_toArray, List.set_cons_zero, List.set_cons_succ]
            refine held_do 11 rfl (by kernel_rfl) (by rfl) (fun K hK => ?_)
            go_wp2_with (go_at_call 11; refine (C2.out _).mono ?_; rintro e w22 ⟨rfl, hb22⟩; have HB := Lib.hid hb22; clear hb22)
            refine hK.out _ _ ?_ (fun hHeld => ?_)
            · exact ⟨((below_trans' B21.out.drew HB.out).cell HBB11.out).trans E11.out, ((below_trans' B21.out.drew HB.out).cell HBB12.out).trans E12.out⟩
            clear hK K
            try simp only [Act.put, List.setIfInBounds_toArray, List.set_cons_zero, List.set_cons_succ]
            have B22 := Lib.hid (below_trans' B21.out.drew HB.out)
            have XC22 := Lib.hid (XC21.out.drew.below HB.out SC21.out)
            have SC22 := Lib.hid (Nat.lt_of_lt_of_le SC21.out HB.out.size)
            have XV22 := Lib.hid (XV21.out.drew.below HB.out SV21.out)
            have SV22 := Lib.hid (Nat.lt_of_lt_of_le SV21.out HB.out.size)
            clear c0 c1 c2 c3 c4 c5 c6 c7 c8
            clear HB B21 XC21 SC21 XV21 SV21
            obtain ⟨c0, c1, c2, c3, c4, c5, c6, c7, c8, cf0, cf1, cf2, cf3, cf4, cf5, cf6, cf7, cf8⟩ := XC22.out
            refine held_do 12 rfl (by kernel_rfl) (by rfl) (fun K hK => ?_)
            go_wp2_with fail
            refine hK.out _ _ ?_ (fun hHeld => ?_)
            · exact ⟨((B22.out.trans (putPg_below (p := pC) GC.out)).cell HBB11.out).trans E11.out, ((B22.out.trans (putPg_below (p := pC) GC.out)).cell HBB12.out).trans E12.out⟩
            clear hK K
            try simp only [Act.put, List.setIfInBounds_toArray, List.set_cons_zero, List.set_cons_succ]
            refine wpAnyH_done (by kernel_rfl) ?_ _
            clear hHeld
            obtain ⟨w23, hw⟩ : ∃ wx, wx = putPg pC c' t' s' r' al ac' mk' en' cu' w22 := ⟨_, rfl⟩
            have XC23 := Lib.hid (show BxPg pC c' t' s' r' al ac' mk' en' cu' w23 by rw [hw]; exact XC22.out.put)
            have B23 := Lib.hid (show Below w.heap.size w w23 by rw [hw]; exact B22.out.trans (putPg_below GC.out))
            have hz : w22.heap.size ≤ w23.heap.size := by rw [hw]; exact (putPg_below (B := 0) (Nat.zero_le _)).size
            have SC23 := Lib.hid (Nat.lt_of_lt_of_le SC22.out hz)
            have XV23 := Lib.hid (show BxPg pV c t s r al ac mk en cu w23 by rw [hw]; unfold putPg; exact (((((((((XV22.out.other rfl (Nat.ne_of_lt OCV.out)).other rfl (Nat.ne_of_lt OCV.out)).other rfl (Nat.ne_of_lt OCV.out)).other rfl (Nat.ne_of_lt OCV.out)).other rfl (Nat.ne_of_lt OCV.out)).other rfl (Nat.ne_of_lt OCV.out)).other rfl (Nat.ne_of_lt OCV.out)).other rfl (Nat.ne_of_lt OCV.out)).other rfl (Nat.ne_of_lt OCV.out)))
            have SV23 := Lib.hid (Nat.lt_of_lt_of_le SV22.out hz)
            rw [show ((((((((w22.setCell ⟨pC, 0, none⟩ (.int .u64 (c' : Int))).setCell ⟨pC, 1, none⟩ (.int .u64 (t' : Int))).setCell ⟨pC, 2, none⟩ (.int .u64 (s' : Int))).setCell ⟨pC, 3, none⟩ (.int .u64 (r' : Int))).setCell ⟨pC, 4, none⟩ (.int .u64 (al : Int))).setCell ⟨pC, 5, none⟩ (.int .u64 (ac' : Int))).setCell ⟨pC, 6, none⟩ (.int .u64 (mk' : Int))).setCell ⟨pC, 7, none⟩ (.int .u64 (en' : Int))).setCell ⟨pC, 8, none⟩ (.bool cu') = w23 from hw.symm]
            clear c0 c1 c2 c3 c4 c5 c6 c7 c8 cf0 cf1 cf2 cf3 cf4 cf5 cf6 cf7 cf8
            clear hw hz B22 XC22 SC22 XV22 SV22
            cases cu with
            | true =>
              have hs := HS.out rfl
              injection hs with s1 s2 s3 s4
              subst s1 s2 s3 s4
              clear HS
              have rn := Rno.reno_ne c' t' s' r'
              have rg := Rno.reno_guard
              obtain ⟨c0, c1, c2, c3, c4, c5, c6, c7, c8, -, -, -, -, -, -, -, -, -⟩ := XC23.out
              obtain ⟨v0, v1, v2, v3, v4, v5, v6, v7, v8, -, -, -, -, -, -, -, -, -⟩ := XV23.out
              have RZ := Lib.hid (show HoRel m pC w (.int .i64 (k1 : Int)) w23 from ⟨k1, c', t', s', r', al, ac', mk', en', cu', HR.out.1, HR.out.2.1, rfl, HF.out.1, HF.out.2, XC23.out, SC23.out, B23.out⟩)
              go_wp2_with fail
              go_roundw
              case rel => exact RZ.out
              case measure => have := HR.out; simp [intOf]; omega
            | false =>
              clear HS
              obtain ⟨c0, c1, c2, c3, c4, c5, c6, c7, c8, -, -, -, -, -, -, -, -, -⟩ := XC23.out
              obtain ⟨v0, v1, v2, v3, v4, v5, v6, v7, v8, -, -, -, -, -, -, -, -, -⟩ := XV23.out
              have RZ := Lib.hid (show HoRel m pC w (.int .i64 (k1 : Int)) w23 from ⟨k1, c', t', s', r', al, ac', mk', en', cu', HR.out.1, HR.out.2.1, rfl, HF.out.1, HF.out.2, XC23.out, SC23.out, B23.out⟩)
              go_wp2_with fail
              go_roundw
              case rel => exact RZ.out
              case measure => have := HR.out; simp [intOf]; omega
          · by_cases hk3 : kd = 3
            · subst hk3
              have d1 : ((3 : Int) == 1) = false := by decide
              have d2 : ((3 : Int) == 2) = false := by decide
              obtain ⟨⟨⟨c', t', s', r'⟩, al', ac', mk', en', cu'⟩, hq⟩ : ∃ q, Wig.gloss ⟨⟨c, t, s, r⟩, al, ac, mk, en, cu⟩ a2 g0 = q := ⟨_, rfl⟩
              obtain ⟨hf1, hup⟩ := Wig.gfine_loss hfine a2 g0
              have ok1 := Wig.gloss_ok (a := a2) (n := g0) ok
              rw [hq] at hf1 hup ok1
              simp only at hup
              have C2 := Lib.hid (fun w => loss_any c t s r al ac mk en cu a2 g0 c' t' s' r' al' ac' mk' en' cu' w ok ha2 hg0 hq)
              have t3 : decide (c < c') = false := decide_eq_false (by omega)
              have HF := Lib.hid (And.intro hf1 ok1)
              obtain ⟨⟨z0, z1, -, -⟩, z2⟩ := hf1
              simp only at z0 z1 z2
              have u0 : decide ((c' : Int) < 2400) = false := decide_eq_false (by omega)
              have u1 : decide ((16777216 : Int) < (c' : Int)) = false := decide_eq_false (by omega)
              have u2 : decide ((1048576 : Int) < (al' : Int)) = false := decide_eq_false (by omega)
              clear z0 z1 z2 ok1 hfine ok hka hkb a1 a3 hg0 hg1 hg2 hg3 hg4 hb2 ha2 hq hup hk1 hk2
              have d00 := (B20.out.cell HBB0.out).trans E0.out
              obtain ⟨kc0, kc1, kc2, kc3, kc4, kc5, kc6, kc7, kc8, -, -, -, -, -, -, -, -, -⟩ := XC20.out
              go_upto_region 7 with fail
              clear d00
              obtain ⟨w21, hw⟩ : ∃ wx, wx = wr.alloc (.cells #[.int .u64 (c : Int), .int .u64 (t : Int), .int .u64 (s : Int), .int .u64 (r : Int), .int .u64 (al : Int), .int .u64 (ac : Int), .int .u64 (mk : Int), .int .u64 (en : Int), .bool cu] 26) := ⟨_, rfl⟩
              rw [← hw]
              obtain ⟨pV, hp⟩ : ∃ px, px = wr.heap.size := ⟨_, rfl⟩
              rw [← hp]
              have hb : Below wr.heap.size wr w21 := by rw [hw]; exact (Below.refl _ _).alloc (Nat.le_refl _) _
              have hx : BxPg pV c t s r al ac mk en cu w21 := by rw [hp, hw]; exact BxPg.new _ c t s r al ac mk en cu
              have hs : pV < w21.heap.size := by rw [hp, hw]; simp
              have GV := Lib.hid (show w.heap.size ≤ pV by rw [hp]; exact B20.out.size)
              have OCV := Lib.hid (show pC < pV by rw [hp]; exact SC20.out)
              have B21 := Lib.hid (below_trans' B20.out hb)
              have XC21 := Lib.hid (XC20.out.below hb SC20.out)
              have SC21 := Lib.hid (Nat.lt_of_lt_of_le SC20.out hb.size)
              clear kc0 kc1 kc2 kc3 kc4 kc5 kc6 kc7 kc8
              clear hb B20 XC20 SC20
              have XV21 := Lib.hid hx
              have SV21 := Lib.hid hs
              clear hx hs hw hp
              have d00 := (B21.out.cell HBB0.out).trans E0.out
              go_upto_region 17 with fail
              clear d00
              obtain ⟨c0, c1, c2, c3, c4, c5, c6, c7, c8, -, -, -, -, -, -, -, -, -⟩ := XC21.out
              refine wp_region_held_drew (S := fun wx => wx.cell? ⟨bb, off + k * 13 + 12, none⟩ = some (.int .u64 (a2 : Int)) ∧ wx.cell? ⟨bb, off + k * 13 + 1, none⟩ = some (.int .u64 (g0 : Int))) (by kernel_rfl) ?_ (fun hHeld => ?_)
              · exact ⟨(B21.out.drew.cell HBB12.out).trans E12.out, (B21.out.drew.cell HBB1.out).trans E1.out⟩
              refine held_take (v := ?vv124) 1 rfl (by kernel_rfl) (by kernel_rfl) (by kernel_rfl) (fun _ _ _ h => h) (by rfl) ?yy124 (by assumption) ?nn124
              case yy124 =>
                intro w hSw
                (try dsimp only at hSw)
                go_simp
                try with_reducible rfl
              try simp only [Act.put, List.setIfInBounds_toArray, List.set_cons_zero, List.set_cons_succ]
              refine held_take (v := ?vv125) 2 rfl (by kernel_rfl) (by kernel_rfl) (by kernel_rfl) (fun _ _ _ h => h) (by rfl) ?yy125 (by assumption) ?nn125
              case yy125 =>
                intro w hSw
                (try dsimp only at hSw)
                go_simp
                try with_reducible rfl
              try simp only [Act.put, List.setIfInBounds_toArray, List.set_cons_zero, List.set_cons_succ]
              refine held_take (v := ?vv126) 3 rfl (by kernel_rfl) (by kernel_rfl) (by kernel_rfl) (fun _ _ _ h => h) (by rfl) ?yy126 (by assumption) ?nn126
              case yy126 =>
                intro w hSw
                (try dsimp only at hSw)
                go_simp
                try with_reducible rfl
              try simp only [Act.put, List.setIfInBounds_toArray, List.set_cons_zero, List.set_cons_succ]
              refine held_take (v := ?vv127) 4 rfl (by kernel_rfl) (by kernel_rfl) (by kernel_rfl) (fun _ _ _ h => h) (by rfl) ?yy127 (by assumption) ?nn127
              case yy127 =>
                intro w hSw
                (try dsimp only at hSw)
                go_simp
                try with_reducible rfl
              try simp only [Act.put, List.setIfInBounds_toArray, List.set_cons_zero, List.set_cons_succ]
              refine held_take (v := .int .u64 (a2 : Int)) 5 rfl (by kernel_rfl) (by kernel_rfl) (by kernel_rfl) (fun _ _ _ h => h) (by rfl) (fun wx hSw => by have a0 := hSw.1; clear hSw; (try dsimp only at a0); go_simp) (by assumption) ?_
              try simp only [Act.put, List.setIfInBounds_toArray, List.set_cons_zero, List.set_cons_succ]
              refine held_take (v := ?vv129) 6 rfl (by kernel_rfl) (by kernel_rfl) (by kernel_rfl) (fun _ _ _ h => h) (by rfl) ?yy129 (by assumption) ?nn129
              case yy129 =>
                intro w hSw
                (try dsimp only at hSw)
                go_simp
                try with_reducible rfl
              try simp only [Act.put, List.setIfInBounds_toArray, List.set_cons_zero, List.set_cons_succ]
              refine held_take (v := ?vv130) 7 rfl (by kernel_rfl) (by kernel_rfl) (by kernel_rfl) (fun _ _ _ h => h) (by rfl) ?yy130 (by assumption) ?nn130
              case yy130 =>
                intro w hSw
                (try dsimp only at hSw)
                go_simp
                try with_reducible rfl
              try simp only [Act.put, List.setIfInBounds_toArray, List.set_cons_zero, List.set_cons_succ]
              refine held_take (v := ?vv131) 8 rfl (by kernel_rfl) (by kernel_rfl) (by kernel_rfl) (fun _ _ _ h => h) (by rfl) ?yy131 (by assumption) ?nn131
              case yy131 =>
                intro w hSw
                (try dsimp only at hSw)
                go_simp
                try with_reducible rfl
              try simp only [Act.put, List.setIfInBounds_toArray, List.set_cons_zero, List.set_cons_succ]
              refine held_take (v := ?vv132) 9 rfl (by kernel_rfl) (by kernel_rfl) (by kernel_rfl) (fun _ _ _ h => h) (by rfl) ?yy132 (by assumption) ?nn132
              case yy132 =>
                intro w hSw
                (try dsimp only at hSw)
                go_simp
                try with_reducible rfl
              try simp only [Act.put, List.setIfInBounds_toArray, List.set_cons_zero, List.set_cons_succ]
              refine held_take (v := ?vv133) 10 rfl (by kernel_rfl) (by kernel_rfl) (by kernel_rfl) (fun _ _ _ h => h) (by rfl) ?yy133 (by assumption) ?nn133
              case yy133 =>
                intro w hSw
                (try dsimp only at hSw)
                go_simp
                try with_reducible rfl
              try simp only [Act.put, List.setIfInBounds_toArray, List.set_cons_zero, List.set_cons_succ]
              refine held_take (v := .int .u64 (g0 : Int)) 11 rfl (by kernel_rfl) (by kernel_rfl) (by kernel_rfl) (fun _ _ _ h => h) (by rfl) (fun wx hSw => by have a0 := hSw.2; clear hSw; (try dsimp only at a0); go_simp) (by assumption) ?_
              try simp only [Act.put, List.setIfInBounds_toArray, List.set_cons_zero, List.set_cons_succ]
              refine held_do 0 rfl (by kernel_rfl) (by rfl) (fun K hK => ?_)
              go_wp2_with fail
              refine hK.out _ _ ?_ (fun hHeld => ?_)
              · exact ⟨(B21.out.drew.cell HBB12.out).trans E12.out, (B21.out.drew.cell HBB1.out).trans E1.out⟩
              clear hK K
              try simp only [Act.put, List.setIfInBounds_toArray, List.set_cons_zero, List.set_cons_succ]
              refine held_do 12 rfl (by kernel_rfl) (by rfl) (fun K hK => ?_)
              go_wp2_with (go_at_call 13; refine (C2.out _).mono ?_; rintro e w22 ⟨rfl, hb22⟩; have HB := Lib.hid hb22; clear hb22)
              refine hK.out _ _ ?_ (fun hHeld => ?_)
              · exact ⟨((below_trans' B21.out.drew HB.out).cell HBB12.out).trans E12.out, ((below_trans' B21.out.drew HB.out).cell HBB1.out).trans E1.out⟩
              clear hK K
              try simp only [Act.put, List.setIfInBounds_toArray, List.set_cons_zero, List.set_cons_succ]
              have B22 := Lib.hid (below_trans' B21.out.drew HB.out)
              have XC22 := Lib.hid (XC21.out.drew.below HB.out SC21.out)
              have SC22 := Lib.hid (Nat.lt_of_lt_of_le SC21.out HB.out.size)
              have XV22 := Lib.hid (XV21.out.drew.below HB.out SV21.out)
              have SV22 := Lib.hid (Nat.lt_of_lt_of_le SV21.out HB.out.size)
              clear c0 c1 c2 c3 c4 c5 c6 c7 c8
              clear HB B21 XC21 SC21 XV21 SV21
              obtain ⟨c0, c1, c2, c3, c4, c5, c6, c7, c8, cf0, cf1, cf2, cf3, cf4, cf5, cf6, cf7, cf8⟩ := XC22.out
              refine held_do 13 rfl (by kernel_rfl) (by rfl) (fun K hK => ?_)
              go_wp2_with fail
              refine hK.out _ _ ?_ (fun hHeld => ?_)
              · exact ⟨((B22.out.trans (putPg_below (p := pC) GC.out)).cell HBB12.out).trans E12.out, ((B22.out.trans (putPg_below (p := pC) GC.out)).cell HBB1.out).trans E1.out⟩
              clear hK K
              try simp only [Act.put, List.setIfInBounds_toArray, List.set_cons_zero, List.set_cons_succ]
              refine wpAnyH_done (by kernel_rfl) ?_ _
              clear hHeld
              obtain ⟨w23, hw⟩ : ∃ wx, wx = putPg pC c' t' s' r' al' ac' mk' en' cu' w22 := ⟨_, rfl⟩
              have XC23 := Lib.hid (show BxPg pC c' t' s' r' al' ac' mk' en' cu' w23 by rw [hw]; exact XC22.out.put)
              have B23 := Lib.hid (show Below w.heap.size w w23 by rw [hw]; exact B22.out.trans (putPg_below GC.out))
              have hz : w22.heap.size ≤ w23.heap.size := by rw [hw]; exact (putPg_below (B := 0) (Nat.zero_le _)).size
              have SC23 := Lib.hid (Nat.lt_of_lt_of_le SC22.out hz)
              have XV23 := Lib.hid (show BxPg pV c t s r al ac mk en cu w23 by rw [hw]; unfold putPg; exact (((((((((XV22.out.other rfl (Nat.ne_of_lt OCV.out)).other rfl (Nat.ne_of_lt OCV.out)).other rfl (Nat.ne_of_lt OCV.out)).other rfl (Nat.ne_of_lt OCV.out)).other rfl (Nat.ne_of_lt OCV.out)).other rfl (Nat.ne_of_lt OCV.out)).other rfl (Nat.ne_of_lt OCV.out)).other rfl (Nat.ne_of_lt OCV.out)).other rfl (Nat.ne_of_lt OCV.out)))
              have SV23 := Lib.hid (Nat.lt_of_lt_of_le SV22.out hz)
              rw [show ((((((((w22.setCell ⟨pC, 0, none⟩ (.int .u64 (c' : Int))).setCell ⟨pC, 1, none⟩ (.int .u64 (t' : Int))).setCell ⟨pC, 2, none⟩ (.int .u64 (s' : Int))).setCell ⟨pC, 3, none⟩ (.int .u64 (r' : Int))).setCell ⟨pC, 4, none⟩ (.int .u64 (al' : Int))).setCell ⟨pC, 5, none⟩ (.int .u64 (ac' : Int))).setCell ⟨pC, 6, none⟩ (.int .u64 (mk' : Int))).setCell ⟨pC, 7, none⟩ (.int .u64 (en' : Int))).setCell ⟨pC, 8, none⟩ (.bool cu') = w23 from hw.symm]
              clear c0 c1 c2 c3 c4 c5 c6 c7 c8 cf0 cf1 cf2 cf3 cf4 cf5 cf6 cf7 cf8
              clear hw hz B22 XC22 SC22 XV22 SV22
              obtain ⟨c0, c1, c2, c3, c4, c5, c6, c7, c8, -, -, -, -, -, -, -, -, -⟩ := XC23.out
              obtain ⟨v0, v1, v2, v3, v4, v5, v6, v7, v8, -, -, -, -, -, -, -, -, -⟩ := XV23.out
              have RZ := Lib.hid (show HoRel m pC w (.int .i64 (k1 : Int)) w23 from ⟨k1, c', t', s', r', al', ac', mk', en', cu', HR.out.1, HR.out.2.1, rfl, HF.out.1, HF.out.2, XC23.out, SC23.out, B23.out⟩)
              go_wp2_with fail
              go_roundw
              case rel => exact RZ.out
              case measure => have := HR.out; simp [intOf]; omega
            · by_cases hk4 : kd = 4
              · subst hk4
                have d1 : ((4 : Int) == 1) = false := by decide
                have d2 : ((4 : Int) == 2) = false := by decide
                have d3 : ((4 : Int) == 3) = false := by decide
                have hf1 : Wig.GFine ⟨⟨2400, t, 0, 0⟩, al, ac, mk, en, cu⟩ := Wig.gfine_coll hfine
                have ok1 : Wig.Pg.Ok ⟨⟨2400, t, 0, 0⟩, al, ac, mk, en, cu⟩ := Wig.gcoll_ok ok
                have C2 := Lib.hid (fun w => coll_any c t s r al ac mk en cu w)
                have HF := Lib.hid (And.intro hf1 ok1)
                obtain ⟨⟨z0, z1, -, -⟩, z2⟩ := hf1
                simp only at z0 z1 z2
                have u2 : decide ((1048576 : Int) < (al : Int)) = false := decide_eq_false (by omega)
                clear z0 z1 z2 ok1 hfine ok hka hkb a1 a3 hg0 hg1 hg2 hg3 hg4 hb2 ha2  hk1 hk2 hk3
                have d00 := (B20.out.cell HBB0.out).trans E0.out
                obtain ⟨kc0, kc1, kc2, kc3, kc4, kc5, kc6, kc7, kc8, -, -, -, -, -, -, -, -, -⟩ := XC20.out
                go_upto_region 7 with fail
                clear d00
                obtain ⟨w21, hw⟩ : ∃ wx, wx = wr.alloc (.cells #[.int .u64 (c : Int), .int .u64 (t : Int), .int .u64 (s : Int), .int .u64 (r : Int), .int .u64 (al : Int), .int .u64 (ac : Int), .int .u64 (mk : Int), .int .u64 (en : Int), .bool cu] 26) := ⟨_, rfl⟩
                rw [← hw]
                obtain ⟨pV, hp⟩ : ∃ px, px = wr.heap.size := ⟨_, rfl⟩
                rw [← hp]
                have hb : Below wr.heap.size wr w21 := by rw [hw]; exact (Below.refl _ _).alloc (Nat.le_refl _) _
                have hx : BxPg pV c t s r al ac mk en cu w21 := by rw [hp, hw]; exact BxPg.new _ c t s r al ac mk en cu
                have hs : pV < w21.heap.size := by rw [hp, hw]; simp
                have GV := Lib.hid (show w.heap.size ≤ pV by rw [hp]; exact B20.out.size)
                have OCV := Lib.hid (show pC < pV by rw [hp]; exact SC20.out)
                have B21 := Lib.hid (below_trans' B20.out hb)
                have XC21 := Lib.hid (XC20.out.below hb SC20.out)
                have SC21 := Lib.hid (Nat.lt_of_lt_of_le SC20.out hb.size)
                clear kc0 kc1 kc2 kc3 kc4 kc5 kc6 kc7 kc8
                clear hb B20 XC20 SC20
                have XV21 := Lib.hid hx
                have SV21 := Lib.hid hs
                clear hx hs hw hp
                have d00 := (B21.out.cell HBB0.out).trans E0.out
                obtain ⟨c0, c1, c2, c3, c4, c5, c6, c7, c8, -, -, -, -, -, -, -, -, -⟩ := XC21.out
                go_wp2_with fail
                clear d00
                refine (C2.out _).mono ?_
                rintro e w22 ⟨rfl, hb⟩
                have B22 := Lib.hid (below_trans' B21.out hb)
                have XC22 := Lib.hid (XC21.out.below hb SC21.out)
                have SC22 := Lib.hid (Nat.lt_of_lt_of_le SC21.out hb.size)
                have XV22 := Lib.hid (XV21.out.below hb SV21.out)
                have SV22 := Lib.hid (Nat.lt_of_lt_of_le SV21.out hb.size)
                clear c0 c1 c2 c3 c4 c5 c6 c7 c8
                clear hb B21 XC21 SC21 XV21 SV21
                obtain ⟨c0, c1, c2, c3, c4, c5, c6, c7, c8, cf0, cf1, cf2, cf3, cf4, cf5, cf6, cf7, cf8⟩ := XC22.out
                go_upto_region 22 with fail
                obtain ⟨w23, hw⟩ : ∃ wx, wx = putPg pC 2400 t 0 0 al ac mk en cu w22 := ⟨_, rfl⟩
                have XC23 := Lib.hid (show BxPg pC 2400 t 0 0 al ac mk en cu w23 by rw [hw]; exact XC22.out.put)
                have B23 := Lib.hid (show Below w.heap.size w w23 by rw [hw]; exact B22.out.trans (putPg_below GC.out))
                have hz : w22.heap.size ≤ w23.heap.size := by rw [hw]; exact (putPg_below (B := 0) (Nat.zero_le _)).size
                have SC23 := Lib.hid (Nat.lt_of_lt_of_le SC22.out hz)
                have XV23 := Lib.hid (show BxPg pV c t s r al ac mk en cu w23 by rw [hw]; unfold putPg; exact (((((((((XV22.out.other rfl (Nat.ne_of_lt OCV.out)).other rfl (Nat.ne_of_lt OCV.out)).other rfl (Nat.ne_of_lt OCV.out)).other rfl (Nat.ne_of_lt OCV.out)).other rfl (Nat.ne_of_lt OCV.out)).other rfl (Nat.ne_of_lt OCV.out)).other rfl (Nat.ne_of_lt OCV.out)).other rfl (Nat.ne_of_lt OCV.out)).other rfl (Nat.ne_of_lt OCV.out)))
                have SV23 := Lib.hid (Nat.lt_of_lt_of_le SV22.out hz)
                rw [show ((((((((w22.setCell ⟨pC, 0, none⟩ (.int .u64 2400)).setCell ⟨pC, 1, none⟩ (.int .u64 (t : Int))).setCell ⟨pC, 2, none⟩ (.int .u64 0)).setCell ⟨pC, 3, none⟩ (.int .u64 0)).setCell ⟨pC, 4, none⟩ (.int .u64 (al : Int))).setCell ⟨pC, 5, none⟩ (.int .u64 (ac : Int))).setCell ⟨pC, 6, none⟩ (.int .u64 (mk : Int))).setCell ⟨pC, 7, none⟩ (.int .u64 (en : Int))).setCell ⟨pC, 8, none⟩ (.bool cu) = w23 from hw.symm]
                clear c0 c1 c2 c3 c4 c5 c6 c7 c8 cf0 cf1 cf2 cf3 cf4 cf5 cf6 cf7 cf8
                clear hw hz B22 XC22 SC22 XV22 SV22
                obtain ⟨c0, c1, c2, c3, c4, c5, c6, c7, c8, -, -, -, -, -, -, -, -, -⟩ := XC23.out
                have RZ := Lib.hid (show HoRel m pC w (.int .i64 (k1 : Int)) w23 from ⟨k1, 2400, t, 0, 0, al, ac, mk, en, cu, HR.out.1, HR.out.2.1, rfl, HF.out.1, HF.out.2, XC23.out, SC23.out, B23.out⟩)
                go_wp2_with fail
                go_roundw
                case rel => exact RZ.out
                case measure => have := HR.out; simp [intOf]; omega
              · have d1 : (kd == (1 : Int)) = false := by simpa using hk1
                have d2 : (kd == (2 : Int)) = false := by simpa using hk2
                have d3 : (kd == (3 : Int)) = false := by simpa using hk3
                have d4 : (kd == (4 : Int)) = false := by simpa using hk4
                have hf1 := hfine
                have ok1 := ok
                have HF := Lib.hid (And.intro hf1 ok1)
                obtain ⟨⟨z0, z1, -, -⟩, z2⟩ := hf1
                simp only at z0 z1 z2
                have u0 : decide ((c : Int) < 2400) = false := decide_eq_false (by omega)
                have u1 : decide ((16777216 : Int) < (c : Int)) = false := decide_eq_false (by omega)
                have u2 : decide ((1048576 : Int) < (al : Int)) = false := decide_eq_false (by omega)
                clear z0 z1 z2 ok1 hfine ok hka hkb a1 a3 hg0 hg1 hg2 hg3 hg4 hb2 ha2  hk1 hk2 hk3 hk4
                have d00 := (B20.out.cell HBB0.out).trans E0.out
                obtain ⟨kc0, kc1, kc2, kc3, kc4, kc5, kc6, kc7, kc8, -, -, -, -, -, -, -, -, -⟩ := XC20.out
                go_upto_region 7 with fail
                clear d00
                obtain ⟨w21, hw⟩ : ∃ wx, wx = wr.alloc (.cells #[.int .u64 (c : Int), .int .u64 (t : Int), .int .u64 (s : Int), .int .u64 (r : Int), .int .u64 (al : Int), .int .u64 (ac : Int), .int .u64 (mk : Int), .int .u64 (en : Int), .bool cu] 26) := ⟨_, rfl⟩
                rw [← hw]
                obtain ⟨pV, hp⟩ : ∃ px, px = wr.heap.size := ⟨_, rfl⟩
                rw [← hp]
                have hb : Below wr.heap.size wr w21 := by rw [hw]; exact (Below.refl _ _).alloc (Nat.le_refl _) _
                have hx : BxPg pV c t s r al ac mk en cu w21 := by rw [hp, hw]; exact BxPg.new _ c t s r al ac mk en cu
                have hs : pV < w21.heap.size := by rw [hp, hw]; simp
                have GV := Lib.hid (show w.heap.size ≤ pV by rw [hp]; exact B20.out.size)
                have OCV := Lib.hid (show pC < pV by rw [hp]; exact SC20.out)
                have B21 := Lib.hid (below_trans' B20.out hb)
                have XC21 := Lib.hid (XC20.out.below hb SC20.out)
                have SC21 := Lib.hid (Nat.lt_of_lt_of_le SC20.out hb.size)
                clear kc0 kc1 kc2 kc3 kc4 kc5 kc6 kc7 kc8
                clear hb B20 XC20 SC20
                have XV21 := Lib.hid hx
                have SV21 := Lib.hid hs
                clear hx hs hw hp
                have d00 := (B21.out.cell HBB0.out).trans E0.out
                have c0 := XC21.out.c0
                have c4 := XC21.out.c4
                go_upto_region 22 with fail
                clear d00
                clear c0 c4
                obtain ⟨c0, c1, c2, c3, c4, c5, c6, c7, c8, -, -, -, -, -, -, -, -, -⟩ := XC21.out
                have RZ := Lib.hid (show HoRel m pC w (.int .i64 (k1 : Int)) w21 from ⟨k1, c, t, s, r, al, ac, mk, en, cu, HR.out.1, HR.out.2.1, rfl, HF.out.1, HF.out.2, XC21.out, SC21.out, B21.out⟩)
                go_wp2_with fail
                go_roundw
                case rel => exact RZ.out
                case measure => have := HR.out; simp [intOf]; omega
      · have t1 : decide (k < m) = true := decide_eq_true a1
        have t2 : decide ((k : Int) < 200) = false := decide_eq_false (by omega)
        clear hka hkb hfine ok a1 a3
        go_wp2_with fail
        go_ret
        exact ⟨rfl, B20.out⟩
    · have t1 : decide (k < m) = false := decide_eq_false (by omega)
      clear hka hkb hfine ok a1
      go_wp2_with fail
      go_ret
      exact ⟨rfl, B20.out⟩

set_option maxRecDepth 100000 in
theorem lifted (os : Os) (started : os.Started) (H : Type) (enc : TypeId × Value → H) :
    ReturnsInHanded {} Try.checked os 4 .any (Rows.pragueHoldsSpec.pre6 enc Try.prog Try.f4 Rows.pragueHoldsRow.domain false) (Rows.pragueHoldsSpec.post enc Try.prog Try.f4 false true false false) := by
  refine returnsInHanded_of_change (C := Try.checked) own started (by kernel_rfl) Try.func4
    (ChangeSpec.witness6 (enc := enc) (C := Try.checked) false ⟨#[], #[.int .u64 0, .slice none 0 0], []⟩ 8 (by kernel_rfl) (by kernel_rfl) (by kernel_rfl) (by kernel_rfl)) ?_
  intro W base args ds gs before hval0 hW hcnd _
  have hval : ∀ (j : Nat) t v, Try.f4.params[j]? = some t → args[j]? = some v → Value.okWide Try.prog W .any base t v := hval0
  have hW' := hW
  obtain ⟨p, q, hA0, hV, rfl, hfz, hnd⟩ := hW
  have hA : DataW.TrodAll enc Try.prog W 0 (fun _ => true) true Try.f4.params.toList args.toList ds p := hA0
  obtain ⟨rfl, rfl⟩ := trodVars_none hV
  simp only [List.append_nil] at hW'
  have hlow : ∀ x ∈ p, x.block < W.heap.size := fun x hx => hW'.lt x hx
  have hA2 := hA
  rw [Try.params4] at hval hA2
  obtain ⟨v0, vs0, d0, ds0, p0, q0, hargs, rfl, rfl, h0, r0⟩ := trodAll_cons hA2
  obtain ⟨v1, vs1, d1, ds1, p1, q1, rfl, rfl, rfl, h1, r1⟩ := trodAll_cons r0
  obtain ⟨rfl, rfl, rfl⟩ := trodAll_nil r1
  obtain rfl : args = #[v0, v1] := by cases args; simp_all
  obtain ⟨n0, rfl, hn0⟩ := open_u64 Try.underlying22 (hval 0 22 v0 rfl rfl) h0
  obtain ⟨A1, c1, ss1, rfl, hf1, hr1, hl1, hc1⟩ := open_evs Try.underlying35 (hval 1 35 v1 rfl rfl) h1 (fun x hx => hlow x (by simp [hx]))
  refine (walk n0 A1 c1 ss1 hn0 hf1 hl1 hc1 W hr1).mono fun e W' ⟨he, hg⟩ => ?_
  subst he
  exact ⟨_, rfl, law_true laid_out (by kernel_rfl) rfl Try.underlying4 (by kernel_rfl) hW' hA rfl rfl rfl hg⟩

theorem over : Rows.pragueHoldsRow.holds Try.pinned (OpenSpec.ofChange Rows.pragueHoldsSpec) :=
  OpenClaim.holds_of_wide 4 Try.f4 rfl rfl rfl rfl rfl rfl rfl ⟨rfl, rfl, rfl, rfl, rfl⟩ rfl rfl rfl rfl rfl (by kernel_rfl) Try.func4 (by kernel_rfl)
    (of_decide_eq_true (by kernel_rfl)) (by unfold Func.isWrapper; first | (rw [if_pos (by decide +kernel)]; kernel_rfl) | (rw [if_neg (by decide +kernel)]; exact ⟨rfl, rfl⟩))
    (fun os started H enc _ => lifted os started H enc)

/-- The statement. -/
theorem proved : Rows.PragueHoldsSaid := over
end Go.Proofs.Ytpdmepblmjjeeaa.pragueHolds
