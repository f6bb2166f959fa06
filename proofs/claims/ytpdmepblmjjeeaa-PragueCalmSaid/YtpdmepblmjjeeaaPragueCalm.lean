/-
  PragueCalm: without marks a window does just what chapter 10's does, whatever comes, and its share of marks falls with each round; at most two hundred events. No condition.
-/
import Derived.Test.YtpdmepblmjjeeaaPgW
import Derived.Test.YtpdmepblmjjeeaaOpen
import Derived.Test.YtpdmepblmjjeeaaEv14
import Derived.Test.YtpdmepblmjjeeaaRgn
import Derived.Deep.CutBlock
import Derived.Deep.DeepCutAuto
namespace Go.Proofs.Ytpdmepblmjjeeaa.pragueCalm
open Go.ChangeShapes Go.WideShapes Go.ChangeAt Go.RowKit Go.Deep
set_option linter.unusedVariables false

/-- At a round's head: what lies in the two boxes. -/
def CaRel (m p p' : Nat) (w : World) (i : Value) (wr : World) : Prop :=
  ∃ (k c t s r al ac en : Nat) (cu : Bool), k ≤ m ∧ k ≤ 200 ∧ i = .int .i64 (k : Int) ∧ al ≤ 1048576 ∧ Wig.Pg.Ok ⟨⟨c, t, s, r⟩, al, ac, 0, en, cu⟩ ∧ BxPg p c t s r al ac 0 en cu wr ∧ BxRn p' c t s r wr ∧ p < wr.heap.size ∧ p' < wr.heap.size ∧ Below w.heap.size w wr

set_option maxRecDepth 20000 in
set_option maxHeartbeats 16000000 in
theorem walk (t0 : Nat) (A0 : Option Addr) (c0 : Nat) (es : List Wig.Ev) (ht0 : t0 < 18446744073709551616) (hf : ∀ x ∈ es, Wig.Ev.Ok x) (hl : es.length ≤ maxLen) (hm : es.length ≤ c0) (w : World) (hr : RdEv w w.heap.size A0 es) :
    Calls Try.prog 5 #[.int .u64 (t0 : Int), .slice A0 es.length c0] w fun e w' => e = .returned (.bool true) ∧ Below w.heap.size w w' := by
  have C0 := Lib.hid (fun w => awake_any w)
  obtain ⟨m, hmx⟩ : ∃ m, m = es.length := ⟨_, rfl⟩
  rw [← hmx]
  rw [← hmx] at hl hm
  have HX := Lib.hid (And.intro hf hmx)
  have HD := Lib.hid hr
  have CN := Lib.hid (fun w0 => (show Calls Try.prog 17 #[.int .u64 (t0 : Int)] w0 fun e w' => e = .returned (.agg #[.int .u64 12000, .int .u64 16777216, .int .u64 0, .int .u64 0, .int .u64 1048576, .int .u64 0, .int .u64 0, .int .u64 (t0 : Int), .bool false]) ∧ Below w0.heap.size w0 w' from new_any t0 w0))
  have HT0 := Lib.hid ht0
  clear hf hl hm hmx hr ht0
  have CM := Lib.hid (fun w => Rno.new_any w)
  have B0 := Lib.hid (Below.refl w.heap.size w)
  go_enter Try.func5, Try.ntmps5
  go_wp2_with fail
  refine (C0.out _).mono ?_
  rintro e w1 ⟨rfl, hb⟩
  have B1 := Lib.hid (below_trans' B0.out hb)
  clear hb B0
  go_wp2_with fail
  refine (CN.out _).mono ?_
  rintro e w2 ⟨rfl, hb⟩
  have B2 := Lib.hid (below_trans' B1.out hb)
  clear hb B1
  go_upto_region 3 with fail
  obtain ⟨w3, hw⟩ : ∃ wx, wx = w2.alloc (.cells #[.int .u64 12000, .int .u64 16777216, .int .u64 0, .int .u64 0, .int .u64 1048576, .int .u64 0, .int .u64 0, .int .u64 (t0 : Int), .bool false] 26) := ⟨_, rfl⟩
  rw [← hw]
  obtain ⟨pC, hp⟩ : ∃ px, px = w2.heap.size := ⟨_, rfl⟩
  rw [← hp]
  have hb : Below w2.heap.size w2 w3 := by rw [hw]; exact (Below.refl _ _).alloc (Nat.le_refl _) _
  have hx : BxPg pC 12000 16777216 0 0 1048576 0 0 t0 false w3 := by rw [hp, hw]; exact BxPg.new _ 12000 16777216 0 0 1048576 0 0 t0 false
  have hs : pC < w3.heap.size := by rw [hp, hw]; simp
  have GC := Lib.hid (show w.heap.size ≤ pC by rw [hp]; exact B2.out.size)
  have B3 := Lib.hid (below_trans' B2.out hb)
  clear hb B2
  have XC3 := Lib.hid hx
  have SC3 := Lib.hid hs
  clear hx hs hw hp
  go_wp2_with fail
  refine (CM.out _).mono ?_
  rintro e w4 ⟨rfl, hb⟩
  have B4 := Lib.hid (below_trans' B3.out hb)
  have XC4 := Lib.hid (XC3.out.below hb SC3.out)
  have SC4 := Lib.hid (Nat.lt_of_lt_of_le SC3.out hb.size)
  clear hb B3 XC3 SC3
  go_upto_region 4 with fail
  obtain ⟨w5, hw⟩ : ∃ wx, wx = w4.alloc (.cells #[.int .u64 12000, .int .u64 16777216, .int .u64 0, .int .u64 0] 24) := ⟨_, rfl⟩
  rw [← hw]
  obtain ⟨pR, hp⟩ : ∃ px, px = w4.heap.size := ⟨_, rfl⟩
  rw [← hp]
  have hb : Below w4.heap.size w4 w5 := by rw [hw]; exact (Below.refl _ _).alloc (Nat.le_refl _) _
  have hx : BxRn pR 12000 16777216 0 0 w5 := by rw [hp, hw]; exact BxRn.new _ 12000 16777216 0 0
  have hs : pR < w5.heap.size := by rw [hp, hw]; simp
  have GR := Lib.hid (show w.heap.size ≤ pR by rw [hp]; exact B4.out.size)
  have OCR := Lib.hid (show pC < pR by rw [hp]; exact SC4.out)
  have B5 := Lib.hid (below_trans' B4.out hb)
  have XC5 := Lib.hid (XC4.out.below hb SC4.out)
  have SC5 := Lib.hid (Nat.lt_of_lt_of_le SC4.out hb.size)
  clear hb B4 XC4 SC4
  have XR5 := Lib.hid hx
  have SR5 := Lib.hid hs
  clear hx hs hw hp
  have ST := Lib.hid (show CaRel m pC pR w (.int .i64 0) w5 from ⟨0, 12000, 16777216, 0, 0, 1048576, 0, t0, false, Nat.zero_le _, Nat.zero_le _, rfl, Nat.le_refl _, Wig.gnew_ok HT0.out, XC5.out, XR5.out, SC5.out, SR5.out, B5.out⟩)
  go_wp2_with fail
  go_loopw [8] (fun i wr => CaRel m pC pR w i wr) (fun i _ => 200 - (intOf i).toNat)
  case atStart => exact ST.out
  case round =>
    obtain ⟨k, c, t, s, r, al, ac, en, cu, hka, hkb, rfl, hfine, ok, hbx, hby, hlt, hls, hbel⟩ := hrel
    have XC20 := Lib.hid hbx
    have XR20 := Lib.hid hby
    have SC20 := Lib.hid hlt
    have SR20 := Lib.hid hls
    have B20 := Lib.hid hbel
    clear XC5 SC5 XR5 SR5 B5 ST hbx hby hlt hls hbel
    by_cases a1 : k < m
    · by_cases a3 : k < 200
      · have t1 : decide (k < m) = true := decide_eq_true a1
        have t2 : decide ((k : Int) < 200) = true := decide_eq_true (by omega)
        obtain ⟨⟨kd, g0, g1, g2, g3, g4, g5, g6, g7, gl, gr, b2, a2⟩, hp⟩ : ∃ p, es[k]? = some p := ⟨_, List.getElem?_eq_getElem (by have := HX.out.2; omega)⟩
        have eo := HX.out.1 _ (List.mem_of_getElem? hp)
        obtain ⟨bb, off, rfl, hbb, e0, e1, e2, e3, e4, e5, e6, e7, e8, e9, e10, e11, e12⟩ := HD.out.at_ hp
        unfold Wig.Ev.Ok at eo
        simp only [] at e0 e1 e2 e3 e4 e5 e6 e7 e8 e9 e10 e11 e12 eo
        obtain ⟨-, -, hg0, hg1, hg2, hg3, hg4, -, -, -, hb2, ha2⟩ := eo
        have E0 := Lib.hid e0
        have HBB0 := Lib.hid (show (⟨bb, off + k * 13, none⟩ : Addr).block < w.heap.size from hbb)
        have E1 := Lib.hid e1
        have HBB1 := Lib.hid (show (⟨bb, off + k * 13 + 1, none⟩ : Addr).block < w.heap.size from hbb)
        have E2 := Lib.hid e2
        have HBB2 := Lib.hid (show (⟨bb, off + k * 13 + 2, none⟩ : Addr).block < w.heap.size from hbb)
        have E3 := Lib.hid e3
        have HBB3 := Lib.hid (show (⟨bb, off + k * 13 + 3, none⟩ : Addr).block < w.heap.size from hbb)
        have E4 := Lib.hid e4
        have HBB4 := Lib.hid (show (⟨bb, off + k * 13 + 4, none⟩ : Addr).block < w.heap.size from hbb)
        have E5 := Lib.hid e5
        have HBB5 := Lib.hid (show (⟨bb, off + k * 13 + 5, none⟩ : Addr).block < w.heap.size from hbb)
        have E6 := Lib.hid e6
        have HBB6 := Lib.hid (show (⟨bb, off + k * 13 + 6, none⟩ : Addr).block < w.heap.size from hbb)
        have E7 := Lib.hid e7
        have HBB7 := Lib.hid (show (⟨bb, off + k * 13 + 7, none⟩ : Addr).block < w.heap.size from hbb)
        have E8 := Lib.hid e8
        have HBB8 := Lib.hid (show (⟨bb, off + k * 13 + 8, none⟩ : Addr).block < w.heap.size from hbb)
        have E9 := Lib.hid e9
        have HBB9 := Lib.hid (show (⟨bb, off + k * 13 + 9, none⟩ : Addr).block < w.heap.size from hbb)
        have E10 := Lib.hid e10
        have HBB10 := Lib.hid (show (⟨bb, off + k * 13 + 10, none⟩ : Addr).block < w.heap.size from hbb)
        have E11 := Lib.hid e11
        have HBB11 := Lib.hid (show (⟨bb, off + k * 13 + 11, none⟩ : Addr).block < w.heap.size from hbb)
        have E12 := Lib.hid e12
        have HBB12 := Lib.hid (show (⟨bb, off + k * 13 + 12, none⟩ : Addr).block < w.heap.size from hbb)
        obtain ⟨k1, hk1⟩ : ∃ k1, k1 = k + 1 := ⟨_, rfl⟩
        have i0 : (0 : Int) ≤ (k : Int) := by omega
        have i1 : (k : Int) < (m : Int) := by omega
        have q3 : IntKind.i64.wrap ((k : Int) + 1) = (k1 : Int) := by rw [IntKind.wrap_i64] <;> omega
        have HR := Lib.hid (show k1 ≤ m ∧ k1 ≤ 200 ∧ 200 - k1 < 200 - k from ⟨by omega, by omega, by omega⟩)
        clear hp hbb hk1 e0 e1 e2 e3 e4 e5 e6 e7 e8 e9 e10 e11 e12
        by_cases hk1 : kd = 1
        · by_cases ge : en ≤ g3
          · subst hk1
            have hcalm : Wig.GCalm ⟨⟨c, t, s, r⟩, al, ac, 0, en, cu⟩ ⟨c, t, s, r⟩ := ⟨rfl, rfl⟩
            obtain ⟨⟨⟨c', t', s', r'⟩, al', ac', mk', en', cu'⟩, hq⟩ : ∃ q, Wig.gack ⟨⟨c, t, s, r⟩, al, ac, 0, en, cu⟩ g1 g2 g3 g4 gl = q := ⟨_, rfl⟩
            obtain ⟨⟨hb1, hb3⟩, hal⟩ := Wig.gcalm_ack hcalm hfine g1 g2 g3 g4 gl
            have ok1 := Wig.gack_ok (b := g1) (a := g2) (m := g3) (l := gl) ok hg4
            rw [hq] at hb1 hb3 hal ok1
            simp only at hb1 hb3 hal
            obtain rfl : mk' = 0 := hb3
            have hn := hb1.symm
            clear hb1
            have C2 := Lib.hid (fun w => ack_any c t s r al ac 0 en cu g0 g1 g2 g3 g4 g5 g6 g7 gl gr c' t' s' r' al' ac' 0 en' cu' w ok hg1 hg2 hq)
            have C3 := Lib.hid (fun w => Rno.ack_any c t s r g1 g2 c' t' s' r' gl w ok.1 hg1 hg2 hn)
            rw [if_pos ge] at hal
            have t5 : decide (en ≤ g3) = true := decide_eq_true ge
            obtain ⟨h, hh⟩ : ∃ h, h = al / 16 := ⟨_, rfl⟩
            rw [← hh] at hal
            have e1 : (al : Int) / 16 = (h : Int) := by omega
            have e2 : IntKind.u64.wrap (h : Int) = (h : Int) := by rw [IntKind.wrap_u64]; omega
            have e3 : IntKind.u64.wrap ((al : Int) - (h : Int)) = (al' : Int) := by rw [IntKind.wrap_u64]; omega
            have e4 : ((al' : Int) != (al' : Int)) = false := by simp
            have hf1 : al' ≤ 1048576 := by omega
            clear hal hh
            have HF := Lib.hid (And.intro hf1 ok1)
            clear hf1 ok1 hcalm hfine ok hka hkb a1 a3 hg0 hg1 hg2 hg3 hg4 hb2 ha2 ge hq hn 
            have d4 := (B20.out.cell HBB4.out).trans E4.out
            obtain ⟨kc0, kc1, kc2, kc3, kc4, kc5, kc6, kc7, kc8, -, -, -, -, -, -, -, -, -⟩ := XC20.out
            go_wp2_with fail
            go_quiet (first | fail)
            obtain ⟨w21, hw⟩ : ∃ wx, wx = wr.drewN nq := ⟨_, rfl⟩
            rw [← hw]
            have B21 := Lib.hid (show Below w.heap.size w w21 by rw [hw]; exact below_drewN' B20.out nq)
            have XC21 := Lib.hid (show BxPg pC c t s r al ac 0 en cu w21 by rw [hw]; exact XC20.out.drewN nq)
            have SC21 := Lib.hid (show pC < w21.heap.size by rw [hw]; exact SC20.out)
            have XR21 := Lib.hid (show BxRn pR c t s r w21 by rw [hw]; exact XR20.out.drewN nq)
            have SR21 := Lib.hid (show pR < w21.heap.size by rw [hw]; exact SR20.out)
            clear kc0 kc1 kc2 kc3 kc4 kc5 kc6 kc7 kc8
            clear hw B20 XC20 SC20 XR20 SR20
            clear d4
            have d00 := (B21.out.cell HBB0.out).trans E0.out
            obtain ⟨kc0, kc1, kc2, kc3, kc4, kc5, kc6, kc7, kc8, -, -, -, -, -, -, -, -, -⟩ := XC21.out
            go_upto_region 11 with fail
            clear d00
            obtain ⟨c0, c1, c2, c3, c4, c5, c6, c7, c8, -, -, -, -, -, -, -, -, -⟩ := XC21.out
            refine wp_region_held_drew (S := fun wx => wx.cell? ⟨bb, off + k * 13 + 1, none⟩ = some (.int .u64 (g0 : Int)) ∧ wx.cell? ⟨bb, off + k * 13 + 2, none⟩ = some (.int .u64 (g1 : Int)) ∧ wx.cell? ⟨bb, off + k * 13 + 3, none⟩ = some (.int .u64 (g2 : Int)) ∧ wx.cell? ⟨bb, off + k * 13 + 4, none⟩ = some (.int .u64 (g3 : Int)) ∧ wx.cell? ⟨bb, off + k * 13 + 5, none⟩ = some (.int .u64 (g4 : Int)) ∧ wx.cell? ⟨bb, off + k * 13 + 6, none⟩ = some (.int .u64 (g5 : Int)) ∧ wx.cell? ⟨bb, off + k * 13 + 7, none⟩ = some (.int .u64 (g6 : Int)) ∧ wx.cell? ⟨bb, off + k * 13 + 8, none⟩ = some (.int .u64 (g7 : Int)) ∧ wx.cell? ⟨bb, off + k * 13 + 9, none⟩ = some (.bool gl) ∧ wx.cell? ⟨bb, off + k * 13 + 10, none⟩ = some (.bool gr)) (by kernel_rfl) ?_ (fun hHeld => ?_)
            · exact ⟨(B21.out.drew.cell HBB1.out).trans E1.out, (B21.out.drew.cell HBB2.out).trans E2.out, (B21.out.drew.cell HBB3.out).trans E3.out, (B21.out.drew.cell HBB4.out).trans E4.out, (B21.out.drew.cell HBB5.out).trans E5.out, (B21.out.drew.cell HBB6.out).trans E6.out, (B21.out.drew.cell HBB7.out).trans E7.out, (B21.out.drew.cell HBB8.out).trans E8.out, (B21.out.drew.cell HBB9.out).trans E9.out, (B21.out.drew.cell HBB10.out).trans E10.out⟩
            refine held_take (v := ?vv101) 1 rfl (by kernel_rfl) (by kernel_rfl) (by kernel_rfl) (fun _ _ _ h => h) (by rfl) ?yy101 (by assumption) ?nn101
            case yy101 =>
              intro w hSw
              (try dsimp only at hSw)
              go_simp
              try with_reducible rfl
            try simp only [Act.put, List.setIfInBounds_toArray, List.set_cons_zero, List.set_cons_succ]
            refine held_take (v := ?vv102) 2 rfl (by kernel_rfl) (by kernel_rfl) (by kernel_rfl) (fun _ _ _ h => h) (by rfl) ?yy102 (by assumption) ?nn102
            case yy102 =>
              intro w hSw
              (try dsimp only at hSw)
              go_simp
              try with_reducible rfl
            try simp only [Act.put, List.setIfInBounds_toArray, List.set_cons_zero, List.set_cons_succ]
            refine held_take (v := ?vv103) 3 rfl (by kernel_rfl) (by kernel_rfl) (by kernel_rfl) (fun _ _ _ h => h) (by rfl) ?yy103 (by assumption) ?nn103
            case yy103 =>
              intro w hSw
              (try dsimp only at hSw)
              go_simp
              try with_reducible rfl
            try simp only [Act.put, List.setIfInBounds_toArray, List.set_cons_zero, List.set_cons_succ]
            refine held_take (v := ?vv104) 4 rfl (by kernel_rfl) (by kernel_rfl) (by kernel_rfl) (fun _ _ _ h => h) (by rfl) ?yy104 (by assumption) ?nn104
            case yy104 =>
              intro w hSw
              (try dsimp only at hSw)
              go_simp
              try with_reducible rfl
            try simp only [Act.put, List.setIfInBounds_toArray, List.set_cons_zero, List.set_cons_succ]
            refine held_take (v := .agg #[.int .u64 (g0 : Int), .int .u64 (g1 : Int), .int .u64 (g2 : Int), .int .u64 (g3 : Int), .int .u64 (g4 : Int), .int .u64 (g5 : Int), .int .u64 (g6 : Int), .int .u64 (g7 : Int), .bool gl, .bool gr]) 5 rfl (by kernel_rfl) (by kernel_rfl) (by kernel_rfl) (fun _ _ _ h => h) (by rfl) (fun wx hSw => by obtain ⟨a0, a1, a2, a3, a4, a5, a6, a7, a8, a9⟩ := hSw; (try dsimp only at a0 a1 a2 a3 a4 a5 a6 a7 a8 a9); go_simp) (by assumption) ?_
            try simp only [Act.put, List.setIfInBounds_toArray, List.set_cons_zero, List.set_cons_succ]
            refine held_do 0 rfl (by kernel_rfl) (by rfl) (fun K hK => ?_)
            go_wp2_with fail
            refine hK.out _ _ ?_ (fun hHeld => ?_)
            · exact ⟨(B21.out.drew.cell HBB1.out).trans E1.out, (B21.out.drew.cell HBB2.out).trans E2.out, (B21.out.drew.cell HBB3.out).trans E3.out, (B21.out.drew.cell HBB4.out).trans E4.out, (B21.out.drew.cell HBB5.out).trans E5.out, (B21.out.drew.cell HBB6.out).trans E6.out, (B21.out.drew.cell HBB7.out).trans E7.out, (B21.out.drew.cell HBB8.out).trans E8.out, (B21.out.drew.cell HBB9.out).trans E9.out, (B21.out.drew.cell HBB10.out).trans E10.out⟩
            clear hK K
            try simp only [Act.put, List.setIfInBounds_toArray, List.set_cons_zero, List.set_cons_succ]
            refine held_do 6 rfl (by kernel_rfl) (by rfl) (fun K hK => ?_)
            go_wp2_with (go_at_call 9; refine (C2.out _).mono ?_; rintro e w22 ⟨rfl, hb22⟩; have HB := Lib.hid hb22; clear hb22)
            refine hK.out _ _ ?_ (fun hHeld => ?_)
            · exact ⟨((below_trans' B21.out.drew HB.out).cell HBB1.out).trans E1.out, ((below_trans' B21.out.drew HB.out).cell HBB2.out).trans E2.out, ((below_trans' B21.out.drew HB.out).cell HBB3.out).trans E3.out, ((below_trans' B21.out.drew HB.out).cell HBB4.out).trans E4.out, ((below_trans' B21.out.drew HB.out).cell HBB5.out).trans E5.out, ((below_trans' B21.out.drew HB.out).cell HBB6.out).trans E6.out, ((below_trans' B21.out.drew HB.out).cell HBB7.out).trans E7.out, ((below_trans' B21.out.drew HB.out).cell HBB8.out).trans E8.out, ((below_trans' B21.out.drew HB.out).cell HBB9.out).trans E9.out, ((below_trans' B21.out.drew HB.out).cell HBB10.out).trans E10.out⟩
            clear hK K
            try simp only [Act.put, List.setIfInBounds_toArray, List.set_cons_zero, List.set_cons_succ]
            have B22 := Lib.hid (below_trans' B21.out.drew HB.out)
            have XC22 := Lib.hid (XC21.out.drew.below HB.out SC21.out)
            have SC22 := Lib.hid (Nat.lt_of_lt_of_le SC21.out HB.out.size)
            have XR22 := Lib.hid (XR21.out.drew.below HB.out SR21.out)
            have SR22 := Lib.hid (Nat.lt_of_lt_of_le SR21.out HB.out.size)
            clear kc0 kc1 kc2 kc3 kc4 kc5 kc6 kc7 kc8 c0 c1 c2 c3 c4 c5 c6 c7 c8
            clear HB B21 XC21 SC21 XR21 SR21
            obtain ⟨c0, c1, c2, c3, c4, c5, c6, c7, c8, cf0, cf1, cf2, cf3, cf4, cf5, cf6, cf7, cf8⟩ := XC22.out
            refine held_do 7 rfl (by kernel_rfl) (by rfl) (fun K hK => ?_)
            go_wp2_with fail
            refine hK.out _ _ ?_ (fun hHeld => ?_)
            · exact ⟨((B22.out.trans (putPg_below (p := pC) GC.out)).cell HBB1.out).trans E1.out, ((B22.out.trans (putPg_below (p := pC) GC.out)).cell HBB2.out).trans E2.out, ((B22.out.trans (putPg_below (p := pC) GC.out)).cell HBB3.out).trans E3.out, ((B22.out.trans (putPg_below (p := pC) GC.out)).cell HBB4.out).trans E4.out, ((B22.out.trans (putPg_below (p := pC) GC.out)).cell HBB5.out).trans E5.out, ((B22.out.trans (putPg_below (p := pC) GC.out)).cell HBB6.out).trans E6.out, ((B22.out.trans (putPg_below (p := pC) GC.out)).cell HBB7.out).trans E7.out, ((B22.out.trans (putPg_below (p := pC) GC.out)).cell HBB8.out).trans E8.out, ((B22.out.trans (putPg_below (p := pC) GC.out)).cell HBB9.out).trans E9.out, ((B22.out.trans (putPg_below (p := pC) GC.out)).cell HBB10.out).trans E10.out⟩
            clear hK K
            try simp only [Act.put, List.setIfInBounds_toArray, List.set_cons_zero, List.set_cons_succ]
            refine wpAnyH_done (by kernel_rfl) ?_ _
            clear hHeld
            obtain ⟨w23, hw⟩ : ∃ wx, wx = putPg pC c' t' s' r' al' ac' 0 en' cu' w22 := ⟨_, rfl⟩
            have XC23 := Lib.hid (show BxPg pC c' t' s' r' al' ac' 0 en' cu' w23 by rw [hw]; exact XC22.out.put)
            have B23 := Lib.hid (show Below w.heap.size w w23 by rw [hw]; exact B22.out.trans (putPg_below GC.out))
            have hz : w22.heap.size ≤ w23.heap.size := by rw [hw]; exact (putPg_below (B := 0) (Nat.zero_le _)).size
            have SC23 := Lib.hid (Nat.lt_of_lt_of_le SC22.out hz)
            have XR23 := Lib.hid (show BxRn pR c t s r w23 by rw [hw]; unfold putPg; exact (((((((((XR22.out.other rfl (Nat.ne_of_lt OCR.out)).other rfl (Nat.ne_of_lt OCR.out)).other rfl (Nat.ne_of_lt OCR.out)).other rfl (Nat.ne_of_lt OCR.out)).other rfl (Nat.ne_of_lt OCR.out)).other rfl (Nat.ne_of_lt OCR.out)).other rfl (Nat.ne_of_lt OCR.out)).other rfl (Nat.ne_of_lt OCR.out)).other rfl (Nat.ne_of_lt OCR.out)))
            have SR23 := Lib.hid (Nat.lt_of_lt_of_le SR22.out hz)
            rw [show ((((((((w22.setCell ⟨pC, 0, none⟩ (.int .u64 (c' : Int))).setCell ⟨pC, 1, none⟩ (.int .u64 (t' : Int))).setCell ⟨pC, 2, none⟩ (.int .u64 (s' : Int))).setCell ⟨pC, 3, none⟩ (.int .u64 (r' : Int))).setCell ⟨pC, 4, none⟩ (.int .u64 (al' : Int))).setCell ⟨pC, 5, none⟩ (.int .u64 (ac' : Int))).setCell ⟨pC, 6, none⟩ (.int .u64 0)).setCell ⟨pC, 7, none⟩ (.int .u64 (en' : Int))).setCell ⟨pC, 8, none⟩ (.bool cu') = w23 from hw.symm]
            clear c0 c1 c2 c3 c4 c5 c6 c7 c8 cf0 cf1 cf2 cf3 cf4 cf5 cf6 cf7 cf8
            clear hw hz B22 XC22 SC22 XR22 SR22
            go_upto_region 12 with fail
            obtain ⟨r0, r1, r2, r3, -, -, -, -⟩ := XR23.out
            refine wp_region_held_drew (S := fun wx => wx.cell? ⟨bb, off + k * 13 + 2, none⟩ = some (.int .u64 (g1 : Int)) ∧ wx.cell? ⟨bb, off + k * 13 + 3, none⟩ = some (.int .u64 (g2 : Int)) ∧ wx.cell? ⟨bb, off + k * 13 + 9, none⟩ = some (.bool gl)) (by kernel_rfl) ?_ (fun hHeld => ?_)
            · exact ⟨(B23.out.drew.cell HBB2.out).trans E2.out, (B23.out.drew.cell HBB3.out).trans E3.out, (B23.out.drew.cell HBB9.out).trans E9.out⟩
            refine held_take (v := ?vv110) 1 rfl (by kernel_rfl) (by kernel_rfl) (by kernel_rfl) (fun _ _ _ h => h) (by rfl) ?yy110 (by assumption) ?nn110
            case yy110 =>
              intro w hSw
              (try dsimp only at hSw)
              go_simp
              try with_reducible rfl
            try simp only [Act.put, List.setIfInBounds_toArray, List.set_cons_zero, List.set_cons_succ]
            refine held_take (v := ?vv111) 2 rfl (by kernel_rfl) (by kernel_rfl) (by kernel_rfl) (fun _ _ _ h => h) (by rfl) ?yy111 (by assumption) ?nn111
            case yy111 =>
              intro w hSw
              (try dsimp only at hSw)
              go_simp
              try with_reducible rfl
            try simp only [Act.put, List.setIfInBounds_toArray, List.set_cons_zero, List.set_cons_succ]
            refine held_take (v := ?vv112) 3 rfl (by kernel_rfl) (by kernel_rfl) (by kernel_rfl) (fun _ _ _ h => h) (by rfl) ?yy112 (by assumption) ?nn112
            case yy112 =>
              intro w hSw
              (try dsimp only at hSw)
              go_simp
              try with_reducible rfl
            try simp only [Act.put, List.setIfInBounds_toArray, List.set_cons_zero, List.set_cons_succ]
            refine held_take (v := ?vv113) 4 rfl (by kernel_rfl) (by kernel_rfl) (by kernel_rfl) (fun _ _ _ h => h) (by rfl) ?yy113 (by assumption) ?nn113
            case yy113 =>
              intro w hSw
              (try dsimp only at hSw)
              go_simp
              try with_reducible rfl
            try simp only [Act.put, List.setIfInBounds_toArray, List.set_cons_zero, List.set_cons_succ]
            refine held_take (v := ?vv114) 5 rfl (by kernel_rfl) (by kernel_rfl) (by kernel_rfl) (fun _ _ _ h => h) (by rfl) ?yy114 (by assumption) ?nn114
            case yy114 =>
              intro w hSw
              (try dsimp only at hSw)
              go_simp
              try with_reducible rfl
            try simp only [Act.put, List.setIfInBounds_toArray, List.set_cons_zero, List.set_cons_succ]
            refine held_take (v := .int .u64 (g1 : Int)) 6 rfl (by kernel_rfl) (by kernel_rfl) (by kernel_rfl) (fun _ _ _ h => h) (by rfl) (fun wx hSw => by have a0 := hSw.1; clear hSw; (try dsimp only at a0); go_simp) (by assumption) ?_
            try simp only [Act.put, List.setIfInBounds_toArray, List.set_cons_zero, List.set_cons_succ]
            refine held_take (v := ?vv116) 7 rfl (by kernel_rfl) (by kernel_rfl) (by kernel_rfl) (fun _ _ _ h => h) (by rfl) ?yy116 (by assumption) ?nn116
            case yy116 =>
              intro w hSw
              (try dsimp only at hSw)
              go_simp
              try with_reducible rfl
            try simp only [Act.put, List.setIfInBounds_toArray, List.set_cons_zero, List.set_cons_succ]
            refine held_take (v := ?vv117) 8 rfl (by kernel_rfl) (by kernel_rfl) (by kernel_rfl) (fun _ _ _ h => h) (by rfl) ?yy117 (by assumption) ?nn117
            case yy117 =>
              intro w hSw
              (try dsimp only at hSw)
              go_simp
              try with_reducible rfl
            try simp only [Act.put, List.setIfInBounds_toArray, List.set_cons_zero, List.set_cons_succ]
            refine held_take (v := ?vv118) 9 rfl (by kernel_rfl) (by kernel_rfl) (by kernel_rfl) (fun _ _ _ h => h) (by rfl) ?yy118 (by assumption) ?nn118
            case yy118 =>
              intro w hSw
              (try dsimp only at hSw)
              go_simp
              try with_reducible rfl
            try simp only [Act.put, List.setIfInBounds_toArray, List.set_cons_zero, List.set_cons_succ]
            refine held_take (v := ?vv119) 10 rfl (by kernel_rfl) (by kernel_rfl) (by kernel_rfl) (fun _ _ _ h => h) (by rfl) ?yy119 (by assumption) ?nn119
            case yy119 =>
              intro w hSw
              (try dsimp only at hSw)
              go_simp
              try with_reducible rfl
            try simp only [Act.put, List.setIfInBounds_toArray, List.set_cons_zero, List.set_cons_succ]
            refine held_take (v := ?vv120) 11 rfl (by kernel_rfl) (by kernel_rfl) (by kernel_rfl) (fun _ _ _ h => h) (by rfl) ?yy120 (by assumption) ?nn120
            case yy120 =>
              intro w hSw
              (try dsimp only at hSw)
              go_simp
              try with_reducible rfl
            try simp only [Act.put, List.setIfInBounds_toArray, List.set_cons_zero, List.set_cons_succ]
            refine held_take (v := .int .u64 (g2 : Int)) 12 rfl (by kernel_rfl) (by kernel_rfl) (by kernel_rfl) (fun _ _ _ h => h) (by rfl) (fun wx hSw => by have a0 := hSw.2.1; clear hSw; (try dsimp only at a0); go_simp) (by assumption) ?_
            try simp only [Act.put, List.setIfInBounds_toArray, List.set_cons_zero, List.set_cons_succ]
            refine held_take (v := ?vv122) 13 rfl (by kernel_rfl) (by kernel_rfl) (by kernel_rfl) (fun _ _ _ h => h) (by rfl) ?yy122 (by assumption) ?nn122
            case yy122 =>
              intro w hSw
              (try dsimp only at hSw)
              go_simp
              try with_reducible rfl
            try simp only [Act.put, List.setIfInBounds_toArray, List.set_cons_zero, List.set_cons_succ]
            refine held_take (v := ?vv123) 14 rfl (by kernel_rfl) (by kernel_rfl) (by kernel_rfl) (fun _ _ _ h => h) (by rfl) ?yy123 (by assumption) ?nn123
            case yy123 =>
              intro w hSw
              (try dsimp only at hSw)
              go_simp
              try with_reducible rfl
            try simp only [Act.put, List.setIfInBounds_toArray, List.set_cons_zero, List.set_cons_succ]
            refine held_take (v := ?vv124) 15 rfl (by kernel_rfl) (by kernel_rfl) (by kernel_rfl) (fun _ _ _ h => h) (by rfl) ?yy124 (by assumption) ?nn124
            case yy124 =>
              intro w hSw
              (try dsimp only at hSw)
              go_simp
              try with_reducible rfl
            try simp only [Act.put, List.setIfInBounds_toArray, List.set_cons_zero, List.set_cons_succ]
            refine held_take (v := ?vv125) 16 rfl (by kernel_rfl) (by kernel_rfl) (by kernel_rfl) (fun _ _ _ h => h) (by rfl) ?yy125 (by assumption) ?nn125
            case yy125 =>
              intro w hSw
              (try dsimp only at hSw)
              go_simp
              try with_reducible rfl
            try simp only [Act.put, List.setIfInBounds_toArray, List.set_cons_zero, List.set_cons_succ]
            refine held_take (v := ?vv126) 17 rfl (by kernel_rfl) (by kernel_rfl) (by kernel_rfl) (fun _ _ _ h => h) (by rfl) ?yy126 (by assumption) ?nn126
            case yy126 =>
              intro w hSw
              (try dsimp only at hSw)
              go_simp
              try with_reducible rfl
            try simp only [Act.put, List.setIfInBounds_toArray, List.set_cons_zero, List.set_cons_succ]
            refine held_take (v := .bool gl) 18 rfl (by kernel_rfl) (by kernel_rfl) (by kernel_rfl) (fun _ _ _ h => h) (by rfl) (fun wx hSw => by have a0 := hSw.2.2; clear hSw; (try dsimp only at a0); go_simp) (by assumption) ?_
            try simp only [Act.put, List.setIfInBounds_toArray, List.set_cons_zero, List.set_cons_succ]
            refine held_do 0 rfl (by kernel_rfl) (by rfl) (fun K hK => ?_)
            go_wp2_with fail
            refine hK.out _ _ ?_ (fun hHeld => ?_)
            · exact ⟨(B23.out.drew.cell HBB2.out).trans E2.out, (B23.out.drew.cell HBB3.out).trans E3.out, (B23.out.drew.cell HBB9.out).trans E9.out⟩
            clear hK K
            try simp only [Act.put, List.setIfInBounds_toArray, List.set_cons_zero, List.set_cons_succ]
            refine held_do 19 rfl (by kernel_rfl) (by rfl) (fun K hK => ?_)
            go_wp2_with (go_at_call 20; refine (C3.out _).mono ?_; rintro e w24 ⟨rfl, hb24⟩; have HB := Lib.hid hb24; clear hb24)
            refine hK.out _ _ ?_ (fun hHeld => ?_)
            · exact ⟨((below_trans' B23.out.drew HB.out).cell HBB2.out).trans E2.out, ((below_trans' B23.out.drew HB.out).cell HBB3.out).trans E3.out, ((below_trans' B23.out.drew HB.out).cell HBB9.out).trans E9.out⟩
            clear hK K
            try simp only [Act.put, List.setIfInBounds_toArray, List.set_cons_zero, List.set_cons_succ]
            have B24 := Lib.hid (below_trans' B23.out.drew HB.out)
            have XC24 := Lib.hid (XC23.out.drew.below HB.out SC23.out)
            have SC24 := Lib.hid (Nat.lt_of_lt_of_le SC23.out HB.out.size)
            have XR24 := Lib.hid (XR23.out.drew.below HB.out SR23.out)
            have SR24 := Lib.hid (Nat.lt_of_lt_of_le SR23.out HB.out.size)
            clear r0 r1 r2 r3
            clear HB B23 XC23 SC23 XR23 SR23
            obtain ⟨r0, r1, r2, r3, rf0, rf1, rf2, rf3⟩ := XR24.out
            refine held_do 20 rfl (by kernel_rfl) (by rfl) (fun K hK => ?_)
            go_wp2_with fail
            refine hK.out _ _ ?_ (fun hHeld => ?_)
            · exact ⟨((B24.out.trans (putRn_below (p := pR) GR.out)).cell HBB2.out).trans E2.out, ((B24.out.trans (putRn_below (p := pR) GR.out)).cell HBB3.out).trans E3.out, ((B24.out.trans (putRn_below (p := pR) GR.out)).cell HBB9.out).trans E9.out⟩
            clear hK K
            try simp only [Act.put, List.setIfInBounds_toArray, List.set_cons_zero, List.set_cons_succ]
            refine wpAnyH_done (by kernel_rfl) ?_ _
            clear hHeld
            obtain ⟨w25, hw⟩ : ∃ wx, wx = putRn pR c' t' s' r' w24 := ⟨_, rfl⟩
            have XR25 := Lib.hid (show BxRn pR c' t' s' r' w25 by rw [hw]; exact XR24.out.put)
            have B25 := Lib.hid (show Below w.heap.size w w25 by rw [hw]; exact B24.out.trans (putRn_below GR.out))
            have hz : w24.heap.size ≤ w25.heap.size := by rw [hw]; exact (putRn_below (B := 0) (Nat.zero_le _)).size
            have SR25 := Lib.hid (Nat.lt_of_lt_of_le SR24.out hz)
            have XC25 := Lib.hid (show BxPg pC c' t' s' r' al' ac' 0 en' cu' w25 by rw [hw]; unfold putRn; exact ((((XC24.out.other rfl (Nat.ne_of_gt OCR.out)).other rfl (Nat.ne_of_gt OCR.out)).other rfl (Nat.ne_of_gt OCR.out)).other rfl (Nat.ne_of_gt OCR.out)))
            have SC25 := Lib.hid (Nat.lt_of_lt_of_le SC24.out hz)
            rw [show (((w24.setCell ⟨pR, 0, none⟩ (.int .u64 (c' : Int))).setCell ⟨pR, 1, none⟩ (.int .u64 (t' : Int))).setCell ⟨pR, 2, none⟩ (.int .u64 (s' : Int))).setCell ⟨pR, 3, none⟩ (.int .u64 (r' : Int)) = w25 from hw.symm]
            clear r0 r1 r2 r3 rf0 rf1 rf2 rf3
            clear hw hz B24 XR24 SR24 XC24 SC24
            obtain ⟨c0, c1, c2, c3, c4, c5, c6, c7, c8, -, -, -, -, -, -, -, -, -⟩ := XC25.out
            obtain ⟨r0, r1, r2, r3, -, -, -, -⟩ := XR25.out
            have rn := Rno.reno_ne c' t' s' r'
            have rg := Rno.reno_guard
            have RZ := Lib.hid (show CaRel m pC pR w (.int .i64 (k1 : Int)) w25 from ⟨k1, c', t', s', r', al', ac', en', cu', HR.out.1, HR.out.2.1, rfl, HF.out.1, HF.out.2, XC25.out, XR25.out, SC25.out, SR25.out, B25.out⟩)
            go_wp2_with fail
            go_roundw
            case rel => exact RZ.out
            case measure => have := HR.out; simp [intOf]; omega
          · subst hk1
            have hcalm : Wig.GCalm ⟨⟨c, t, s, r⟩, al, ac, 0, en, cu⟩ ⟨c, t, s, r⟩ := ⟨rfl, rfl⟩
            obtain ⟨⟨⟨c', t', s', r'⟩, al', ac', mk', en', cu'⟩, hq⟩ : ∃ q, Wig.gack ⟨⟨c, t, s, r⟩, al, ac, 0, en, cu⟩ g1 g2 g3 g4 gl = q := ⟨_, rfl⟩
            obtain ⟨⟨hb1, hb3⟩, hal⟩ := Wig.gcalm_ack hcalm hfine g1 g2 g3 g4 gl
            have ok1 := Wig.gack_ok (b := g1) (a := g2) (m := g3) (l := gl) ok hg4
            rw [hq] at hb1 hb3 hal ok1
            simp only at hb1 hb3 hal
            obtain rfl : mk' = 0 := hb3
            have hn := hb1.symm
            clear hb1
            have C2 := Lib.hid (fun w => ack_any c t s r al ac 0 en cu g0 g1 g2 g3 g4 g5 g6 g7 gl gr c' t' s' r' al' ac' 0 en' cu' w ok hg1 hg2 hq)
            have C3 := Lib.hid (fun w => Rno.ack_any c t s r g1 g2 c' t' s' r' gl w ok.1 hg1 hg2 hn)
            rw [if_neg ge] at hal
            have t5 : decide (en ≤ g3) = false := decide_eq_false ge
            have hf1 : al' ≤ 1048576 := by omega
            obtain rfl : al = al' := hal.symm
            have e4 : ((al : Int) != (al : Int)) = false := by simp
            have HF := Lib.hid (And.intro hf1 ok1)
            clear hf1 ok1 hcalm hfine ok hka hkb a1 a3 hg0 hg1 hg2 hg3 hg4 hb2 ha2 ge hq hn 
            have d4 := (B20.out.cell HBB4.out).trans E4.out
            obtain ⟨kc0, kc1, kc2, kc3, kc4, kc5, kc6, kc7, kc8, -, -, -, -, -, -, -, -, -⟩ := XC20.out
            go_wp2_with fail
            go_quiet (first | fail)
            obtain ⟨w21, hw⟩ : ∃ wx, wx = wr.drewN nq := ⟨_, rfl⟩
            rw [← hw]
            have B21 := Lib.hid (show Below w.heap.size w w21 by rw [hw]; exact below_drewN' B20.out nq)
            have XC21 := Lib.hid (show BxPg pC c t s r al ac 0 en cu w21 by rw [hw]; exact XC20.out.drewN nq)
            have SC21 := Lib.hid (show pC < w21.heap.size by rw [hw]; exact SC20.out)
            have XR21 := Lib.hid (show BxRn pR c t s r w21 by rw [hw]; exact XR20.out.drewN nq)
            have SR21 := Lib.hid (show pR < w21.heap.size by rw [hw]; exact SR20.out)
            clear kc0 kc1 kc2 kc3 kc4 kc5 kc6 kc7 kc8
            clear hw B20 XC20 SC20 XR20 SR20
            clear d4
            have d00 := (B21.out.cell HBB0.out).trans E0.out
            obtain ⟨kc0, kc1, kc2, kc3, kc4, kc5, kc6, kc7, kc8, -, -, -, -, -, -, -, -, -⟩ := XC21.out
            go_upto_region 11 with fail
            clear d00
            obtain ⟨c0, c1, c2, c3, c4, c5, c6, c7, c8, -, -, -, -, -, -, -, -, -⟩ := XC21.out
            refine wp_region_held_drew (S := fun wx => wx.cell? ⟨bb, off + k * 13 + 1, none⟩ = some (.int .u64 (g0 : Int)) ∧ wx.cell? ⟨bb, off + k * 13 + 2, none⟩ = some (.int .u64 (g1 : Int)) ∧ wx.cell? ⟨bb, off + k * 13 + 3, none⟩ = some (.int .u64 (g2 : Int)) ∧ wx.cell? ⟨bb, off + k * 13 + 4, none⟩ = some (.int .u64 (g3 : Int)) ∧ wx.cell? ⟨bb, off + k * 13 + 5, none⟩ = some (.int .u64 (g4 : Int)) ∧ wx.cell? ⟨bb, off + k * 13 + 6, none⟩ = some (.int .u64 (g5 : Int)) ∧ wx.cell? ⟨bb, off + k * 13 + 7, none⟩ = some (.int .u64 (g6 : Int)) ∧ wx.cell? ⟨bb, off + k * 13 + 8, none⟩ = some (.int .u64 (g7 : Int)) ∧ wx.cell? ⟨bb, off + k * 13 + 9, none⟩ = some (.bool gl) ∧ wx.cell? ⟨bb, off + k * 13 + 10, none⟩ = some (.bool gr)) (by kernel_rfl) ?_ (fun hHeld => ?_)
            · exact ⟨(B21.out.drew.cell HBB1.out).trans E1.out, (B21.out.drew.cell HBB2.out).trans E2.out, (B21.out.drew.cell HBB3.out).trans E3.out, (B21.out.drew.cell HBB4.out).trans E4.out, (B21.out.drew.cell HBB5.out).trans E5.out, (B21.out.drew.cell HBB6.out).trans E6.out, (B21.out.drew.cell HBB7.out).trans E7.out, (B21.out.drew.cell HBB8.out).trans E8.out, (B21.out.drew.cell HBB9.out).trans E9.out, (B21.out.drew.cell HBB10.out).trans E10.out⟩
            refine held_take (v := ?vv132) 1 rfl (by kernel_rfl) (by kernel_rfl) (by kernel_rfl) (fun _ _ _ h => h) (by rfl) ?yy132 (by assumption) ?nn132
            case yy132 =>
              intro w hSw
              (try dsimp only at hSw)
              go_simp
              try with_reducible rfl
            try simp only [Act.put, List.setIfInBounds_toArray, List.set_cons_zero, List.set_cons_succ]
            refine held_take (v := ?vv133) 2 rfl (by kernel_rfl) (by kernel_rfl) (by kernel_rfl) (fun _ _ _ h => h) (by rfl) ?yy133 (by assumption) ?nn133
            case yy133 =>
              intro w hSw
              (try dsimp only at hSw)
              go_simp
              try with_reducible rfl
            try simp only [Act.put, List.setIfInBounds_toArray, List.set_cons_zero, List.set_cons_succ]
            refine held_take (v := ?vv134) 3 rfl (by kernel_rfl) (by kernel_rfl) (by kernel_rfl) (fun _ _ _ h => h) (by rfl) ?yy134 (by assumption) ?nn134
            case yy134 =>
              intro w hSw
              (try dsimp only at hSw)
              go_simp
              try with_reducible rfl
            try simp only [Act.put, List.setIfInBounds_toArray, List.set_cons_zero, List.set_cons_succ]
            refine held_take (v := ?vv135) 4 rfl (by kernel_rfl) (by kernel_rfl) (by kernel_rfl) (fun _ _ _ h => h) (by rfl) ?yy135 (by assumption) ?nn135
            case yy135 =>
              intro w hSw
              (try dsimp only at hSw)
              go_simp
              try with_reducible rfl
            try simp only [Act.put, List.setIfInBounds_toArray, List.set_cons_zero, List.set_cons_succ]
            refine held_take (v := .agg #[.int .u64 (g0 : Int), .int .u64 (g1 : Int), .int .u64 (g2 : Int), .int .u64 (g3 : Int), .int .u64 (g4 : Int), .int .u64 (g5 : Int), .int .u64 (g6 : Int), .int .u64 (g7 : Int), .bool gl, .bool gr]) 5 rfl (by kernel_rfl) (by kernel_rfl) (by kernel_rfl) (fun _ _ _ h => h) (by rfl) (fun wx hSw => by obtain ⟨a0, a1, a2, a3, a4, a5, a6, a7, a8, a9⟩ := hSw; (try dsimp only at a0 a1 a2 a3 a4 a5 a6 a7 a8 a9); go_simp) (by assumption) ?_
            try simp only [Act.put, List.setIfInBounds_toArray, List.set_cons_zero, List.set_cons_succ]
            refine held_do 0 rfl (by kernel_rfl) (by rfl) (fun K hK => ?_)
            go_wp2_with fail
            refine hK.out _ _ ?_ (fun hHeld => ?_)
            · exact ⟨(B21.out.drew.cell HBB1.out).trans E1.out, (B21.out.drew.cell HBB2.out).trans E2.out, (B21.out.drew.cell HBB3.out).trans E3.out, (B21.out.drew.cell HBB4.out).trans E4.out, (B21.out.drew.cell HBB5.out).trans E5.out, (B21.out.drew.cell HBB6.out).trans E6.out, (B21.out.drew.cell HBB7.out).trans E7.out, (B21.out.drew.cell HBB8.out).trans E8.out, (B21.out.drew.cell HBB9.out).trans E9.out, (B21.out.drew.cell HBB10.out).trans E10.out⟩
            clear hK K
            try simp only [Act.put, List.setIfInBounds_toArray, List.set_cons_zero, List.set_cons_succ]
            refine held_do 6 rfl (by kernel_rfl) (by rfl) (fun K hK => ?_)
            go_wp2_with (go_at_call 9; refine (C2.out _).mono ?_; rintro e w22 ⟨rfl, hb22⟩; have HB := Lib.hid hb22; clear hb22)
            refine hK.out _ _ ?_ (fun hHeld => ?_)
            · exact ⟨((below_trans' B21.out.drew HB.out).cell HBB1.out).trans E1.out, ((below_trans' B21.out.drew HB.out).cell HBB2.out).trans E2.out, ((below_trans' B21.out.drew HB.out).cell HBB3.out).trans E3.out, ((below_trans' B21.out.drew HB.out).cell HBB4.out).trans E4.out, ((below_trans' B21.out.drew HB.out).cell HBB5.out).trans E5.out, ((below_trans' B21.out.drew HB.out).cell HBB6.out).trans E6.out, ((below_trans' B21.out.drew HB.out).cell HBB7.out).trans E7.out, ((below_trans' B21.out.drew HB.out).cell HBB8.out).trans E8.out, ((below_trans' B21.out.drew HB.out).cell HBB9.out).trans E9.out, ((below_trans' B21.out.drew HB.out).cell HBB10.out).trans E10.out⟩
            clear hK K
            try simp only [Act.put, List.setIfInBounds_toArray, List.set_cons_zero, List.set_cons_succ]
            have B22 := Lib.hid (below_trans' B21.out.drew HB.out)
            have XC22 := Lib.hid (XC21.out.drew.below HB.out SC21.out)
            have SC22 := Lib.hid (Nat.lt_of_lt_of_le SC21.out HB.out.size)
            have XR22 := Lib.hid (XR21.out.drew.below HB.out SR21.out)
            have SR22 := Lib.hid (Nat.lt_of_lt_of_le SR21.out HB.out.size)
            clear kc0 kc1 kc2 kc3 kc4 kc5 kc6 kc7 kc8 c0 c1 c2 c3 c4 c5 c6 c7 c8
            clear HB B21 XC21 SC21 XR21 SR21
            obtain ⟨c0, c1, c2, c3, c4, c5, c6, c7, c8, cf0, cf1, cf2, cf3, cf4, cf5, cf6, cf7, cf8⟩ := XC22.out
            refine held_do 7 rfl (by kernel_rfl) (by rfl) (fun K hK => ?_)
            go_wp2_with fail
            refine hK.out _ _ ?_ (fun hHeld => ?_)
            · exact ⟨((B22.out.trans (putPg_below (p := pC) GC.out)).cell HBB1.out).trans E1.out, ((B22.out.trans (putPg_below (p := pC) GC.out)).cell HBB2.out).trans E2.out, ((B22.out.trans (putPg_below (p := pC) GC.out)).cell HBB3.out).trans E3.out, ((B22.out.trans (putPg_below (p := pC) GC.out)).cell HBB4.out).trans E4.out, ((B22.out.trans (putPg_below (p := pC) GC.out)).cell HBB5.out).trans E5.out, ((B22.out.trans (putPg_below (p := pC) GC.out)).cell HBB6.out).trans E6.out, ((B22.out.trans (putPg_below (p := pC) GC.out)).cell HBB7.out).trans E7.out, ((B22.out.trans (putPg_below (p := pC) GC.out)).cell HBB8.out).trans E8.out, ((B22.out.trans (putPg_below (p := pC) GC.out)).cell HBB9.out).trans E9.out, ((B22.out.trans (putPg_below (p := pC) GC.out)).cell HBB10.out).trans E10.out⟩
            clear hK K
            try simp only [Act.put, List.setIfInBounds_toArray, List.set_cons_zero, List.set_cons_succ]
            refine wpAnyH_done (by kernel_rfl) ?_ _
            clear hHeld
            obtain ⟨w23, hw⟩ : ∃ wx, wx = putPg pC c' t' s' r' al ac' 0 en' cu' w22 := ⟨_, rfl⟩
            have XC23 := Lib.hid (show BxPg pC c' t' s' r' al ac' 0 en' cu' w23 by rw [hw]; exact XC22.out.put)
            have B23 := Lib.hid (show Below w.heap.size w w23 by rw [hw]; exact B22.out.trans (putPg_below GC.out))
            have hz : w22.heap.size ≤ w23.heap.size := by rw [hw]; exact (putPg_below (B := 0) (Nat.zero_le _)).size
            have SC23 := Lib.hid (Nat.lt_of_lt_of_le SC22.out hz)
            have XR23 := Lib.hid (show BxRn pR c t s r w23 by rw [hw]; unfold putPg; exact (((((((((XR22.out.other rfl (Nat.ne_of_lt OCR.out)).other rfl (Nat.ne_of_lt OCR.out)).other rfl (Nat.ne_of_lt OCR.out)).other rfl (Nat.ne_of_lt OCR.out)).other rfl (Nat.ne_of_lt OCR.out)).other rfl (Nat.ne_of_lt OCR.out)).other rfl (Nat.ne_of_lt OCR.out)).other rfl (Nat.ne_of_lt OCR.out)).other rfl (Nat.ne_of_lt OCR.out)))
            have SR23 := Lib.hid (Nat.lt_of_lt_of_le SR22.out hz)
            rw [show ((((((((w22.setCell ⟨pC, 0, none⟩ (.int .u64 (c' : Int))).setCell ⟨pC, 1, none⟩ (.int .u64 (t' : Int))).setCell ⟨pC, 2, none⟩ (.int .u64 (s' : Int))).setCell ⟨pC, 3, none⟩ (.int .u64 (r' : Int))).setCell ⟨pC, 4, none⟩ (.int .u64 (al : Int))).setCell ⟨pC, 5, none⟩ (.int .u64 (ac' : Int))).setCell ⟨pC, 6, none⟩ (.int .u64 0)).setCell ⟨pC, 7, none⟩ (.int .u64 (en' : Int))).setCell ⟨pC, 8, none⟩ (.bool cu') = w23 from hw.symm]
            clear c0 c1 c2 c3 c4 c5 c6 c7 c8 cf0 cf1 cf2 cf3 cf4 cf5 cf6 cf7 cf8
            clear hw hz B22 XC22 SC22 XR22 SR22
            go_upto_region 12 with fail
            obtain ⟨r0, r1, r2, r3, -, -, -, -⟩ := XR23.out
            refine wp_region_held_drew (S := fun wx => wx.cell? ⟨bb, off + k * 13 + 2, none⟩ = some (.int .u64 (g1 : Int)) ∧ wx.cell? ⟨bb, off + k * 13 + 3, none⟩ = some (.int .u64 (g2 : Int)) ∧ wx.cell? ⟨bb, off + k * 13 + 9, none⟩ = some (.bool gl)) (by kernel_rfl) ?_ (fun hHeld => ?_)
            · exact ⟨(B23.out.drew.cell HBB2.out).trans E2.out, (B23.out.drew.cell HBB3.out).trans E3.out, (B23.out.drew.cell HBB9.out).trans E9.out⟩
            refine held_take (v := ?vv141) 1 rfl (by kernel_rfl) (by kernel_rfl) (by kernel_rfl) (fun _ _ _ h => h) (by rfl) ?yy141 (by assumption) ?nn141
            case yy141 =>
              intro w hSw
              (try dsimp only at hSw)
              go_simp
              try with_reducible rfl
            try simp only [Act.put, List.setIfInBounds_toArray, List.set_cons_zero, List.set_cons_succ]
            refine held_take (v := ?vv142) 2 rfl (by kernel_rfl) (by kernel_rfl) (by kernel_rfl) (fun _ _ _ h => h) (by rfl) ?yy142 (by assumption) ?nn142
            case yy142 =>
              intro w hSw
              (try dsimp only at hSw)
              go_simp
              try with_reducible rfl
            try simp only [Act.put, List.setIfInBounds_toArray, List.set_cons_zero, List.set_cons_succ]
            refine held_take (v := ?vv143) 3 rfl (by kernel_rfl) (by kernel_rfl) (by kernel_rfl) (fun _ _ _ h => h) (by rfl) ?yy143 (by assumption) ?nn143
            case yy143 =>
              intro w hSw
              (try dsimp only at hSw)
              go_simp
              try with_reducible rfl
            try simp only [Act.put, List.setIfInBounds_toArray, List.set_cons_zero, List.set_cons_succ]
            refine held_take (v := ?vv144) 4 rfl (by kernel_rfl) (by kernel_rfl) (by kernel_rfl) (fun _ _ _ h => h) (by rfl) ?yy144 (by assumption) ?nn144
            case yy144 =>
              intro w hSw
              (try dsimp only at hSw)
              go_simp
              try with_reducible rfl
            try simp only [Act.put, List.setIfInBounds_toArray, List.set_cons_zero, List.set_cons_succ]
            refine held_take (v := ?vv145) 5 rfl (by kernel_rfl) (by kernel_rfl) (by kernel_rfl) (fun _ _ _ h => h) (by rfl) ?yy145 (by assumption) ?nn145
            case yy145 =>
              intro w hSw
              (try dsimp only at hSw)
              go_simp
              try with_reducible rfl
            try simp only [Act.put, List.setIfInBounds_toArray, List.set_cons_zero, List.set_cons_succ]
            refine held_take (v := .int .u64 (g1 : Int)) 6 rfl (by kernel_rfl) (by kernel_rfl) (by kernel_rfl) (fun _ _ _ h => h) (by rfl) (fun wx hSw => by have a0 := hSw.1; clear hSw; (try dsimp only at a0); go_simp) (by assumption) ?_
            try simp only [Act.put, List.setIfInBounds_toArray, List.set_cons_zero, List.set_cons_succ]
            refine held_take (v := ?vv147) 7 rfl (by kernel_rfl) (by kernel_rfl) (by kernel_rfl) (fun _ _ _ h => h) (by rfl) ?yy147 (by assumption) ?nn147
            case yy147 =>
              intro w hSw
              (try dsimp only at hSw)
              go_simp
              try with_reducible rfl
            try simp only [Act.put, List.setIfInBounds_toArray, List.set_cons_zero, List.set_cons_succ]
            refine held_take (v := ?vv148) 8 rfl (by kernel_rfl) (by kernel_rfl) (by kernel_rfl) (fun _ _ _ h => h) (by rfl) ?yy148 (by assumption) ?nn148
            case yy148 =>
              intro w hSw
              (try dsimp only at hSw)
              go_simp
              try with_reducible rfl
            try simp only [Act.put, List.setIfInBounds_toArray, List.set_cons_zero, List.set_cons_succ]
            refine held_take (v := ?vv149) 9 rfl (by kernel_rfl) (by kernel_rfl) (by kernel_rfl) (fun _ _ _ h => h) (by rfl) ?yy149 (by assumption) ?nn149
            case yy149 =>
              intro w hSw
              (try dsimp only at hSw)
              go_simp
              try with_reducible rfl
            try simp only [Act.put, List.setIfInBounds_toArray, List.set_cons_zero, List.set_cons_succ]
            refine held_take (v := ?vv150) 10 rfl (by kernel_rfl) (by kernel_rfl) (by kernel_rfl) (fun _ _ _ h => h) (by rfl) ?yy150 (by assumption) ?nn150
            case yy150 =>
              intro w hSw
              (try dsimp only at hSw)
              go_simp
              try with_reducible rfl
            try simp only [Act.put, List.setIfInBounds_toArray, List.set_cons_zero, List.set_cons_succ]
            refine held_take (v := ?vv151) 11 rfl (by kernel_rfl) (by kernel_rfl) (by kernel_rfl) (fun _ _ _ h => h) (by rfl) ?yy151 (by assumption) ?nn151
            case yy151 =>
              intro w hSw
              (try dsimp only at hSw)
              go_simp
              try with_reducible rfl
            try simp only [Act.put, List.setIfInBounds_toArray, List.set_cons_zero, List.set_cons_succ]
            refine held_take (v := .int .u64 (g2 : Int)) 12 rfl (by kernel_rfl) (by kernel_rfl) (by kernel_rfl) (fun _ _ _ h => h) (by rfl) (fun wx hSw => by have a0 := hSw.2.1; clear hSw; (try dsimp only at a0); go_simp) (by assumption) ?_
            try simp only [Act.put, List.setIfInBounds_toArray, List.set_cons_zero, List.set_cons_succ]
            refine held_take (v := ?vv153) 13 rfl (by kernel_rfl) (by kernel_rfl) (by kernel_rfl) (fun _ _ _ h => h) (by rfl) ?yy153 (by assumption) ?nn153
            case yy153 =>
              intro w hSw
              (try dsimp only at hSw)
              go_simp
              try with_reducible rfl
            try simp only [Act.put, List.setIfInBounds_toArray, List.set_cons_zero, List.set_cons_succ]
            refine held_take (v := ?vv154) 14 rfl (by kernel_rfl) (by kernel_rfl) (by kernel_rfl) (fun _ _ _ h => h) (by rfl) ?yy154 (by assumption) ?nn154
            case yy154 =>
              intro w hSw
              (try dsimp only at hSw)
              go_simp
              try with_reducible rfl
            try simp only [Act.put, List.setIfInBounds_toArray, List.set_cons_zero, List.set_cons_succ]
            refine held_take (v := ?vv155) 15 rfl (by kernel_rfl) (by kernel_rfl) (by kernel_rfl) (fun _ _ _ h => h) (by rfl) ?yy155 (by assumption) ?nn155
            case yy155 =>
              intro w hSw
              (try dsimp only at hSw)
              go_simp
              try with_reducible rfl
            try simp only [Act.put, List.setIfInBounds_toArray, List.set_cons_zero, List.set_cons_succ]
            refine held_take (v := ?vv156) 16 rfl (by kernel_rfl) (by kernel_rfl) (by kernel_rfl) (fun _ _ _ h => h) (by rfl) ?yy156 (by assumption) ?nn156
            case yy156 =>
              intro w hSw
              (try dsimp only at hSw)
              go_simp
              try with_reducible rfl
            try simp only [Act.put, List.setIfInBounds_toArray, List.set_cons_zero, List.set_cons_succ]
            refine held_take (v := ?vv157) 17 rfl (by kernel_rfl) (by kernel_rfl) (by kernel_rfl) (fun _ _ _ h => h) (by rfl) ?yy157 (by assumption) ?nn157
            case yy157 =>
              intro w hSw
              (try dsimp only at hSw)
              go_simp
              try with_reducible rfl
            try simp only [Act.put, List.setIfInBounds_toArray, List.set_cons_zero, List.set_cons_succ]
            refine held_take (v := .bool gl) 18 rfl (by kernel_rfl) (by kernel_rfl) (by kernel_rfl) (fun _ _ _ h => h) (by rfl) (fun wx hSw => by have a0 := hSw.2.2; clear hSw; (try dsimp only at a0); go_simp) (by assumption) ?_
            try simp only [Act.put, List.setIfInBounds_toArray, List.set_cons_zero, List.set_cons_succ]
            refine held_do 0 rfl (by kernel_rfl) (by rfl) (fun K hK => ?_)
            go_wp2_with fail
            refine hK.out _ _ ?_ (fun hHeld => ?_)
            · exact ⟨(B23.out.drew.cell HBB2.out).trans E2.out, (B23.out.drew.cell HBB3.out).trans E3.out, (B23.out.drew.cell HBB9.out).trans E9.out⟩
            clear hK K
            try simp only [Act.put, List.setIfInBounds_toArray, List.set_cons_zero, List.set_cons_succ]
            refine held_do 19 rfl (by kernel_rfl) (by rfl) (fun K hK => ?_)
            go_wp2_with (go_at_call 20; refine (C3.out _).mono ?_; rintro e w24 ⟨rfl, hb24⟩; have HB := Lib.hid hb24; clear hb24)
            refine hK.out _ _ ?_ (fun hHeld => ?_)
            · exact ⟨((below_trans' B23.out.drew HB.out).cell HBB2.out).trans E2.out, ((below_trans' B23.out.drew HB.out).cell HBB3.out).trans E3.out, ((below_trans' B23.out.drew HB.out).cell HBB9.out).trans E9.out⟩
            clear hK K
            try simp only [Act.put, List.setIfInBounds_toArray, List.set_cons_zero, List.set_cons_succ]
            have B24 := Lib.hid (below_trans' B23.out.drew HB.out)
            have XC24 := Lib.hid (XC23.out.drew.below HB.out SC23.out)
            have SC24 := Lib.hid (Nat.lt_of_lt_of_le SC23.out HB.out.size)
            have XR24 := Lib.hid (XR23.out.drew.below HB.out SR23.out)
            have SR24 := Lib.hid (Nat.lt_of_lt_of_le SR23.out HB.out.size)
            clear r0 r1 r2 r3
            clear HB B23 XC23 SC23 XR23 SR23
            obtain ⟨r0, r1, r2, r3, rf0, rf1, rf2, rf3⟩ := XR24.out
            refine held_do 20 rfl (by kernel_rfl) (by rfl) (fun K hK => ?_)
            go_wp2_with fail
            refine hK.out _ _ ?_ (fun hHeld => ?_)
            · exact ⟨((B24.out.trans (putRn_below (p := pR) GR.out)).cell HBB2.out).trans E2.out, ((B24.out.trans (putRn_below (p := pR) GR.out)).cell HBB3.out).trans E3.out, ((B24.out.trans (putRn_below (p := pR) GR.out)).cell HBB9.out).trans E9.out⟩
            clear hK K
            try simp only [Act.put, List.setIfInBounds_toArray, List.set_cons_zero, List.set_cons_succ]
            refine wpAnyH_done (by kernel_rfl) ?_ _
            clear hHeld
            obtain ⟨w25, hw⟩ : ∃ wx, wx = putRn pR c' t' s' r' w24 := ⟨_, rfl⟩
            have XR25 := Lib.hid (show BxRn pR c' t' s' r' w25 by rw [hw]; exact XR24.out.put)
            have B25 := Lib.hid (show Below w.heap.size w w25 by rw [hw]; exact B24.out.trans (putRn_below GR.out))
            have hz : w24.heap.size ≤ w25.heap.size := by rw [hw]; exact (putRn_below (B := 0) (Nat.zero_le _)).size
            have SR25 := Lib.hid (Nat.lt_of_lt_of_le SR24.out hz)
            have XC25 := Lib.hid (show BxPg pC c' t' s' r' al ac' 0 en' cu' w25 by rw [hw]; unfold putRn; exact ((((XC24.out.other rfl (Nat.ne_of_gt OCR.out)).other rfl (Nat.ne_of_gt OCR.out)).other rfl (Nat.ne_of_gt OCR.out)).other rfl (Nat.ne_of_gt OCR.out)))
            have SC25 := Lib.hid (Nat.lt_of_lt_of_le SC24.out hz)
            rw [show (((w24.setCell ⟨pR, 0, none⟩ (.int .u64 (c' : Int))).setCell ⟨pR, 1, none⟩ (.int .u64 (t' : Int))).setCell ⟨pR, 2, none⟩ (.int .u64 (s' : Int))).setCell ⟨pR, 3, none⟩ (.int .u64 (r' : Int)) = w25 from hw.symm]
            clear r0 r1 r2 r3 rf0 rf1 rf2 rf3
            clear hw hz B24 XR24 SR24 XC24 SC24
            obtain ⟨c0, c1, c2, c3, c4, c5, c6, c7, c8, -, -, -, -, -, -, -, -, -⟩ := XC25.out
            obtain ⟨r0, r1, r2, r3, -, -, -, -⟩ := XR25.out
            have rn := Rno.reno_ne c' t' s' r'
            have rg := Rno.reno_guard
            have RZ := Lib.hid (show CaRel m pC pR w (.int .i64 (k1 : Int)) w25 from ⟨k1, c', t', s', r', al, ac', en', cu', HR.out.1, HR.out.2.1, rfl, HF.out.1, HF.out.2, XC25.out, XR25.out, SC25.out, SR25.out, B25.out⟩)
            go_wp2_with fail
            go_roundw
            case rel => exact RZ.out
            case measure => have := HR.out; simp [intOf]; omega
        · by_cases hk3 : kd = 3
          · subst hk3
            have d1 : ((3 : Int) == 1) = false := by decide
            have hcalm : Wig.GCalm ⟨⟨c, t, s, r⟩, al, ac, 0, en, cu⟩ ⟨c, t, s, r⟩ := ⟨rfl, rfl⟩
            obtain ⟨qe, hqe⟩ : ∃ q, q = decide (en ≤ g3) := ⟨_, rfl⟩
            have t5 : decide (en ≤ g3) = qe := hqe.symm
            clear hqe
            obtain ⟨⟨⟨c', t', s', r'⟩, al', ac', mk', en', cu'⟩, hq⟩ : ∃ q, Wig.gloss ⟨⟨c, t, s, r⟩, al, ac, 0, en, cu⟩ a2 g0 = q := ⟨_, rfl⟩
            obtain ⟨hb1, hb3⟩ := Wig.gcalm_loss hcalm a2 g0
            have ok1 := Wig.gloss_ok (a := a2) (n := g0) ok
            have hal : (Wig.gloss ⟨⟨c, t, s, r⟩, al, ac, 0, en, cu⟩ a2 g0).alpha = al := rfl
            rw [hq] at hb1 hb3 ok1 hal
            simp only at hb1 hb3 hal
            obtain rfl : mk' = 0 := hb3
            have hn := hb1.symm
            clear hb1
            have hf1 : al' ≤ 1048576 := by omega
            clear hal
            have C2 := Lib.hid (fun w => loss_any c t s r al ac 0 en cu a2 g0 c' t' s' r' al' ac' 0 en' cu' w ok ha2 hg0 hq)
            have C3 := Lib.hid (fun w => Rno.loss_any c t s r a2 g0 c' t' s' r' w ok.1 ha2 hg0 hn)
            have HF := Lib.hid (And.intro hf1 ok1)
            clear hf1 ok1 hcalm hfine ok hka hkb a1 a3 hg0 hg1 hg2 hg3 hg4 hb2 ha2 hq hn hk1
            have d4 := (B20.out.cell HBB4.out).trans E4.out
            obtain ⟨kc0, kc1, kc2, kc3, kc4, kc5, kc6, kc7, kc8, -, -, -, -, -, -, -, -, -⟩ := XC20.out
            go_wp2_with fail
            go_quiet (first | fail)
            obtain ⟨w21, hw⟩ : ∃ wx, wx = wr.drewN nq := ⟨_, rfl⟩
            rw [← hw]
            have B21 := Lib.hid (show Below w.heap.size w w21 by rw [hw]; exact below_drewN' B20.out nq)
            have XC21 := Lib.hid (show BxPg pC c t s r al ac 0 en cu w21 by rw [hw]; exact XC20.out.drewN nq)
            have SC21 := Lib.hid (show pC < w21.heap.size by rw [hw]; exact SC20.out)
            have XR21 := Lib.hid (show BxRn pR c t s r w21 by rw [hw]; exact XR20.out.drewN nq)
            have SR21 := Lib.hid (show pR < w21.heap.size by rw [hw]; exact SR20.out)
            clear kc0 kc1 kc2 kc3 kc4 kc5 kc6 kc7 kc8
            clear hw B20 XC20 SC20 XR20 SR20
            clear d4
            have d00 := (B21.out.cell HBB0.out).trans E0.out
            obtain ⟨kc0, kc1, kc2, kc3, kc4, kc5, kc6, kc7, kc8, -, -, -, -, -, -, -, -, -⟩ := XC21.out
            go_upto_region 16 with fail
            clear d00
            obtain ⟨c0, c1, c2, c3, c4, c5, c6, c7, c8, -, -, -, -, -, -, -, -, -⟩ := XC21.out
            refine wp_region_held_drew (S := fun wx => wx.cell? ⟨bb, off + k * 13 + 12, none⟩ = some (.int .u64 (a2 : Int)) ∧ wx.cell? ⟨bb, off + k * 13 + 1, none⟩ = some (.int .u64 (g0 : Int))) (by kernel_rfl) ?_ (fun hHeld => ?_)
            · exact ⟨(B21.out.drew.cell HBB12.out).trans E12.out, (B21.out.drew.cell HBB1.out).trans E1.out⟩
            refine held_take (v := ?vv163) 1 rfl (by kernel_rfl) (by kernel_rfl) (by kernel_rfl) (fun _ _ _ h => h) (by rfl) ?yy163 (by assumption) ?nn163
            case yy163 =>
              intro w hSw
              (try dsimp only at hSw)
              go_simp
              try with_reducible rfl
            try simp only [Act.put, List.setIfInBounds_toArray, List.set_cons_zero, List.set_cons_succ]
            refine held_take (v := ?vv164) 2 rfl (by kernel_rfl) (by kernel_rfl) (by kernel_rfl) (fun _ _ _ h => h) (by rfl) ?yy164 (by assumption) ?nn164
            case yy164 =>
              intro w hSw
              (try dsimp only at hSw)
              go_simp
              try with_reducible rfl
            try simp only [Act.put, List.setIfInBounds_toArray, List.set_cons_zero, List.set_cons_succ]
            refine held_take (v := ?vv165) 3 rfl (by kernel_rfl) (by kernel_rfl) (by kernel_rfl) (fun _ _ _ h => h) (by rfl) ?yy165 (by assumption) ?nn165
            case yy165 =>
              intro w hSw
              (try dsimp only at hSw)
              go_simp
              try with_reducible rfl
            try simp only [Act.put, List.setIfInBounds_toArray, List.set_cons_zero, List.set_cons_succ]
            refine held_take (v := ?vv166) 4 rfl (by kernel_rfl) (by kernel_rfl) (by kernel_rfl) (fun _ _ _ h => h) (by rfl) ?yy166 (by assumption) ?nn166
            case yy166 =>
              intro w hSw
              (try dsimp only at hSw)
              go_simp
              try with_reducible rfl
            try simp only [Act.put, List.setIfInBounds_toArray, List.set_cons_zero, List.set_cons_succ]
            refine held_take (v := .int .u64 (a2 : Int)) 5 rfl (by kernel_rfl) (by kernel_rfl) (by kernel_rfl) (fun _ _ _ h => h) (by rfl) (fun wx hSw => by have a0 := hSw.1; clear hSw; (try dsimp only at a0); go_simp) (by assumption) ?_
            try simp only [Act.put, List.setIfInBounds_toArray, List.set_cons_zero, List.set_cons_succ]
            refine held_take (v := ?vv168) 6 rfl (by kernel_rfl) (by kernel_rfl) (by kernel_rfl) (fun _ _ _ h => h) (by rfl) ?yy168 (by assumption) ?nn168
            case yy168 =>
              intro w hSw
              (try dsimp only at hSw)
              go_simp
              try with_reducible rfl
            try simp only [Act.put, List.setIfInBounds_toArray, List.set_cons_zero, List.set_cons_succ]
            refine held_take (v := ?vv169) 7 rfl (by kernel_rfl) (by kernel_rfl) (by kernel_rfl) (fun _ _ _ h => h) (by rfl) ?yy169 (by assumption) ?nn169
            case yy169 =>
              intro w hSw
              (try dsimp only at hSw)
              go_simp
              try with_reducible rfl
            try simp only [Act.put, List.setIfInBounds_toArray, List.set_cons_zero, List.set_cons_succ]
            refine held_take (v := ?vv170) 8 rfl (by kernel_rfl) (by kernel_rfl) (by kernel_rfl) (fun _ _ _ h => h) (by rfl) ?yy170 (by assumption) ?nn170
            case yy170 =>
              intro w hSw
              (try dsimp only at hSw)
              go_simp
              try with_reducible rfl
            try simp only [Act.put, List.setIfInBounds_toArray, List.set_cons_zero, List.set_cons_succ]
            refine held_take (v := ?vv171) 9 rfl (by kernel_rfl) (by kernel_rfl) (by kernel_rfl) (fun _ _ _ h => h) (by rfl) ?yy171 (by assumption) ?nn171
            case yy171 =>
              intro w hSw
              (try dsimp only at hSw)
              go_simp
              try with_reducible rfl
            try simp only [Act.put, List.setIfInBounds_toArray, List.set_cons_zero, List.set_cons_succ]
            refine held_take (v := ?vv172) 10 rfl (by kernel_rfl) (by kernel_rfl) (by kernel_rfl) (fun _ _ _ h => h) (by rfl) ?yy172 (by assumption) ?nn172
            case yy172 =>
              intro w hSw
              (try dsimp only at hSw)
              go_simp
              try with_reducible rfl
            try simp only [Act.put, List.setIfInBounds_toArray, List.set_cons_zero, List.set_cons_succ]
            refine held_take (v := .int .u64 (g0 : Int)) 11 rfl (by kernel_rfl) (by kernel_rfl) (by kernel_rfl) (fun _ _ _ h => h) (by rfl) (fun wx hSw => by have a0 := hSw.2; clear hSw; (try dsimp only at a0); go_simp) (by assumption) ?_
            try simp only [Act.put, List.setIfInBounds_toArray, List.set_cons_zero, List.set_cons_succ]
            refine held_do 0 rfl (by kernel_rfl) (by rfl) (fun K hK => ?_)
            go_wp2_with fail
            refine hK.out _ _ ?_ (fun hHeld => ?_)
            · exact ⟨(B21.out.drew.cell HBB12.out).trans E12.out, (B21.out.drew.cell HBB1.out).trans E1.out⟩
            clear hK K
            try simp only [Act.put, List.setIfInBounds_toArray, List.set_cons_zero, List.set_cons_succ]
            refine held_do 12 rfl (by kernel_rfl) (by rfl) (fun K hK => ?_)
            go_wp2_with (go_at_call 13; refine (C2.out _).mono ?_; rintro e w22 ⟨rfl, hb22⟩; have HB := Lib.hid hb22; clear hb22)
            refine hK.out _ _ ?_ (fun hHeld => ?_)
            · exact ⟨((below_trans' B21.out.drew HB.out).cell HBB12.out).trans E12.out, ((below_trans' B21.out.drew HB.out).cell HBB1.out).trans E1.out⟩
            clear hK K
            try simp only [Act.put, List.setIfInBounds_toArray, List.set_cons_zero, List.set_cons_succ]
            have B22 := Lib.hid (below_trans' B21.out.drew HB.out)
            have XC22 := Lib.hid (XC21.out.drew.below HB.out SC21.out)
            have SC22 := Lib.hid (Nat.lt_of_lt_of_le SC21.out HB.out.size)
            have XR22 := Lib.hid (XR21.out.drew.below HB.out SR21.out)
            have SR22 := Lib.hid (Nat.lt_of_lt_of_le SR21.out HB.out.size)
            clear kc0 kc1 kc2 kc3 kc4 kc5 kc6 kc7 kc8 c0 c1 c2 c3 c4 c5 c6 c7 c8
            clear HB B21 XC21 SC21 XR21 SR21
            obtain ⟨c0, c1, c2, c3, c4, c5, c6, c7, c8, cf0, cf1, cf2, cf3, cf4, cf5, cf6, cf7, cf8⟩ := XC22.out
            refine held_do 13 rfl (by kernel_rfl) (by rfl) (fun K hK => ?_)
            go_wp2_with fail
            refine hK.out _ _ ?_ (fun hHeld => ?_)
            · exact ⟨((B22.out.trans (putPg_below (p := pC) GC.out)).cell HBB12.out).trans E12.out, ((B22.out.trans (putPg_below (p := pC) GC.out)).cell HBB1.out).trans E1.out⟩
            clear hK K
            try simp only [Act.put, List.setIfInBounds_toArray, List.set_cons_zero, List.set_cons_succ]
            refine wpAnyH_done (by kernel_rfl) ?_ _
            clear hHeld
            obtain ⟨w23, hw⟩ : ∃ wx, wx = putPg pC c' t' s' r' al' ac' 0 en' cu' w22 := ⟨_, rfl⟩
            have XC23 := Lib.hid (show BxPg pC c' t' s' r' al' ac' 0 en' cu' w23 by rw [hw]; exact XC22.out.put)
            have B23 := Lib.hid (show Below w.heap.size w w23 by rw [hw]; exact B22.out.trans (putPg_below GC.out))
            have hz : w22.heap.size ≤ w23.heap.size := by rw [hw]; exact (putPg_below (B := 0) (Nat.zero_le _)).size
            have SC23 := Lib.hid (Nat.lt_of_lt_of_le SC22.out hz)
            have XR23 := Lib.hid (show BxRn pR c t s r w23 by rw [hw]; unfold putPg; exact (((((((((XR22.out.other rfl (Nat.ne_of_lt OCR.out)).other rfl (Nat.ne_of_lt OCR.out)).other rfl (Nat.ne_of_lt OCR.out)).other rfl (Nat.ne_of_lt OCR.out)).other rfl (Nat.ne_of_lt OCR.out)).other rfl (Nat.ne_of_lt OCR.out)).other rfl (Nat.ne_of_lt OCR.out)).other rfl (Nat.ne_of_lt OCR.out)).other rfl (Nat.ne_of_lt OCR.out)))
            have SR23 := Lib.hid (Nat.lt_of_lt_of_le SR22.out hz)
            rw [show ((((((((w22.setCell ⟨pC, 0, none⟩ (.int .u64 (c' : Int))).setCell ⟨pC, 1, none⟩ (.int .u64 (t' : Int))).setCell ⟨pC, 2, none⟩ (.int .u64 (s' : Int))).setCell ⟨pC, 3, none⟩ (.int .u64 (r' : Int))).setCell ⟨pC, 4, none⟩ (.int .u64 (al' : Int))).setCell ⟨pC, 5, none⟩ (.int .u64 (ac' : Int))).setCell ⟨pC, 6, none⟩ (.int .u64 0)).setCell ⟨pC, 7, none⟩ (.int .u64 (en' : Int))).setCell ⟨pC, 8, none⟩ (.bool cu') = w23 from hw.symm]
            clear c0 c1 c2 c3 c4 c5 c6 c7 c8 cf0 cf1 cf2 cf3 cf4 cf5 cf6 cf7 cf8
            clear hw hz B22 XC22 SC22 XR22 SR22
            go_upto_region 17 with fail
            obtain ⟨r0, r1, r2, r3, -, -, -, -⟩ := XR23.out
            refine wp_region_held_drew (S := fun wx => wx.cell? ⟨bb, off + k * 13 + 12, none⟩ = some (.int .u64 (a2 : Int)) ∧ wx.cell? ⟨bb, off + k * 13 + 1, none⟩ = some (.int .u64 (g0 : Int))) (by kernel_rfl) ?_ (fun hHeld => ?_)
            · exact ⟨(B23.out.drew.cell HBB12.out).trans E12.out, (B23.out.drew.cell HBB1.out).trans E1.out⟩
            refine held_take (v := ?vv178) 1 rfl (by kernel_rfl) (by kernel_rfl) (by kernel_rfl) (fun _ _ _ h => h) (by rfl) ?yy178 (by assumption) ?nn178
            case yy178 =>
              intro w hSw
              (try dsimp only at hSw)
              go_simp
              try with_reducible rfl
            try simp only [Act.put, List.setIfInBounds_toArray, List.set_cons_zero, List.set_cons_succ]
            refine held_take (v := ?vv179) 2 rfl (by kernel_rfl) (by kernel_rfl) (by kernel_rfl) (fun _ _ _ h => h) (by rfl) ?yy179 (by assumption) ?nn179
            case yy179 =>
              intro w hSw
              (try dsimp only at hSw)
              go_simp
              try with_reducible rfl
            try simp only [Act.put, List.setIfInBounds_toArray, List.set_cons_zero, List.set_cons_succ]
            refine held_take (v := ?vv180) 3 rfl (by kernel_rfl) (by kernel_rfl) (by kernel_rfl) (fun _ _ _ h => h) (by rfl) ?yy180 (by assumption) ?nn180
            case yy180 =>
              intro w hSw
              (try dsimp only at hSw)
              go_simp
              try with_reducible rfl
            try simp only [Act.put, List.setIfInBounds_toArray, List.set_cons_zero, List.set_cons_succ]
            refine held_take (v := ?vv181) 4 rfl (by kernel_rfl) (by kernel_rfl) (by kernel_rfl) (fun _ _ _ h => h) (by rfl) ?yy181 (by assumption) ?nn181
            case yy181 =>
              intro w hSw
              (try dsimp only at hSw)
              go_simp
              try with_reducible rfl
            try simp only [Act.put, List.setIfInBounds_toArray, List.set_cons_zero, List.set_cons_succ]
            refine held_take (v := .int .u64 (a2 : Int)) 5 rfl (by kernel_rfl) (by kernel_rfl) (by kernel_rfl) (fun _ _ _ h => h) (by rfl) (fun wx hSw => by have a0 := hSw.1; clear hSw; (try dsimp only at a0); go_simp) (by assumption) ?_
            try simp only [Act.put, List.setIfInBounds_toArray, List.set_cons_zero, List.set_cons_succ]
            refine held_take (v := ?vv183) 6 rfl (by kernel_rfl) (by kernel_rfl) (by kernel_rfl) (fun _ _ _ h => h) (by rfl) ?yy183 (by assumption) ?nn183
            case yy183 =>
              intro w hSw
              (try dsimp only at hSw)
              go_simp
              try with_reducible rfl
            try simp only [Act.put, List.setIfInBounds_toArray, List.set_cons_zero, List.set_cons_succ]
            refine held_take (v := ?vv184) 7 rfl (by kernel_rfl) (by kernel_rfl) (by kernel_rfl) (fun _ _ _ h => h) (by rfl) ?yy184 (by assumption) ?nn184
            case yy184 =>
              intro w hSw
              (try dsimp only at hSw)
              go_simp
              try with_reducible rfl
            try simp only [Act.put, List.setIfInBounds_toArray, List.set_cons_zero, List.set_cons_succ]
            refine held_take (v := ?vv185) 8 rfl (by kernel_rfl) (by kernel_rfl) (by kernel_rfl) (fun _ _ _ h => h) (by rfl) ?yy185 (by assumption) ?nn185
            case yy185 =>
              intro w hSw
              (try dsimp only at hSw)
              go_simp
              try with_reducible rfl
            try simp only [Act.put, List.setIfInBounds_toArray, List.set_cons_zero, List.set_cons_succ]
            refine held_take (v := ?vv186) 9 rfl (by kernel_rfl) (by kernel_rfl) (by kernel_rfl) (fun _ _ _ h => h) (by rfl) ?yy186 (by assumption) ?nn186
            case yy186 =>
              intro w hSw
              (try dsimp only at hSw)
              go_simp
              try with_reducible rfl
            try simp only [Act.put, List.setIfInBounds_toArray, List.set_cons_zero, List.set_cons_succ]
            refine held_take (v := ?vv187) 10 rfl (by kernel_rfl) (by kernel_rfl) (by kernel_rfl) (fun _ _ _ h => h) (by rfl) ?yy187 (by assumption) ?nn187
            case yy187 =>
              intro w hSw
              (try dsimp only at hSw)
              go_simp
              try with_reducible rfl
            try simp only [Act.put, List.setIfInBounds_toArray, List.set_cons_zero, List.set_cons_succ]
            refine held_take (v := .int .u64 (g0 : Int)) 11 rfl (by kernel_rfl) (by kernel_rfl) (by kernel_rfl) (fun _ _ _ h => h) (by rfl) (fun wx hSw => by have a0 := hSw.2; clear hSw; (try dsimp only at a0); go_simp) (by assumption) ?_
            try simp only [Act.put, List.setIfInBounds_toArray, List.set_cons_zero, List.set_cons_succ]
            refine held_do 0 rfl (by kernel_rfl) (by rfl) (fun K hK => ?_)
            go_wp2_with fail
            refine hK.out _ _ ?_ (fun hHeld => ?_)
            · exact ⟨(B23.out.drew.cell HBB12.out).trans E12.out, (B23.out.drew.cell HBB1.out).trans E1.out⟩
            clear hK K
            try simp only [Act.put, List.setIfInBounds_toArray, List.set_cons_zero, List.set_cons_succ]
            refine held_do 12 rfl (by kernel_rfl) (by rfl) (fun K hK => ?_)
            go_wp2_with (go_at_call 21; refine (C3.out _).mono ?_; rintro e w24 ⟨rfl, hb24⟩; have HB := Lib.hid hb24; clear hb24)
            refine hK.out _ _ ?_ (fun hHeld => ?_)
            · exact ⟨((below_trans' B23.out.drew HB.out).cell HBB12.out).trans E12.out, ((below_trans' B23.out.drew HB.out).cell HBB1.out).trans E1.out⟩
            clear hK K
            try simp only [Act.put, List.setIfInBounds_toArray, List.set_cons_zero, List.set_cons_succ]
            have B24 := Lib.hid (below_trans' B23.out.drew HB.out)
            have XC24 := Lib.hid (XC23.out.drew.below HB.out SC23.out)
            have SC24 := Lib.hid (Nat.lt_of_lt_of_le SC23.out HB.out.size)
            have XR24 := Lib.hid (XR23.out.drew.below HB.out SR23.out)
            have SR24 := Lib.hid (Nat.lt_of_lt_of_le SR23.out HB.out.size)
            clear r0 r1 r2 r3
            clear HB B23 XC23 SC23 XR23 SR23
            obtain ⟨r0, r1, r2, r3, rf0, rf1, rf2, rf3⟩ := XR24.out
            refine held_do 13 rfl (by kernel_rfl) (by rfl) (fun K hK => ?_)
            go_wp2_with fail
            refine hK.out _ _ ?_ (fun hHeld => ?_)
            · exact ⟨((B24.out.trans (putRn_below (p := pR) GR.out)).cell HBB12.out).trans E12.out, ((B24.out.trans (putRn_below (p := pR) GR.out)).cell HBB1.out).trans E1.out⟩
            clear hK K
            try simp only [Act.put, List.setIfInBounds_toArray, List.set_cons_zero, List.set_cons_succ]
            refine wpAnyH_done (by kernel_rfl) ?_ _
            clear hHeld
            obtain ⟨w25, hw⟩ : ∃ wx, wx = putRn pR c' t' s' r' w24 := ⟨_, rfl⟩
            have XR25 := Lib.hid (show BxRn pR c' t' s' r' w25 by rw [hw]; exact XR24.out.put)
            have B25 := Lib.hid (show Below w.heap.size w w25 by rw [hw]; exact B24.out.trans (putRn_below GR.out))
            have hz : w24.heap.size ≤ w25.heap.size := by rw [hw]; exact (putRn_below (B := 0) (Nat.zero_le _)).size
            have SR25 := Lib.hid (Nat.lt_of_lt_of_le SR24.out hz)
            have XC25 := Lib.hid (show BxPg pC c' t' s' r' al' ac' 0 en' cu' w25 by rw [hw]; unfold putRn; exact ((((XC24.out.other rfl (Nat.ne_of_gt OCR.out)).other rfl (Nat.ne_of_gt OCR.out)).other rfl (Nat.ne_of_gt OCR.out)).other rfl (Nat.ne_of_gt OCR.out)))
            have SC25 := Lib.hid (Nat.lt_of_lt_of_le SC24.out hz)
            rw [show (((w24.setCell ⟨pR, 0, none⟩ (.int .u64 (c' : Int))).setCell ⟨pR, 1, none⟩ (.int .u64 (t' : Int))).setCell ⟨pR, 2, none⟩ (.int .u64 (s' : Int))).setCell ⟨pR, 3, none⟩ (.int .u64 (r' : Int)) = w25 from hw.symm]
            clear r0 r1 r2 r3 rf0 rf1 rf2 rf3
            clear hw hz B24 XR24 SR24 XC24 SC24
            obtain ⟨c0, c1, c2, c3, c4, c5, c6, c7, c8, -, -, -, -, -, -, -, -, -⟩ := XC25.out
            obtain ⟨r0, r1, r2, r3, -, -, -, -⟩ := XR25.out
            have rn := Rno.reno_ne c' t' s' r'
            have rg := Rno.reno_guard
            have RZ := Lib.hid (show CaRel m pC pR w (.int .i64 (k1 : Int)) w25 from ⟨k1, c', t', s', r', al', ac', en', cu', HR.out.1, HR.out.2.1, rfl, HF.out.1, HF.out.2, XC25.out, XR25.out, SC25.out, SR25.out, B25.out⟩)
            go_wp2_with fail
            go_roundw
            case rel => exact RZ.out
            case measure => have := HR.out; simp [intOf]; omega
          · by_cases hk4 : kd = 4
            · subst hk4
              have d1 : ((4 : Int) == 1) = false := by decide
              have d3 : ((4 : Int) == 3) = false := by decide
              have hcalm : Wig.GCalm ⟨⟨c, t, s, r⟩, al, ac, 0, en, cu⟩ ⟨c, t, s, r⟩ := ⟨rfl, rfl⟩
              obtain ⟨qe, hqe⟩ : ∃ q, q = decide (en ≤ g3) := ⟨_, rfl⟩
              have t5 : decide (en ≤ g3) = qe := hqe.symm
              clear hqe
              have hf1 := hfine
              have ok1 : Wig.Pg.Ok ⟨⟨2400, t, 0, 0⟩, al, ac, 0, en, cu⟩ := Wig.gcoll_ok ok
              have C2 := Lib.hid (fun w => coll_any c t s r al ac 0 en cu w)
              have C3 := Lib.hid (fun w => Rno.coll_any c t s r w)
              have HF := Lib.hid (And.intro hf1 ok1)
              clear hf1 ok1 hcalm hfine ok hka hkb a1 a3 hg0 hg1 hg2 hg3 hg4 hb2 ha2  hk1 hk3
              have d4 := (B20.out.cell HBB4.out).trans E4.out
              obtain ⟨kc0, kc1, kc2, kc3, kc4, kc5, kc6, kc7, kc8, -, -, -, -, -, -, -, -, -⟩ := XC20.out
              go_wp2_with fail
              go_quiet (first | fail)
              obtain ⟨w21, hw⟩ : ∃ wx, wx = wr.drewN nq := ⟨_, rfl⟩
              rw [← hw]
              have B21 := Lib.hid (show Below w.heap.size w w21 by rw [hw]; exact below_drewN' B20.out nq)
              have XC21 := Lib.hid (show BxPg pC c t s r al ac 0 en cu w21 by rw [hw]; exact XC20.out.drewN nq)
              have SC21 := Lib.hid (show pC < w21.heap.size by rw [hw]; exact SC20.out)
              have XR21 := Lib.hid (show BxRn pR c t s r w21 by rw [hw]; exact XR20.out.drewN nq)
              have SR21 := Lib.hid (show pR < w21.heap.size by rw [hw]; exact SR20.out)
              clear kc0 kc1 kc2 kc3 kc4 kc5 kc6 kc7 kc8
              clear hw B20 XC20 SC20 XR20 SR20
              clear d4
              have d00 := (B21.out.cell HBB0.out).trans E0.out
              obtain ⟨kc0, kc1, kc2, kc3, kc4, kc5, kc6, kc7, kc8, -, -, -, -, -, -, -, -, -⟩ := XC21.out
              go_wp2_with fail
              clear d00
              refine (C2.out _).mono ?_
              rintro e w22 ⟨rfl, hb⟩
              have B22 := Lib.hid (below_trans' B21.out hb)
              have XC22 := Lib.hid (XC21.out.below hb SC21.out)
              have SC22 := Lib.hid (Nat.lt_of_lt_of_le SC21.out hb.size)
              have XR22 := Lib.hid (XR21.out.below hb SR21.out)
              have SR22 := Lib.hid (Nat.lt_of_lt_of_le SR21.out hb.size)
              clear kc0 kc1 kc2 kc3 kc4 kc5 kc6 kc7 kc8
              clear hb B21 XC21 SC21 XR21 SR21
              obtain ⟨c0, c1, c2, c3, c4, c5, c6, c7, c8, cf0, cf1, cf2, cf3, cf4, cf5, cf6, cf7, cf8⟩ := XC22.out
              go_upto_region 20 with fail
              obtain ⟨w23, hw⟩ : ∃ wx, wx = putPg pC 2400 t 0 0 al ac 0 en cu w22 := ⟨_, rfl⟩
              have XC23 := Lib.hid (show BxPg pC 2400 t 0 0 al ac 0 en cu w23 by rw [hw]; exact XC22.out.put)
              have B23 := Lib.hid (show Below w.heap.size w w23 by rw [hw]; exact B22.out.trans (putPg_below GC.out))
              have hz : w22.heap.size ≤ w23.heap.size := by rw [hw]; exact (putPg_below (B := 0) (Nat.zero_le _)).size
              have SC23 := Lib.hid (Nat.lt_of_lt_of_le SC22.out hz)
              have XR23 := Lib.hid (show BxRn pR c t s r w23 by rw [hw]; unfold putPg; exact (((((((((XR22.out.other rfl (Nat.ne_of_lt OCR.out)).other rfl (Nat.ne_of_lt OCR.out)).other rfl (Nat.ne_of_lt OCR.out)).other rfl (Nat.ne_of_lt OCR.out)).other rfl (Nat.ne_of_lt OCR.out)).other rfl (Nat.ne_of_lt OCR.out)).other rfl (Nat.ne_of_lt OCR.out)).other rfl (Nat.ne_of_lt OCR.out)).other rfl (Nat.ne_of_lt OCR.out)))
              have SR23 := Lib.hid (Nat.lt_of_lt_of_le SR22.out hz)
              rw [show ((((((((w22.setCell ⟨pC, 0, none⟩ (.int .u64 2400)).setCell ⟨pC, 1, none⟩ (.int .u64 (t : Int))).setCell ⟨pC, 2, none⟩ (.int .u64 0)).setCell ⟨pC, 3, none⟩ (.int .u64 0)).setCell ⟨pC, 4, none⟩ (.int .u64 (al : Int))).setCell ⟨pC, 5, none⟩ (.int .u64 (ac : Int))).setCell ⟨pC, 6, none⟩ (.int .u64 0)).setCell ⟨pC, 7, none⟩ (.int .u64 (en : Int))).setCell ⟨pC, 8, none⟩ (.bool cu) = w23 from hw.symm]
              clear c0 c1 c2 c3 c4 c5 c6 c7 c8 cf0 cf1 cf2 cf3 cf4 cf5 cf6 cf7 cf8
              clear hw hz B22 XC22 SC22 XR22 SR22
              obtain ⟨r0, r1, r2, r3, -, -, -, -⟩ := XR23.out
              go_wp2_with fail
              refine (C3.out _).mono ?_
              rintro e w24 ⟨rfl, hb⟩
              have B24 := Lib.hid (below_trans' B23.out hb)
              have XC24 := Lib.hid (XC23.out.below hb SC23.out)
              have SC24 := Lib.hid (Nat.lt_of_lt_of_le SC23.out hb.size)
              have XR24 := Lib.hid (XR23.out.below hb SR23.out)
              have SR24 := Lib.hid (Nat.lt_of_lt_of_le SR23.out hb.size)
              clear r0 r1 r2 r3
              clear hb B23 XC23 SC23 XR23 SR23
              obtain ⟨r0, r1, r2, r3, rf0, rf1, rf2, rf3⟩ := XR24.out
              go_upto_region 21 with fail
              obtain ⟨w25, hw⟩ : ∃ wx, wx = putRn pR 2400 t 0 0 w24 := ⟨_, rfl⟩
              have XR25 := Lib.hid (show BxRn pR 2400 t 0 0 w25 by rw [hw]; exact XR24.out.put)
              have B25 := Lib.hid (show Below w.heap.size w w25 by rw [hw]; exact B24.out.trans (putRn_below GR.out))
              have hz : w24.heap.size ≤ w25.heap.size := by rw [hw]; exact (putRn_below (B := 0) (Nat.zero_le _)).size
              have SR25 := Lib.hid (Nat.lt_of_lt_of_le SR24.out hz)
              have XC25 := Lib.hid (show BxPg pC 2400 t 0 0 al ac 0 en cu w25 by rw [hw]; unfold putRn; exact ((((XC24.out.other rfl (Nat.ne_of_gt OCR.out)).other rfl (Nat.ne_of_gt OCR.out)).other rfl (Nat.ne_of_gt OCR.out)).other rfl (Nat.ne_of_gt OCR.out)))
              have SC25 := Lib.hid (Nat.lt_of_lt_of_le SC24.out hz)
              rw [show (((w24.setCell ⟨pR, 0, none⟩ (.int .u64 2400)).setCell ⟨pR, 1, none⟩ (.int .u64 (t : Int))).setCell ⟨pR, 2, none⟩ (.int .u64 0)).setCell ⟨pR, 3, none⟩ (.int .u64 0) = w25 from hw.symm]
              clear r0 r1 r2 r3 rf0 rf1 rf2 rf3
              clear hw hz B24 XR24 SR24 XC24 SC24
              obtain ⟨c0, c1, c2, c3, c4, c5, c6, c7, c8, -, -, -, -, -, -, -, -, -⟩ := XC25.out
              obtain ⟨r0, r1, r2, r3, -, -, -, -⟩ := XR25.out
              have rn := Rno.reno_ne 2400 t 0 0
              have rg := Rno.reno_guard
              have RZ := Lib.hid (show CaRel m pC pR w (.int .i64 (k1 : Int)) w25 from ⟨k1, 2400, t, 0, 0, al, ac, en, cu, HR.out.1, HR.out.2.1, rfl, HF.out.1, HF.out.2, XC25.out, XR25.out, SC25.out, SR25.out, B25.out⟩)
              go_wp2_with fail
              go_roundw
              case rel => exact RZ.out
              case measure => have := HR.out; simp [intOf]; omega
            · have d1 : (kd == (1 : Int)) = false := by simpa using hk1
              have d3 : (kd == (3 : Int)) = false := by simpa using hk3
              have d4 : (kd == (4 : Int)) = false := by simpa using hk4
              have hcalm : Wig.GCalm ⟨⟨c, t, s, r⟩, al, ac, 0, en, cu⟩ ⟨c, t, s, r⟩ := ⟨rfl, rfl⟩
              obtain ⟨qe, hqe⟩ : ∃ q, q = decide (en ≤ g3) := ⟨_, rfl⟩
              have t5 : decide (en ≤ g3) = qe := hqe.symm
              clear hqe
              have hf1 := hfine
              have ok1 := ok
              have HF := Lib.hid (And.intro hf1 ok1)
              clear hf1 ok1 hcalm hfine ok hka hkb a1 a3 hg0 hg1 hg2 hg3 hg4 hb2 ha2  hk1 hk3 hk4
              have d4 := (B20.out.cell HBB4.out).trans E4.out
              obtain ⟨kc0, kc1, kc2, kc3, kc4, kc5, kc6, kc7, kc8, -, -, -, -, -, -, -, -, -⟩ := XC20.out
              go_wp2_with fail
              go_quiet (first | fail)
              obtain ⟨w21, hw⟩ : ∃ wx, wx = wr.drewN nq := ⟨_, rfl⟩
              rw [← hw]
              have B21 := Lib.hid (show Below w.heap.size w w21 by rw [hw]; exact below_drewN' B20.out nq)
              have XC21 := Lib.hid (show BxPg pC c t s r al ac 0 en cu w21 by rw [hw]; exact XC20.out.drewN nq)
              have SC21 := Lib.hid (show pC < w21.heap.size by rw [hw]; exact SC20.out)
              have XR21 := Lib.hid (show BxRn pR c t s r w21 by rw [hw]; exact XR20.out.drewN nq)
              have SR21 := Lib.hid (show pR < w21.heap.size by rw [hw]; exact SR20.out)
              clear kc0 kc1 kc2 kc3 kc4 kc5 kc6 kc7 kc8
              clear hw B20 XC20 SC20 XR20 SR20
              clear d4
              have d00 := (B21.out.cell HBB0.out).trans E0.out
              obtain ⟨kc0, kc1, kc2, kc3, kc4, kc5, kc6, kc7, kc8, -, -, -, -, -, -, -, -, -⟩ := XC21.out
              go_upto_region 21 with fail
              clear d00
              clear kc0 kc1 kc2 kc3 kc4 kc5 kc6 kc7 kc8
              obtain ⟨c0, c1, c2, c3, c4, c5, c6, c7, c8, -, -, -, -, -, -, -, -, -⟩ := XC21.out
              obtain ⟨r0, r1, r2, r3, -, -, -, -⟩ := XR21.out
              have rn := Rno.reno_ne c t s r
              have rg := Rno.reno_guard
              have RZ := Lib.hid (show CaRel m pC pR w (.int .i64 (k1 : Int)) w21 from ⟨k1, c, t, s, r, al, ac, en, cu, HR.out.1, HR.out.2.1, rfl, HF.out.1, HF.out.2, XC21.out, XR21.out, SC21.out, SR21.out, B21.out⟩)
              go_wp2_with fail
              go_roundw
              case rel => exact RZ.out
              case measure => have := HR.out; simp [intOf]; omega
      · have t1 : decide (k < m) = true := decide_eq_true a1
        have t2 : decide ((k : Int) < 200) = false := decide_eq_false (by omega)
        clear hka hkb hfine ok a1 a3
        go_wp2_with fail
        go_ret
        exact ⟨rfl, B20.out⟩
    · have t1 : decide (k < m) = false := decide_eq_false (by omega)
      clear hka hkb hfine ok a1
      go_wp2_with fail
      go_ret
      exact ⟨rfl, B20.out⟩

set_option maxRecDepth 100000 in
theorem lifted (os : Os) (started : os.Started) (H : Type) (enc : TypeId × Value → H) :
    ReturnsInHanded {} Try.checked os 5 .any (Rows.pragueCalmSpec.pre6 enc Try.prog Try.f5 Rows.pragueCalmRow.domain false) (Rows.pragueCalmSpec.post enc Try.prog Try.f5 false true false false) := by
  refine returnsInHanded_of_change (C := Try.checked) own started (by kernel_rfl) Try.func5
    (ChangeSpec.witness6 (enc := enc) (C := Try.checked) false ⟨#[], #[.int .u64 0, .slice none 0 0], []⟩ 8 (by kernel_rfl) (by kernel_rfl) (by kernel_rfl) (by kernel_rfl)) ?_
  intro W base args ds gs before hval0 hW hcnd _
  have hval : ∀ (j : Nat) t v, Try.f5.params[j]? = some t → args[j]? = some v → Value.okWide Try.prog W .any base t v := hval0
  have hW' := hW
  obtain ⟨p, q, hA0, hV, rfl, hfz, hnd⟩ := hW
  have hA : DataW.TrodAll enc Try.prog W 0 (fun _ => true) true Try.f5.params.toList args.toList ds p := hA0
  obtain ⟨rfl, rfl⟩ := trodVars_none hV
  simp only [List.append_nil] at hW'
  have hlow : ∀ x ∈ p, x.block < W.heap.size := fun x hx => hW'.lt x hx
  have hA2 := hA
  rw [Try.params5] at hval hA2
  obtain ⟨v0, vs0, d0, ds0, p0, q0, hargs, rfl, rfl, h0, r0⟩ := trodAll_cons hA2
  obtain ⟨v1, vs1, d1, ds1, p1, q1, rfl, rfl, rfl, h1, r1⟩ := trodAll_cons r0
  obtain ⟨rfl, rfl, rfl⟩ := trodAll_nil r1
  obtain rfl : args = #[v0, v1] := by cases args; simp_all
  obtain ⟨n0, rfl, hn0⟩ := open_u64 Try.underlying22 (hval 0 22 v0 rfl rfl) h0
  obtain ⟨A1, c1, ss1, rfl, hf1, hr1, hl1, hc1⟩ := open_evs Try.underlying35 (hval 1 35 v1 rfl rfl) h1 (fun x hx => hlow x (by simp [hx]))
  refine (walk n0 A1 c1 ss1 hn0 hf1 hl1 hc1 W hr1).mono fun e W' ⟨he, hg⟩ => ?_
  subst he
  exact ⟨_, rfl, law_true laid_out (by kernel_rfl) rfl Try.underlying4 (by kernel_rfl) hW' hA rfl rfl rfl hg⟩

theorem over : Rows.pragueCalmRow.holds Try.pinned (OpenSpec.ofChange Rows.pragueCalmSpec) :=
  OpenClaim.holds_of_wide 5 Try.f5 rfl rfl rfl rfl rfl rfl rfl ⟨rfl, rfl, rfl, rfl, rfl⟩ rfl rfl rfl rfl rfl (by kernel_rfl) Try.func5 (by kernel_rfl)
    (of_decide_eq_true (by kernel_rfl)) (by unfold Func.isWrapper; first | (rw [if_pos (by decide +kernel)]; kernel_rfl) | (rw [if_neg (by decide +kernel)]; exact ⟨rfl, rfl⟩))
    (fun os started H enc _ => lifted os started H enc)

/-- The statement. -/
theorem proved : Rows.PragueCalmSaid := over
end Go.Proofs.Ytpdmepblmjjeeaa.pragueCalm
