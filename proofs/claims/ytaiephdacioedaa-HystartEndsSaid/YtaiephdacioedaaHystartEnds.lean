/-
  HystartEnds: what is finished stays so, a slow start is careful for at most five rounds in a row, and its least time of a round is that of its samples; at most two hundred answers. No condition.
-/
import Derived.Test.YtaiephdacioedaaHyW
import Derived.Test.YtaiephdacioedaaOpen
import Derived.Test.YtaiephdacioedaaEv11
import Derived.Test.YtaiephdacioedaaRgn
import Derived.Deep.CutBlock
import Derived.Deep.DeepCutAuto
namespace Go.Proofs.Ytaiephdacioedaa.hystartEnds
open Go.ChangeShapes Go.WideShapes Go.ChangeAt Go.RowKit Go.Deep
set_option linter.unusedVariables false

/-- At a round's head: what lies in the box, and the round's least time. -/
def EnRel (m p : Nat) (w : World) (l i : Value) (wr : World) : Prop :=
  ∃ (k lo : Nat) (a : Int) (b c d f y r : Nat), k ≤ m ∧ k ≤ 200 ∧ l = .int .u64 (lo : Int) ∧ i = .int .i64 (k : Int) ∧ Wig.HInv ⟨a, b, c, d, f, y, r⟩ lo ∧ Wig.Sw.Ok ⟨a, b, c, d, f, y, r⟩ ∧ BxSl p a b c d f y r wr ∧ p < wr.heap.size ∧ Below w.heap.size w wr

set_option maxRecDepth 20000 in
set_option maxHeartbeats 8000000 in
theorem walk (nx : Nat) (A : Option Addr) (cc : Nat) (ss : List Wig.Ev) (hnx : nx < 18446744073709551616) (hf : ∀ x ∈ ss, Wig.Ev.Ok x) (hl : ss.length ≤ maxLen) (hm : ss.length ≤ cc) (w : World) (hr : RdEv w w.heap.size A ss) :
    Calls Try.prog 5 #[.int .u64 (nx : Int), .slice A ss.length cc] w fun e w' => e = .returned (.bool true) ∧ Below w.heap.size w w' := by
  obtain ⟨m, hmx⟩ : ∃ m, m = ss.length := ⟨_, rfl⟩
  rw [← hmx]
  rw [← hmx] at hl hm
  have C0 := Lib.hid (fun w => awake_any w)
  have CN := Lib.hid (fun w => new_any nx w)
  have HN := Lib.hid (show Wig.HInv ⟨0, nx, 18446744073709551615, 18446744073709551615, 0, 18446744073709551615, 0⟩ 18446744073709551615 ∧ Wig.Sw.Ok ⟨0, nx, 18446744073709551615, 18446744073709551615, 0, 18446744073709551615, 0⟩ from ⟨Wig.hinv_new nx, Wig.hnew_ok hnx⟩)
  have HX := Lib.hid (And.intro hf (And.intro hmx (And.intro hl hm)))
  have HD := Lib.hid hr
  clear hf hl hm hr hmx hnx
  have B0 := Lib.hid (Below.refl w.heap.size w)
  go_enter Try.func5, Try.ntmps5
  go_wp2_with fail
  refine (C0.out _).mono ?_
  rintro e w1 ⟨rfl, hb⟩
  have B1 := Lib.hid (below_trans' B0.out hb)
  clear hb B0
  go_wp2_with fail
  refine (CN.out _).mono ?_
  rintro e w2 ⟨rfl, hb⟩
  have B2 := Lib.hid (below_trans' B1.out hb)
  clear hb B1
  go_upto_region 3 with fail
  obtain ⟨w3, hw⟩ : ∃ wx, wx = w2.alloc (.cells #[.int .i64 0, .int .u64 (nx : Int), .int .u64 18446744073709551615, .int .u64 18446744073709551615, .int .u64 0, .int .u64 18446744073709551615, .int .u64 0] 25) := ⟨_, rfl⟩
  rw [← hw]
  obtain ⟨pS, hp⟩ : ∃ px, px = w2.heap.size := ⟨_, rfl⟩
  rw [← hp]
  have hb : Below w2.heap.size w2 w3 := by rw [hw]; exact (Below.refl _ _).alloc (Nat.le_refl _) _
  have hx : BxSl pS 0 nx 18446744073709551615 18446744073709551615 0 18446744073709551615 0 w3 := by rw [hp, hw]; exact BxSl.new _ 0 nx 18446744073709551615 18446744073709551615 0 18446744073709551615 0
  have hs : pS < w3.heap.size := by rw [hp, hw]; simp
  have GS := Lib.hid (show w.heap.size ≤ pS by rw [hp]; exact B2.out.size)
  have B3 := Lib.hid (below_trans' B2.out hb)
  clear hb B2
  have XS3 := Lib.hid hx
  have SS3 := Lib.hid hs
  clear hx hs hw hp
  have ST := Lib.hid (show EnRel m pS w (.int .u64 18446744073709551615) (.int .i64 0) w3 from ⟨0, 18446744073709551615, 0, nx, 18446744073709551615, 18446744073709551615, 0, 18446744073709551615, 0, Nat.zero_le _, Nat.zero_le _, rfl, rfl, HN.out.1, HN.out.2, XS3.out, SS3.out, B3.out⟩)
  clear HN
  go_wp2_with fail
  go_loopw [7, 8] (fun l i wr => EnRel m pS w l i wr) (fun _ i _ => 200 - (intOf i).toNat)
  case atStart => exact ST.out
  case round =>
    obtain ⟨k, lo, a, b, c, d, f, y, r, hk, hk2, rfl, rfl, inv, ok, hbx, hlt, hbel⟩ := hrel
    have XS20 := Lib.hid hbx
    have SS20 := Lib.hid hlt
    have B20 := Lib.hid hbel
    clear XS3 SS3 B3 ST hbx hlt hbel
    by_cases hkm : k < m
    · by_cases hk5 : k < 200
      · have t1 : decide (k < m) = true := decide_eq_true hkm
        have t2 : decide ((k : Int) < 200) = true := decide_eq_true (by omega)
        obtain ⟨⟨mm, nn, tt⟩, hp⟩ : ∃ p, ss[k]? = some p := ⟨_, List.getElem?_eq_getElem (by have := HX.out.2.1; omega)⟩
        have eo := HX.out.1 _ (List.mem_of_getElem? hp)
        obtain ⟨bb, off, rfl, hbb, c0, c1, c2⟩ := HD.out.at_ hp
        unfold Wig.Ev.Ok at eo
        simp only [] at c0 c1 c2 eo
        have E0 := Lib.hid c0
        have HBB0 := Lib.hid (show (⟨bb, off + k * 3, none⟩ : Addr).block < w.heap.size from hbb)
        have E1 := Lib.hid c1
        have HBB1 := Lib.hid (show (⟨bb, off + k * 3 + 1, none⟩ : Addr).block < w.heap.size from hbb)
        have E2 := Lib.hid c2
        have HBB2 := Lib.hid (show (⟨bb, off + k * 3 + 2, none⟩ : Addr).block < w.heap.size from hbb)
        obtain ⟨k1, hk1'⟩ : ∃ k1, k1 = k + 1 := ⟨_, rfl⟩
        have i0 : (0 : Int) ≤ (k : Int) := by omega
        have ik : (k : Int) < (m : Int) := by omega
        have q3 : IntKind.i64.wrap ((k : Int) + 1) = (k1 : Int) := by rw [IntKind.wrap_i64] <;> omega
        have HR := Lib.hid (show k1 ≤ m ∧ k1 ≤ 200 ∧ 200 - k1 < 200 - k from ⟨by omega, by omega, by omega⟩)
        clear hk hk2 hkm hk5 hp c0 c1 c2 hbb hk1'
        by_cases ha : a = 2
        · have hsam : Wig.hsample ⟨a, b, c, d, f, y, r⟩ mm nn tt = ⟨a, b, c, d, f, y, r⟩ := Wig.hsample_finished ha mm nn tt
          have C2 := Lib.hid (fun w => sample_any a b c d f y r mm nn tt a b c d f y r w ok eo.1 eo.2.1 eo.2.2 hsam)
          have HF := Lib.hid (show Wig.HInv ⟨a, b, c, d, f, y, r⟩ lo ∧ Wig.Sw.Ok ⟨a, b, c, d, f, y, r⟩ from ⟨inv, ok⟩)
          have d1 : (a == 2) = true := by simpa using ha
          have g0 := slow_guard
          have ne := slow_ne a b c d f y r
          clear hsam ok inv eo ha
          obtain ⟨s0, s1, s2, s3, s4, s5, s6, -, -, -, -, -, -, -⟩ := XS20.out
          go_upto_region 8 with fail
          obtain ⟨w21, hw⟩ : ∃ wx, wx = wr.alloc (.cells #[.int .i64 a, .int .u64 (b : Int), .int .u64 (c : Int), .int .u64 (d : Int), .int .u64 (f : Int), .int .u64 (y : Int), .int .u64 (r : Int)] 25) := ⟨_, rfl⟩
          rw [← hw]
          obtain ⟨pV, hp⟩ : ∃ px, px = wr.heap.size := ⟨_, rfl⟩
          rw [← hp]
          have hb : Below wr.heap.size wr w21 := by rw [hw]; exact (Below.refl _ _).alloc (Nat.le_refl _) _
          have hx : BxSl pV a b c d f y r w21 := by rw [hp, hw]; exact BxSl.new _ a b c d f y r
          have hs : pV < w21.heap.size := by rw [hp, hw]; simp
          have GV := Lib.hid (show w.heap.size ≤ pV by rw [hp]; exact B20.out.size)
          have OSV := Lib.hid (show pS < pV by rw [hp]; exact SS20.out)
          have B21 := Lib.hid (below_trans' B20.out hb)
          have XS21 := Lib.hid (XS20.out.below hb SS20.out)
          have SS21 := Lib.hid (Nat.lt_of_lt_of_le SS20.out hb.size)
          clear s0 s1 s2 s3 s4 s5 s6
          clear hb B20 XS20 SS20
          have XV21 := Lib.hid hx
          have SV21 := Lib.hid hs
          clear hx hs hw hp
          obtain ⟨s0, s1, s2, s3, s4, s5, s6, -, -, -, -, -, -, -⟩ := XS21.out
          refine wp_region_held_drew (S := fun wx => wx.cell? ⟨bb, off + k * 3, none⟩ = some (.int .u64 (mm : Int)) ∧ wx.cell? ⟨bb, off + k * 3 + 1, none⟩ = some (.int .u64 (nn : Int)) ∧ wx.cell? ⟨bb, off + k * 3 + 2, none⟩ = some (.int .u64 (tt : Int))) (by kernel_rfl) ?_ (fun hHeld => ?_)
          · exact ⟨(B21.out.drew.cell HBB0.out).trans E0.out, (B21.out.drew.cell HBB1.out).trans E1.out, (B21.out.drew.cell HBB2.out).trans E2.out⟩
          refine held_take (v := ?vv101) 1 rfl (by kernel_rfl) (by kernel_rfl) (by kernel_rfl) (fun _ _ _ h => h) (by rfl) ?yy101 (by assumption) ?nn101
          case yy101 =>
            intro w hSw
            (try dsimp only at hSw)
            go_simp
            try with_reducible rfl
          try simp only [Act.put, List.setIfInBounds_toArray, List.set_cons_zero, List.set_cons_succ]
          refine held_take (v := ?vv102) 2 rfl (by kernel_rfl) (by kernel_rfl) (by kernel_rfl) (fun _ _ _ h => h) (by rfl) ?yy102 (by assumption) ?nn102
          case yy102 =>
            intro w hSw
            (try dsimp only at hSw)
            go_simp
            try with_reducible rfl
          try simp only [Act.put, List.setIfInBounds_toArray, List.set_cons_zero, List.set_cons_succ]
          refine held_take (v := ?vv103) 3 rfl (by kernel_rfl) (by kernel_rfl) (by kernel_rfl) (fun _ _ _ h => h) (by rfl) ?yy103 (by assumption) ?nn103
          case yy103 =>
            intro w hSw
            (try dsimp only at hSw)
            go_simp
            try with_reducible rfl
          try simp only [Act.put, List.setIfInBounds_toArray, List.set_cons_zero, List.set_cons_succ]
          refine held_take (v := ?vv104) 4 rfl (by kernel_rfl) (by kernel_rfl) (by kernel_rfl) (fun _ _ _ h => h) (by rfl) ?yy104 (by assumption) ?nn104
          case yy104 =>
            intro w hSw
            (try dsimp only at hSw)
            go_simp
            try with_reducible rfl
          try simp only [Act.put, List.setIfInBounds_toArray, List.set_cons_zero, List.set_cons_succ]
          refine held_take (v := .int .u64 (mm : Int)) 5 rfl (by kernel_rfl) (by kernel_rfl) (by kernel_rfl) (fun _ _ _ h => h) (by rfl) (fun wx hSw => by have a0 := hSw.1; clear hSw; (try dsimp only at a0); go_simp) (by assumption) ?_
          try simp only [Act.put, List.setIfInBounds_toArray, List.set_cons_zero, List.set_cons_succ]
          refine held_take (v := ?vv106) 6 rfl (by kernel_rfl) (by kernel_rfl) (by kernel_rfl) (fun _ _ _ h => h) (by rfl) ?yy106 (by assumption) ?nn106
          case yy106 =>
            intro w hSw
            (try dsimp only at hSw)
            go_simp
            try with_reducible rfl
          try simp only [Act.put, List.setIfInBounds_toArray, List.set_cons_zero, List.set_cons_succ]
          refine held_take (v := ?vv107) 7 rfl (by kernel_rfl) (by kernel_rfl) (by kernel_rfl) (fun _ _ _ h => h) (by rfl) ?yy107 (by assumption) ?nn107
          case yy107 =>
            intro w hSw
            (try dsimp only at hSw)
            go_simp
            try with_reducible rfl
          try simp only [Act.put, List.setIfInBounds_toArray, List.set_cons_zero, List.set_cons_succ]
          refine held_take (v := ?vv108) 8 rfl (by kernel_rfl) (by kernel_rfl) (by kernel_rfl) (fun _ _ _ h => h) (by rfl) ?yy108 (by assumption) ?nn108
          case yy108 =>
            intro w hSw
            (try dsimp only at hSw)
            go_simp
            try with_reducible rfl
          try simp only [Act.put, List.setIfInBounds_toArray, List.set_cons_zero, List.set_cons_succ]
          refine held_take (v := ?vv109) 9 rfl (by kernel_rfl) (by kernel_rfl) (by kernel_rfl) (fun _ _ _ h => h) (by rfl) ?yy109 (by assumption) ?nn109
          case yy109 =>
            intro w hSw
            (try dsimp only at hSw)
            go_simp
            try with_reducible rfl
          try simp only [Act.put, List.setIfInBounds_toArray, List.set_cons_zero, List.set_cons_succ]
          refine held_take (v := .int .u64 (nn : Int)) 10 rfl (by kernel_rfl) (by kernel_rfl) (by kernel_rfl) (fun _ _ _ h => h) (by rfl) (fun wx hSw => by have a0 := hSw.2.1; clear hSw; (try dsimp only at a0); go_simp) (by assumption) ?_
          try simp only [Act.put, List.setIfInBounds_toArray, List.set_cons_zero, List.set_cons_succ]
          refine held_take (v := ?vv111) 11 rfl (by kernel_rfl) (by kernel_rfl) (by kernel_rfl) (fun _ _ _ h => h) (by rfl) ?yy111 (by assumption) ?nn111
          case yy111 =>
            intro w hSw
            (try dsimp only at hSw)
            go_simp
            try with_reducible rfl
          try simp only [Act.put, List.setIfInBounds_toArray, List.set_cons_zero, List.set_cons_succ]
          refine held_take (v := ?vv112) 12 rfl (by kernel_rfl) (by kernel_rfl) (by kernel_rfl) (fun _ _ _ h => h) (by rfl) ?yy112 (by assumption) ?nn112
          case yy112 =>
            intro w hSw
            (try dsimp only at hSw)
            go_simp
            try with_reducible rfl
          try simp only [Act.put, List.setIfInBounds_toArray, List.set_cons_zero, List.set_cons_succ]
          refine held_take (v := ?vv113) 13 rfl (by kernel_rfl) (by kernel_rfl) (by kernel_rfl) (fun _ _ _ h => h) (by rfl) ?yy113 (by assumption) ?nn113
          case yy113 =>
            intro w hSw
            (try dsimp only at hSw)
            go_simp
            try with_reducible rfl
          try simp only [Act.put, List.setIfInBounds_toArray, List.set_cons_zero, List.set_cons_succ]
          refine held_take (v := ?vv114) 14 rfl (by kernel_rfl) (by kernel_rfl) (by kernel_rfl) (fun _ _ _ h => h) (by rfl) ?yy114 (by assumption) ?nn114
          case yy114 =>
            intro w hSw
            (try dsimp only at hSw)
            go_simp
            try with_reducible rfl
          try simp only [Act.put, List.setIfInBounds_toArray, List.set_cons_zero, List.set_cons_succ]
          refine held_take (v := .int .u64 (tt : Int)) 15 rfl (by kernel_rfl) (by kernel_rfl) (by kernel_rfl) (fun _ _ _ h => h) (by rfl) (fun wx hSw => by have a0 := hSw.2.2; clear hSw; (try dsimp only at a0); go_simp) (by assumption) ?_
          try simp only [Act.put, List.setIfInBounds_toArray, List.set_cons_zero, List.set_cons_succ]
          refine held_do 0 rfl (by kernel_rfl) (by rfl) (fun K hK => ?_)
          go_wp2_with fail
          refine hK.out _ _ ?_ (fun hHeld => ?_)
          · exact ⟨(B21.out.drew.cell HBB0.out).trans E0.out, (B21.out.drew.cell HBB1.out).trans E1.out, (B21.out.drew.cell HBB2.out).trans E2.out⟩
          clear hK K
          try simp only [Act.put, List.setIfInBounds_toArray, List.set_cons_zero, List.set_cons_succ]
          refine held_do 16 rfl (by kernel_rfl) (by rfl) (fun K hK => ?_)
          go_wp2_with (go_at_call 10; refine (C2.out _).mono ?_; rintro e w22 ⟨rfl, hb22⟩; have HB := Lib.hid hb22; clear hb22)
          refine hK.out _ _ ?_ (fun hHeld => ?_)
          · exact ⟨((below_trans' B21.out.drew HB.out).cell HBB0.out).trans E0.out, ((below_trans' B21.out.drew HB.out).cell HBB1.out).trans E1.out, ((below_trans' B21.out.drew HB.out).cell HBB2.out).trans E2.out⟩
          clear hK K
          try simp only [Act.put, List.setIfInBounds_toArray, List.set_cons_zero, List.set_cons_succ]
          have B22 := Lib.hid (below_trans' B21.out.drew HB.out)
          have XS22 := Lib.hid (XS21.out.drew.below HB.out SS21.out)
          have SS22 := Lib.hid (Nat.lt_of_lt_of_le SS21.out HB.out.size)
          have XV22 := Lib.hid (XV21.out.drew.below HB.out SV21.out)
          have SV22 := Lib.hid (Nat.lt_of_lt_of_le SV21.out HB.out.size)
          clear s0 s1 s2 s3 s4 s5 s6
          clear HB B21 XS21 SS21 XV21 SV21
          obtain ⟨s0, s1, s2, s3, s4, s5, s6, sf0, sf1, sf2, sf3, sf4, sf5, sf6⟩ := XS22.out
          refine held_do 17 rfl (by kernel_rfl) (by rfl) (fun K hK => ?_)
          go_wp2_with fail
          refine hK.out _ _ ?_ (fun hHeld => ?_)
          · exact ⟨((B22.out.trans (putSl_below (p := pS) GS.out)).cell HBB0.out).trans E0.out, ((B22.out.trans (putSl_below (p := pS) GS.out)).cell HBB1.out).trans E1.out, ((B22.out.trans (putSl_below (p := pS) GS.out)).cell HBB2.out).trans E2.out⟩
          clear hK K
          try simp only [Act.put, List.setIfInBounds_toArray, List.set_cons_zero, List.set_cons_succ]
          refine wpAnyH_done (by kernel_rfl) ?_ _
          clear hHeld
          obtain ⟨w23, hw⟩ : ∃ wx, wx = putSl pS a b c d f y r w22 := ⟨_, rfl⟩
          have XS23 := Lib.hid (show BxSl pS a b c d f y r w23 by rw [hw]; exact XS22.out.put)
          have B23 := Lib.hid (show Below w.heap.size w w23 by rw [hw]; exact B22.out.trans (putSl_below GS.out))
          have hz : w22.heap.size ≤ w23.heap.size := by rw [hw]; exact (putSl_below (B := 0) (Nat.zero_le _)).size
          have SS23 := Lib.hid (Nat.lt_of_lt_of_le SS22.out hz)
          have XV23 := Lib.hid (show BxSl pV a b c d f y r w23 by rw [hw]; unfold putSl; exact (((((((XV22.out.other rfl (Nat.ne_of_lt OSV.out)).other rfl (Nat.ne_of_lt OSV.out)).other rfl (Nat.ne_of_lt OSV.out)).other rfl (Nat.ne_of_lt OSV.out)).other rfl (Nat.ne_of_lt OSV.out)).other rfl (Nat.ne_of_lt OSV.out)).other rfl (Nat.ne_of_lt OSV.out)))
          have SV23 := Lib.hid (Nat.lt_of_lt_of_le SV22.out hz)
          rw [show ((((((w22.setCell ⟨pS, 0, none⟩ (.int .i64 a)).setCell ⟨pS, 1, none⟩ (.int .u64 (b : Int))).setCell ⟨pS, 2, none⟩ (.int .u64 (c : Int))).setCell ⟨pS, 3, none⟩ (.int .u64 (d : Int))).setCell ⟨pS, 4, none⟩ (.int .u64 (f : Int))).setCell ⟨pS, 5, none⟩ (.int .u64 (y : Int))).setCell ⟨pS, 6, none⟩ (.int .u64 (r : Int)) = w23 from hw.symm]
          clear s0 s1 s2 s3 s4 s5 s6 sf0 sf1 sf2 sf3 sf4 sf5 sf6
          clear hw hz B22 XS22 SS22 XV22 SV22
          obtain ⟨s0, s1, s2, s3, s4, s5, s6, -, -, -, -, -, -, -⟩ := XS23.out
          obtain ⟨v0, v1, v2, v3, v4, v5, v6, -, -, -, -, -, -, -⟩ := XV23.out
          have RZ := Lib.hid (show EnRel m pS w (.int .u64 (lo : Int)) (.int .i64 (k1 : Int)) w23 from ⟨k1, lo, a, b, c, d, f, y, r, HR.out.1, HR.out.2.1, rfl, rfl, HF.out.1, HF.out.2, XS23.out, SS23.out, B23.out⟩)
          go_wp2_with fail
          go_roundw
          case rel => exact RZ.out
          case measure => have := HR.out; simp [intOf]; omega
        · have i0' := Wig.hinv_sample (m := mm) (n := nn) (t := tt) inv ha
          have ok2 := Wig.hsample_ok (m := mm) (n := nn) (t := tt) ok eo.2.1
          obtain ⟨⟨a', b', c', d', f', y', r'⟩, hsam⟩ : ∃ q, Wig.hsample ⟨a, b, c, d, f, y, r⟩ mm nn tt = q := ⟨_, rfl⟩
          rw [hsam] at i0' ok2
          obtain ⟨i1, i2, i3, i4, i5, i6⟩ := i0'
          simp only at i2 i3 i4 i5 i6
          have C2 := Lib.hid (fun w => sample_any a b c d f y r mm nn tt a' b' c' d' f' y' r' w ok eo.1 eo.2.1 eo.2.2 hsam)
          have d1 : (a == 2) = false := by simpa using ha
          clear hsam ok inv eo ha
          by_cases hb : b ≤ mm
          · by_cases hfin : a' = 2
            · have t3 : decide (b ≤ mm) = true := decide_eq_true hb
              obtain ⟨l1, hl1⟩ : ∃ l1, l1 = min 18446744073709551615 tt := ⟨_, rfl⟩
              have hll : Wig.hlow ⟨a, b, c, d, f, y, r⟩ lo mm tt = l1 := by rw [hl1]; unfold Wig.hlow; rw [if_pos hb]
              rw [hll] at i1
              rw [hll] at i2
              have m1 : ∀ ts ty w, (Builtin.min_ ts ty #[.int .u64 18446744073709551615, .int .u64 (tt : Int)]).run Try.prog w = .ok (.int .u64 (l1 : Int)) w := by
                intro ts ty w
                rw [run_min_int2, show (if (tt : Int) < 18446744073709551615 then (tt : Int) else 18446744073709551615) = (l1 : Int) by split <;> omega]
              have d2 : (a' == 2) = true := by simpa using hfin
              have d3 : (a' != 2) = false := by simpa using hfin
              have d4 : decide ((5 : Int) < (r' : Int)) = false := decide_eq_false (by omega)
              have d5 : decide (a' < 0) = false := decide_eq_false (by omega)
              have d6 : decide (2 < a') = false := decide_eq_false (by omega)
              have d7 : ((r : Int) != 4) = false := by have h4 := i3 hfin; simp at h4 ⊢; omega
              have HF := Lib.hid (show Wig.HInv ⟨a', b', c', d', f', y', r'⟩ l1 ∧ Wig.Sw.Ok ⟨a', b', c', d', f', y', r'⟩ from ⟨i1, ok2⟩)
              clear hb hfin hl1 hll i1 i2 i3 i4 i5 i6 ok2
              obtain ⟨s0, s1, s2, s3, s4, s5, s6, -, -, -, -, -, -, -⟩ := XS20.out
              go_upto_region 8 with fail
              obtain ⟨w21, hw⟩ : ∃ wx, wx = wr.alloc (.cells #[.int .i64 a, .int .u64 (b : Int), .int .u64 (c : Int), .int .u64 (d : Int), .int .u64 (f : Int), .int .u64 (y : Int), .int .u64 (r : Int)] 25) := ⟨_, rfl⟩
              rw [← hw]
              obtain ⟨pV, hp⟩ : ∃ px, px = wr.heap.size := ⟨_, rfl⟩
              rw [← hp]
              have hb : Below wr.heap.size wr w21 := by rw [hw]; exact (Below.refl _ _).alloc (Nat.le_refl _) _
              have hx : BxSl pV a b c d f y r w21 := by rw [hp, hw]; exact BxSl.new _ a b c d f y r
              have hs : pV < w21.heap.size := by rw [hp, hw]; simp
              have GV := Lib.hid (show w.heap.size ≤ pV by rw [hp]; exact B20.out.size)
              have OSV := Lib.hid (show pS < pV by rw [hp]; exact SS20.out)
              have B21 := Lib.hid (below_trans' B20.out hb)
              have XS21 := Lib.hid (XS20.out.below hb SS20.out)
              have SS21 := Lib.hid (Nat.lt_of_lt_of_le SS20.out hb.size)
              clear s0 s1 s2 s3 s4 s5 s6
              clear hb B20 XS20 SS20
              have XV21 := Lib.hid hx
              have SV21 := Lib.hid hs
              clear hx hs hw hp
              obtain ⟨s0, s1, s2, s3, s4, s5, s6, -, -, -, -, -, -, -⟩ := XS21.out
              refine wp_region_held_drew (S := fun wx => wx.cell? ⟨bb, off + k * 3, none⟩ = some (.int .u64 (mm : Int)) ∧ wx.cell? ⟨bb, off + k * 3 + 1, none⟩ = some (.int .u64 (nn : Int)) ∧ wx.cell? ⟨bb, off + k * 3 + 2, none⟩ = some (.int .u64 (tt : Int))) (by kernel_rfl) ?_ (fun hHeld => ?_)
              · exact ⟨(B21.out.drew.cell HBB0.out).trans E0.out, (B21.out.drew.cell HBB1.out).trans E1.out, (B21.out.drew.cell HBB2.out).trans E2.out⟩
              refine held_take (v := ?vv120) 1 rfl (by kernel_rfl) (by kernel_rfl) (by kernel_rfl) (fun _ _ _ h => h) (by rfl) ?yy120 (by assumption) ?nn120
              case yy120 =>
                intro w hSw
                (try dsimp only at hSw)
                go_simp
                try with_reducible rfl
              try simp only [Act.put, List.setIfInBounds_toArray, List.set_cons_zero, List.set_cons_succ]
              refine held_take (v := ?vv121) 2 rfl (by kernel_rfl) (by kernel_rfl) (by kernel_rfl) (fun _ _ _ h => h) (by rfl) ?yy121 (by assumption) ?nn121
              case yy121 =>
                intro w hSw
                (try dsimp only at hSw)
                go_simp
                try with_reducible rfl
              try simp only [Act.put, List.setIfInBounds_toArray, List.set_cons_zero, List.set_cons_succ]
              refine held_take (v := ?vv122) 3 rfl (by kernel_rfl) (by kernel_rfl) (by kernel_rfl) (fun _ _ _ h => h) (by rfl) ?yy122 (by assumption) ?nn122
              case yy122 =>
                intro w hSw
                (try dsimp only at hSw)
                go_simp
                try with_reducible rfl
              try simp only [Act.put, List.setIfInBounds_toArray, List.set_cons_zero, List.set_cons_succ]
              refine held_take (v := ?vv123) 4 rfl (by kernel_rfl) (by kernel_rfl) (by kernel_rfl) (fun _ _ _ h => h) (by rfl) ?yy123 (by assumption) ?nn123
              case yy123 =>
                intro w hSw
                (try dsimp only at hSw)
                go_simp
                try with_reducible rfl
              try simp only [Act.put, List.setIfInBounds_toArray, List.set_cons_zero, List.set_cons_succ]
              refine held_take (v := .int .u64 (mm : Int)) 5 rfl (by kernel_rfl) (by kernel_rfl) (by kernel_rfl) (fun _ _ _ h => h) (by rfl) (fun wx hSw => by have a0 := hSw.1; clear hSw; (try dsimp only at a0); go_simp) (by assumption) ?_
              try simp only [Act.put, List.setIfInBounds_toArray, List.set_cons_zero, List.set_cons_succ]
              refine held_take (v := ?vv125) 6 rfl (by kernel_rfl) (by kernel_rfl) (by kernel_rfl) (fun _ _ _ h => h) (by rfl) ?yy125 (by assumption) ?nn125
              case yy125 =>
                intro w hSw
                (try dsimp only at hSw)
                go_simp
                try with_reducible rfl
              try simp only [Act.put, List.setIfInBounds_toArray, List.set_cons_zero, List.set_cons_succ]
              refine held_take (v := ?vv126) 7 rfl (by kernel_rfl) (by kernel_rfl) (by kernel_rfl) (fun _ _ _ h => h) (by rfl) ?yy126 (by assumption) ?nn126
              case yy126 =>
                intro w hSw
                (try dsimp only at hSw)
                go_simp
                try with_reducible rfl
              try simp only [Act.put, List.setIfInBounds_toArray, List.set_cons_zero, List.set_cons_succ]
              refine held_take (v := ?vv127) 8 rfl (by kernel_rfl) (by kernel_rfl) (by kernel_rfl) (fun _ _ _ h => h) (by rfl) ?yy127 (by assumption) ?nn127
              case yy127 =>
                intro w hSw
                (try dsimp only at hSw)
                go_simp
                try with_reducible rfl
              try simp only [Act.put, List.setIfInBounds_toArray, List.set_cons_zero, List.set_cons_succ]
              refine held_take (v := ?vv128) 9 rfl (by kernel_rfl) (by kernel_rfl) (by kernel_rfl) (fun _ _ _ h => h) (by rfl) ?yy128 (by assumption) ?nn128
              case yy128 =>
                intro w hSw
                (try dsimp only at hSw)
                go_simp
                try with_reducible rfl
              try simp only [Act.put, List.setIfInBounds_toArray, List.set_cons_zero, List.set_cons_succ]
              refine held_take (v := .int .u64 (nn : Int)) 10 rfl (by kernel_rfl) (by kernel_rfl) (by kernel_rfl) (fun _ _ _ h => h) (by rfl) (fun wx hSw => by have a0 := hSw.2.1; clear hSw; (try dsimp only at a0); go_simp) (by assumption) ?_
              try simp only [Act.put, List.setIfInBounds_toArray, List.set_cons_zero, List.set_cons_succ]
              refine held_take (v := ?vv130) 11 rfl (by kernel_rfl) (by kernel_rfl) (by kernel_rfl) (fun _ _ _ h => h) (by rfl) ?yy130 (by assumption) ?nn130
              case yy130 =>
                intro w hSw
                (try dsimp only at hSw)
                go_simp
                try with_reducible rfl
              try simp only [Act.put, List.setIfInBounds_toArray, List.set_cons_zero, List.set_cons_succ]
              refine held_take (v := ?vv131) 12 rfl (by kernel_rfl) (by kernel_rfl) (by kernel_rfl) (fun _ _ _ h => h) (by rfl) ?yy131 (by assumption) ?nn131
              case yy131 =>
                intro w hSw
                (try dsimp only at hSw)
                go_simp
                try with_reducible rfl
              try simp only [Act.put, List.setIfInBounds_toArray, List.set_cons_zero, List.set_cons_succ]
              refine held_take (v := ?vv132) 13 rfl (by kernel_rfl) (by kernel_rfl) (by kernel_rfl) (fun _ _ _ h => h) (by rfl) ?yy132 (by assumption) ?nn132
              case yy132 =>
                intro w hSw
                (try dsimp only at hSw)
                go_simp
                try with_reducible rfl
              try simp only [Act.put, List.setIfInBounds_toArray, List.set_cons_zero, List.set_cons_succ]
              refine held_take (v := ?vv133) 14 rfl (by kernel_rfl) (by kernel_rfl) (by kernel_rfl) (fun _ _ _ h => h) (by rfl) ?yy133 (by assumption) ?nn133
              case yy133 =>
                intro w hSw
                (try dsimp only at hSw)
                go_simp
                try with_reducible rfl
              try simp only [Act.put, List.setIfInBounds_toArray, List.set_cons_zero, List.set_cons_succ]
              refine held_take (v := .int .u64 (tt : Int)) 15 rfl (by kernel_rfl) (by kernel_rfl) (by kernel_rfl) (fun _ _ _ h => h) (by rfl) (fun wx hSw => by have a0 := hSw.2.2; clear hSw; (try dsimp only at a0); go_simp) (by assumption) ?_
              try simp only [Act.put, List.setIfInBounds_toArray, List.set_cons_zero, List.set_cons_succ]
              refine held_do 0 rfl (by kernel_rfl) (by rfl) (fun K hK => ?_)
              go_wp2_with fail
              refine hK.out _ _ ?_ (fun hHeld => ?_)
              · exact ⟨(B21.out.drew.cell HBB0.out).trans E0.out, (B21.out.drew.cell HBB1.out).trans E1.out, (B21.out.drew.cell HBB2.out).trans E2.out⟩
              clear hK K
              try simp only [Act.put, List.setIfInBounds_toArray, List.set_cons_zero, List.set_cons_succ]
              refine held_do 16 rfl (by kernel_rfl) (by rfl) (fun K hK => ?_)
              go_wp2_with (go_at_call 10; refine (C2.out _).mono ?_; rintro e w22 ⟨rfl, hb22⟩; have HB := Lib.hid hb22; clear hb22)
              refine hK.out _ _ ?_ (fun hHeld => ?_)
              · exact ⟨((below_trans' B21.out.drew HB.out).cell HBB0.out).trans E0.out, ((below_trans' B21.out.drew HB.out).cell HBB1.out).trans E1.out, ((below_trans' B21.out.drew HB.out).cell HBB2.out).trans E2.out⟩
              clear hK K
              try simp only [Act.put, List.setIfInBounds_toArray, List.set_cons_zero, List.set_cons_succ]
              have B22 := Lib.hid (below_trans' B21.out.drew HB.out)
              have XS22 := Lib.hid (XS21.out.drew.below HB.out SS21.out)
              have SS22 := Lib.hid (Nat.lt_of_lt_of_le SS21.out HB.out.size)
              have XV22 := Lib.hid (XV21.out.drew.below HB.out SV21.out)
              have SV22 := Lib.hid (Nat.lt_of_lt_of_le SV21.out HB.out.size)
              clear s0 s1 s2 s3 s4 s5 s6
              clear HB B21 XS21 SS21 XV21 SV21
              obtain ⟨s0, s1, s2, s3, s4, s5, s6, sf0, sf1, sf2, sf3, sf4, sf5, sf6⟩ := XS22.out
              refine held_do 17 rfl (by kernel_rfl) (by rfl) (fun K hK => ?_)
              go_wp2_with fail
              refine hK.out _ _ ?_ (fun hHeld => ?_)
              · exact ⟨((B22.out.trans (putSl_below (p := pS) GS.out)).cell HBB0.out).trans E0.out, ((B22.out.trans (putSl_below (p := pS) GS.out)).cell HBB1.out).trans E1.out, ((B22.out.trans (putSl_below (p := pS) GS.out)).cell HBB2.out).trans E2.out⟩
              clear hK K
              try simp only [Act.put, List.setIfInBounds_toArray, List.set_cons_zero, List.set_cons_succ]
              refine wpAnyH_done (by kernel_rfl) ?_ _
              clear hHeld
              obtain ⟨w23, hw⟩ : ∃ wx, wx = putSl pS a' b' c' d' f' y' r' w22 := ⟨_, rfl⟩
              have XS23 := Lib.hid (show BxSl pS a' b' c' d' f' y' r' w23 by rw [hw]; exact XS22.out.put)
              have B23 := Lib.hid (show Below w.heap.size w w23 by rw [hw]; exact B22.out.trans (putSl_below GS.out))
              have hz : w22.heap.size ≤ w23.heap.size := by rw [hw]; exact (putSl_below (B := 0) (Nat.zero_le _)).size
              have SS23 := Lib.hid (Nat.lt_of_lt_of_le SS22.out hz)
              have XV23 := Lib.hid (show BxSl pV a b c d f y r w23 by rw [hw]; unfold putSl; exact (((((((XV22.out.other rfl (Nat.ne_of_lt OSV.out)).other rfl (Nat.ne_of_lt OSV.out)).other rfl (Nat.ne_of_lt OSV.out)).other rfl (Nat.ne_of_lt OSV.out)).other rfl (Nat.ne_of_lt OSV.out)).other rfl (Nat.ne_of_lt OSV.out)).other rfl (Nat.ne_of_lt OSV.out)))
              have SV23 := Lib.hid (Nat.lt_of_lt_of_le SV22.out hz)
              rw [show ((((((w22.setCell ⟨pS, 0, none⟩ (.int .i64 (a'))).setCell ⟨pS, 1, none⟩ (.int .u64 (b' : Int))).setCell ⟨pS, 2, none⟩ (.int .u64 (c' : Int))).setCell ⟨pS, 3, none⟩ (.int .u64 (d' : Int))).setCell ⟨pS, 4, none⟩ (.int .u64 (f' : Int))).setCell ⟨pS, 5, none⟩ (.int .u64 (y' : Int))).setCell ⟨pS, 6, none⟩ (.int .u64 (r' : Int)) = w23 from hw.symm]
              clear s0 s1 s2 s3 s4 s5 s6 sf0 sf1 sf2 sf3 sf4 sf5 sf6
              clear hw hz B22 XS22 SS22 XV22 SV22
              have c00 := (B23.out.cell HBB0.out).trans E0.out
              have c11 := (B23.out.cell HBB1.out).trans E1.out
              have c22 := (B23.out.cell HBB2.out).trans E2.out
              obtain ⟨v0, v1, v2, v3, v4, v5, v6, -, -, -, -, -, -, -⟩ := XV23.out
              go_upto_region 12 with fail
              go_quiet (first | fail)
              obtain ⟨w24, hw⟩ : ∃ wx, wx = w23.drewN nq := ⟨_, rfl⟩
              rw [← hw]
              have B24 := Lib.hid (show Below w.heap.size w w24 by rw [hw]; exact below_drewN' B23.out nq)
              have XS24 := Lib.hid (show BxSl pS a' b' c' d' f' y' r' w24 by rw [hw]; exact XS23.out.drewN nq)
              have SS24 := Lib.hid (show pS < w24.heap.size by rw [hw]; exact SS23.out)
              have XV24 := Lib.hid (show BxSl pV a b c d f y r w24 by rw [hw]; exact XV23.out.drewN nq)
              have SV24 := Lib.hid (show pV < w24.heap.size by rw [hw]; exact SV23.out)
              clear v0 v1 v2 v3 v4 v5 v6
              clear hw B23 XS23 SS23 XV23 SV23
              clear c00 c11 c22
              have c00 := (B24.out.cell HBB0.out).trans E0.out
              have c11 := (B24.out.cell HBB1.out).trans E1.out
              have c22 := (B24.out.cell HBB2.out).trans E2.out
              obtain ⟨s0, s1, s2, s3, s4, s5, s6, -, -, -, -, -, -, -⟩ := XS24.out
              obtain ⟨v0, v1, v2, v3, v4, v5, v6, -, -, -, -, -, -, -⟩ := XV24.out
              have RZ := Lib.hid (show EnRel m pS w (.int .u64 (l1 : Int)) (.int .i64 (k1 : Int)) w24 from ⟨k1, l1, a', b', c', d', f', y', r', HR.out.1, HR.out.2.1, rfl, rfl, HF.out.1, HF.out.2, XS24.out, SS24.out, B24.out⟩)
              go_wp2_with fail
              go_roundw
              case rel => exact RZ.out
              case measure => have := HR.out; simp [intOf]; omega
            · have t3 : decide (b ≤ mm) = true := decide_eq_true hb
              obtain ⟨l1, hl1⟩ : ∃ l1, l1 = min 18446744073709551615 tt := ⟨_, rfl⟩
              have hll : Wig.hlow ⟨a, b, c, d, f, y, r⟩ lo mm tt = l1 := by rw [hl1]; unfold Wig.hlow; rw [if_pos hb]
              rw [hll] at i1
              rw [hll] at i2
              have m1 : ∀ ts ty w, (Builtin.min_ ts ty #[.int .u64 18446744073709551615, .int .u64 (tt : Int)]).run Try.prog w = .ok (.int .u64 (l1 : Int)) w := by
                intro ts ty w
                rw [run_min_int2, show (if (tt : Int) < 18446744073709551615 then (tt : Int) else 18446744073709551615) = (l1 : Int) by split <;> omega]
              have d2 : (a' == 2) = false := by simpa using hfin
              have d3 : (a' != 2) = true := by simpa using hfin
              have d4 : decide ((5 : Int) < (r' : Int)) = false := decide_eq_false (by omega)
              have d5 : decide (a' < 0) = false := decide_eq_false (by omega)
              have d6 : decide (2 < a') = false := decide_eq_false (by omega)
              have h9 : d' = l1 := i2 hfin
              subst h9
              have d7 : ((d' : Int) != (d' : Int)) = false := by simp
              have HF := Lib.hid (show Wig.HInv ⟨a', b', c', d', f', y', r'⟩ d' ∧ Wig.Sw.Ok ⟨a', b', c', d', f', y', r'⟩ from ⟨i1, ok2⟩)
              clear hb hfin hl1 hll i1 i2 i3 i4 i5 i6 ok2
              obtain ⟨s0, s1, s2, s3, s4, s5, s6, -, -, -, -, -, -, -⟩ := XS20.out
              go_upto_region 8 with fail
              obtain ⟨w21, hw⟩ : ∃ wx, wx = wr.alloc (.cells #[.int .i64 a, .int .u64 (b : Int), .int .u64 (c : Int), .int .u64 (d : Int), .int .u64 (f : Int), .int .u64 (y : Int), .int .u64 (r : Int)] 25) := ⟨_, rfl⟩
              rw [← hw]
              obtain ⟨pV, hp⟩ : ∃ px, px = wr.heap.size := ⟨_, rfl⟩
              rw [← hp]
              have hb : Below wr.heap.size wr w21 := by rw [hw]; exact (Below.refl _ _).alloc (Nat.le_refl _) _
              have hx : BxSl pV a b c d f y r w21 := by rw [hp, hw]; exact BxSl.new _ a b c d f y r
              have hs : pV < w21.heap.size := by rw [hp, hw]; simp
              have GV := Lib.hid (show w.heap.size ≤ pV by rw [hp]; exact B20.out.size)
              have OSV := Lib.hid (show pS < pV by rw [hp]; exact SS20.out)
              have B21 := Lib.hid (below_trans' B20.out hb)
              have XS21 := Lib.hid (XS20.out.below hb SS20.out)
              have SS21 := Lib.hid (Nat.lt_of_lt_of_le SS20.out hb.size)
              clear s0 s1 s2 s3 s4 s5 s6
              clear hb B20 XS20 SS20
              have XV21 := Lib.hid hx
              have SV21 := Lib.hid hs
              clear hx hs hw hp
              obtain ⟨s0, s1, s2, s3, s4, s5, s6, -, -, -, -, -, -, -⟩ := XS21.out
              refine wp_region_held_drew (S := fun wx => wx.cell? ⟨bb, off + k * 3, none⟩ = some (.int .u64 (mm : Int)) ∧ wx.cell? ⟨bb, off + k * 3 + 1, none⟩ = some (.int .u64 (nn : Int)) ∧ wx.cell? ⟨bb, off + k * 3 + 2, none⟩ = some (.int .u64 (tt : Int))) (by kernel_rfl) ?_ (fun hHeld => ?_)
              · exact ⟨(B21.out.drew.cell HBB0.out).trans E0.out, (B21.out.drew.cell HBB1.out).trans E1.out, (B21.out.drew.cell HBB2.out).trans E2.out⟩
              refine held_take (v := ?vv139) 1 rfl (by kernel_rfl) (by kernel_rfl) (by kernel_rfl) (fun _ _ _ h => h) (by rfl) ?yy139 (by assumption) ?nn139
              case yy139 =>
                intro w hSw
                (try dsimp only at hSw)
                go_simp
                try with_reducible rfl
              try simp only [Act.put, List.setIfInBounds_toArray, List.set_cons_zero, List.set_cons_succ]
              refine held_take (v := ?vv140) 2 rfl (by kernel_rfl) (by kernel_rfl) (by kernel_rfl) (fun _ _ _ h => h) (by rfl) ?yy140 (by assumption) ?nn140
              case yy140 =>
                intro w hSw
                (try dsimp only at hSw)
                go_simp
                try with_reducible rfl
              try simp only [Act.put, List.setIfInBounds_toArray, List.set_cons_zero, List.set_cons_succ]
              refine held_take (v := ?vv141) 3 rfl (by kernel_rfl) (by kernel_rfl) (by kernel_rfl) (fun _ _ _ h => h) (by rfl) ?yy141 (by assumption) ?nn141
              case yy141 =>
                intro w hSw
                (try dsimp only at hSw)
                go_simp
                try with_reducible rfl
              try simp only [Act.put, List.setIfInBounds_toArray, List.set_cons_zero, List.set_cons_succ]
              refine held_take (v := ?vv142) 4 rfl (by kernel_rfl) (by kernel_rfl) (by kernel_rfl) (fun _ _ _ h => h) (by rfl) ?yy142 (by assumption) ?nn142
              case yy142 =>
                intro w hSw
                (try dsimp only at hSw)
                go_simp
                try with_reducible rfl
              try simp only [Act.put, List.setIfInBounds_toArray, List.set_cons_zero, List.set_cons_succ]
              refine held_take (v := .int .u64 (mm : Int)) 5 rfl (by kernel_rfl) (by kernel_rfl) (by kernel_rfl) (fun _ _ _ h => h) (by rfl) (fun wx hSw => by have a0 := hSw.1; clear hSw; (try dsimp only at a0); go_simp) (by assumption) ?_
              try simp only [Act.put, List.setIfInBounds_toArray, List.set_cons_zero, List.set_cons_succ]
              refine held_take (v := ?vv144) 6 rfl (by kernel_rfl) (by kernel_rfl) (by kernel_rfl) (fun _ _ _ h => h) (by rfl) ?yy144 (by assumption) ?nn144
              case yy144 =>
                intro w hSw
                (try dsimp only at hSw)
                go_simp
                try with_reducible rfl
              try simp only [Act.put, List.setIfInBounds_toArray, List.set_cons_zero, List.set_cons_succ]
              refine held_take (v := ?vv145) 7 rfl (by kernel_rfl) (by kernel_rfl) (by kernel_rfl) (fun _ _ _ h => h) (by rfl) ?yy145 (by assumption) ?nn145
              case yy145 =>
                intro w hSw
                (try dsimp only at hSw)
                go_simp
                try with_reducible rfl
              try simp only [Act.put, List.setIfInBounds_toArray, List.set_cons_zero, List.set_cons_succ]
              refine held_take (v := ?vv146) 8 rfl (by kernel_rfl) (by kernel_rfl) (by kernel_rfl) (fun _ _ _ h => h) (by rfl) ?yy146 (by assumption) ?nn146
              case yy146 =>
                intro w hSw
                (try dsimp only at hSw)
                go_simp
                try with_reducible rfl
              try simp only [Act.put, List.setIfInBounds_toArray, List.set_cons_zero, List.set_cons_succ]
              refine held_take (v := ?vv147) 9 rfl (by kernel_rfl) (by kernel_rfl) (by kernel_rfl) (fun _ _ _ h => h) (by rfl) ?yy147 (by assumption) ?nn147
              case yy147 =>
                intro w hSw
                (try dsimp only at hSw)
                go_simp
                try with_reducible rfl
              try simp only [Act.put, List.setIfInBounds_toArray, List.set_cons_zero, List.set_cons_succ]
              refine held_take (v := .int .u64 (nn : Int)) 10 rfl (by kernel_rfl) (by kernel_rfl) (by kernel_rfl) (fun _ _ _ h => h) (by rfl) (fun wx hSw => by have a0 := hSw.2.1; clear hSw; (try dsimp only at a0); go_simp) (by assumption) ?_
              try simp only [Act.put, List.setIfInBounds_toArray, List.set_cons_zero, List.set_cons_succ]
              refine held_take (v := ?vv149) 11 rfl (by kernel_rfl) (by kernel_rfl) (by kernel_rfl) (fun _ _ _ h => h) (by rfl) ?yy149 (by assumption) ?nn149
              case yy149 =>
                intro w hSw
                (try dsimp only at hSw)
                go_simp
                try with_reducible rfl
              try simp only [Act.put, List.setIfInBounds_toArray, List.set_cons_zero, List.set_cons_succ]
              refine held_take (v := ?vv150) 12 rfl (by kernel_rfl) (by kernel_rfl) (by kernel_rfl) (fun _ _ _ h => h) (by rfl) ?yy150 (by assumption) ?nn150
              case yy150 =>
                intro w hSw
                (try dsimp only at hSw)
                go_simp
                try with_reducible rfl
              try simp only [Act.put, List.setIfInBounds_toArray, List.set_cons_zero, List.set_cons_succ]
              refine held_take (v := ?vv151) 13 rfl (by kernel_rfl) (by kernel_rfl) (by kernel_rfl) (fun _ _ _ h => h) (by rfl) ?yy151 (by assumption) ?nn151
              case yy151 =>
                intro w hSw
                (try dsimp only at hSw)
                go_simp
                try with_reducible rfl
              try simp only [Act.put, List.setIfInBounds_toArray, List.set_cons_zero, List.set_cons_succ]
              refine held_take (v := ?vv152) 14 rfl (by kernel_rfl) (by kernel_rfl) (by kernel_rfl) (fun _ _ _ h => h) (by rfl) ?yy152 (by assumption) ?nn152
              case yy152 =>
                intro w hSw
                (try dsimp only at hSw)
                go_simp
                try with_reducible rfl
              try simp only [Act.put, List.setIfInBounds_toArray, List.set_cons_zero, List.set_cons_succ]
              refine held_take (v := .int .u64 (tt : Int)) 15 rfl (by kernel_rfl) (by kernel_rfl) (by kernel_rfl) (fun _ _ _ h => h) (by rfl) (fun wx hSw => by have a0 := hSw.2.2; clear hSw; (try dsimp only at a0); go_simp) (by assumption) ?_
              try simp only [Act.put, List.setIfInBounds_toArray, List.set_cons_zero, List.set_cons_succ]
              refine held_do 0 rfl (by kernel_rfl) (by rfl) (fun K hK => ?_)
              go_wp2_with fail
              refine hK.out _ _ ?_ (fun hHeld => ?_)
              · exact ⟨(B21.out.drew.cell HBB0.out).trans E0.out, (B21.out.drew.cell HBB1.out).trans E1.out, (B21.out.drew.cell HBB2.out).trans E2.out⟩
              clear hK K
              try simp only [Act.put, List.setIfInBounds_toArray, List.set_cons_zero, List.set_cons_succ]
              refine held_do 16 rfl (by kernel_rfl) (by rfl) (fun K hK => ?_)
              go_wp2_with (go_at_call 10; refine (C2.out _).mono ?_; rintro e w22 ⟨rfl, hb22⟩; have HB := Lib.hid hb22; clear hb22)
              refine hK.out _ _ ?_ (fun hHeld => ?_)
              · exact ⟨((below_trans' B21.out.drew HB.out).cell HBB0.out).trans E0.out, ((below_trans' B21.out.drew HB.out).cell HBB1.out).trans E1.out, ((below_trans' B21.out.drew HB.out).cell HBB2.out).trans E2.out⟩
              clear hK K
              try simp only [Act.put, List.setIfInBounds_toArray, List.set_cons_zero, List.set_cons_succ]
              have B22 := Lib.hid (below_trans' B21.out.drew HB.out)
              have XS22 := Lib.hid (XS21.out.drew.below HB.out SS21.out)
              have SS22 := Lib.hid (Nat.lt_of_lt_of_le SS21.out HB.out.size)
              have XV22 := Lib.hid (XV21.out.drew.below HB.out SV21.out)
              have SV22 := Lib.hid (Nat.lt_of_lt_of_le SV21.out HB.out.size)
              clear s0 s1 s2 s3 s4 s5 s6
              clear HB B21 XS21 SS21 XV21 SV21
              obtain ⟨s0, s1, s2, s3, s4, s5, s6, sf0, sf1, sf2, sf3, sf4, sf5, sf6⟩ := XS22.out
              refine held_do 17 rfl (by kernel_rfl) (by rfl) (fun K hK => ?_)
              go_wp2_with fail
              refine hK.out _ _ ?_ (fun hHeld => ?_)
              · exact ⟨((B22.out.trans (putSl_below (p := pS) GS.out)).cell HBB0.out).trans E0.out, ((B22.out.trans (putSl_below (p := pS) GS.out)).cell HBB1.out).trans E1.out, ((B22.out.trans (putSl_below (p := pS) GS.out)).cell HBB2.out).trans E2.out⟩
              clear hK K
              try simp only [Act.put, List.setIfInBounds_toArray, List.set_cons_zero, List.set_cons_succ]
              refine wpAnyH_done (by kernel_rfl) ?_ _
              clear hHeld
              obtain ⟨w23, hw⟩ : ∃ wx, wx = putSl pS a' b' c' d' f' y' r' w22 := ⟨_, rfl⟩
              have XS23 := Lib.hid (show BxSl pS a' b' c' d' f' y' r' w23 by rw [hw]; exact XS22.out.put)
              have B23 := Lib.hid (show Below w.heap.size w w23 by rw [hw]; exact B22.out.trans (putSl_below GS.out))
              have hz : w22.heap.size ≤ w23.heap.size := by rw [hw]; exact (putSl_below (B := 0) (Nat.zero_le _)).size
              have SS23 := Lib.hid (Nat.lt_of_lt_of_le SS22.out hz)
              have XV23 := Lib.hid (show BxSl pV a b c d f y r w23 by rw [hw]; unfold putSl; exact (((((((XV22.out.other rfl (Nat.ne_of_lt OSV.out)).other rfl (Nat.ne_of_lt OSV.out)).other rfl (Nat.ne_of_lt OSV.out)).other rfl (Nat.ne_of_lt OSV.out)).other rfl (Nat.ne_of_lt OSV.out)).other rfl (Nat.ne_of_lt OSV.out)).other rfl (Nat.ne_of_lt OSV.out)))
              have SV23 := Lib.hid (Nat.lt_of_lt_of_le SV22.out hz)
              rw [show ((((((w22.setCell ⟨pS, 0, none⟩ (.int .i64 (a'))).setCell ⟨pS, 1, none⟩ (.int .u64 (b' : Int))).setCell ⟨pS, 2, none⟩ (.int .u64 (c' : Int))).setCell ⟨pS, 3, none⟩ (.int .u64 (d' : Int))).setCell ⟨pS, 4, none⟩ (.int .u64 (f' : Int))).setCell ⟨pS, 5, none⟩ (.int .u64 (y' : Int))).setCell ⟨pS, 6, none⟩ (.int .u64 (r' : Int)) = w23 from hw.symm]
              clear s0 s1 s2 s3 s4 s5 s6 sf0 sf1 sf2 sf3 sf4 sf5 sf6
              clear hw hz B22 XS22 SS22 XV22 SV22
              have c00 := (B23.out.cell HBB0.out).trans E0.out
              have c11 := (B23.out.cell HBB1.out).trans E1.out
              have c22 := (B23.out.cell HBB2.out).trans E2.out
              obtain ⟨v0, v1, v2, v3, v4, v5, v6, -, -, -, -, -, -, -⟩ := XV23.out
              go_upto_region 12 with fail
              go_quiet (first | fail)
              obtain ⟨w24, hw⟩ : ∃ wx, wx = w23.drewN nq := ⟨_, rfl⟩
              rw [← hw]
              have B24 := Lib.hid (show Below w.heap.size w w24 by rw [hw]; exact below_drewN' B23.out nq)
              have XS24 := Lib.hid (show BxSl pS a' b' c' d' f' y' r' w24 by rw [hw]; exact XS23.out.drewN nq)
              have SS24 := Lib.hid (show pS < w24.heap.size by rw [hw]; exact SS23.out)
              have XV24 := Lib.hid (show BxSl pV a b c d f y r w24 by rw [hw]; exact XV23.out.drewN nq)
              have SV24 := Lib.hid (show pV < w24.heap.size by rw [hw]; exact SV23.out)
              clear v0 v1 v2 v3 v4 v5 v6
              clear hw B23 XS23 SS23 XV23 SV23
              clear c00 c11 c22
              have c00 := (B24.out.cell HBB0.out).trans E0.out
              have c11 := (B24.out.cell HBB1.out).trans E1.out
              have c22 := (B24.out.cell HBB2.out).trans E2.out
              obtain ⟨s0, s1, s2, s3, s4, s5, s6, -, -, -, -, -, -, -⟩ := XS24.out
              obtain ⟨v0, v1, v2, v3, v4, v5, v6, -, -, -, -, -, -, -⟩ := XV24.out
              have RZ := Lib.hid (show EnRel m pS w (.int .u64 (d' : Int)) (.int .i64 (k1 : Int)) w24 from ⟨k1, d', a', b', c', d', f', y', r', HR.out.1, HR.out.2.1, rfl, rfl, HF.out.1, HF.out.2, XS24.out, SS24.out, B24.out⟩)
              go_wp2_with fail
              go_roundw
              case rel => exact RZ.out
              case measure => have := HR.out; simp [intOf]; omega
          · by_cases hfin : a' = 2
            · have t3 : decide (b ≤ mm) = false := decide_eq_false hb
              obtain ⟨l1, hl1⟩ : ∃ l1, l1 = min lo tt := ⟨_, rfl⟩
              have hll : Wig.hlow ⟨a, b, c, d, f, y, r⟩ lo mm tt = l1 := by rw [hl1]; unfold Wig.hlow; rw [if_neg hb]
              rw [hll] at i1
              rw [hll] at i2
              have m1 : ∀ ts ty w, (Builtin.min_ ts ty #[.int .u64 (lo : Int), .int .u64 (tt : Int)]).run Try.prog w = .ok (.int .u64 (l1 : Int)) w := by
                intro ts ty w
                rw [run_min_int2, show (if (tt : Int) < (lo : Int) then (tt : Int) else (lo : Int)) = (l1 : Int) by split <;> omega]
              have d2 : (a' == 2) = true := by simpa using hfin
              have d3 : (a' != 2) = false := by simpa using hfin
              have d4 : decide ((5 : Int) < (r' : Int)) = false := decide_eq_false (by omega)
              have d5 : decide (a' < 0) = false := decide_eq_false (by omega)
              have d6 : decide (2 < a') = false := decide_eq_false (by omega)
              have d7 : ((r : Int) != 4) = false := by have h4 := i3 hfin; simp at h4 ⊢; omega
              have HF := Lib.hid (show Wig.HInv ⟨a', b', c', d', f', y', r'⟩ l1 ∧ Wig.Sw.Ok ⟨a', b', c', d', f', y', r'⟩ from ⟨i1, ok2⟩)
              clear hb hfin hl1 hll i1 i2 i3 i4 i5 i6 ok2
              obtain ⟨s0, s1, s2, s3, s4, s5, s6, -, -, -, -, -, -, -⟩ := XS20.out
              go_upto_region 8 with fail
              obtain ⟨w21, hw⟩ : ∃ wx, wx = wr.alloc (.cells #[.int .i64 a, .int .u64 (b : Int), .int .u64 (c : Int), .int .u64 (d : Int), .int .u64 (f : Int), .int .u64 (y : Int), .int .u64 (r : Int)] 25) := ⟨_, rfl⟩
              rw [← hw]
              obtain ⟨pV, hp⟩ : ∃ px, px = wr.heap.size := ⟨_, rfl⟩
              rw [← hp]
              have hb : Below wr.heap.size wr w21 := by rw [hw]; exact (Below.refl _ _).alloc (Nat.le_refl _) _
              have hx : BxSl pV a b c d f y r w21 := by rw [hp, hw]; exact BxSl.new _ a b c d f y r
              have hs : pV < w21.heap.size := by rw [hp, hw]; simp
              have GV := Lib.hid (show w.heap.size ≤ pV by rw [hp]; exact B20.out.size)
              have OSV := Lib.hid (show pS < pV by rw [hp]; exact SS20.out)
              have B21 := Lib.hid (below_trans' B20.out hb)
              have XS21 := Lib.hid (XS20.out.below hb SS20.out)
              have SS21 := Lib.hid (Nat.lt_of_lt_of_le SS20.out hb.size)
              clear s0 s1 s2 s3 s4 s5 s6
              clear hb B20 XS20 SS20
              have XV21 := Lib.hid hx
              have SV21 := Lib.hid hs
              clear hx hs hw hp
              obtain ⟨s0, s1, s2, s3, s4, s5, s6, -, -, -, -, -, -, -⟩ := XS21.out
              refine wp_region_held_drew (S := fun wx => wx.cell? ⟨bb, off + k * 3, none⟩ = some (.int .u64 (mm : Int)) ∧ wx.cell? ⟨bb, off + k * 3 + 1, none⟩ = some (.int .u64 (nn : Int)) ∧ wx.cell? ⟨bb, off + k * 3 + 2, none⟩ = some (.int .u64 (tt : Int))) (by kernel_rfl) ?_ (fun hHeld => ?_)
              · exact ⟨(B21.out.drew.cell HBB0.out).trans E0.out, (B21.out.drew.cell HBB1.out).trans E1.out, (B21.out.drew.cell HBB2.out).trans E2.out⟩
              refine held_take (v := ?vv158) 1 rfl (by kernel_rfl) (by kernel_rfl) (by kernel_rfl) (fun _ _ _ h => h) (by rfl) ?yy158 (by assumption) ?nn158
              case yy158 =>
                intro w hSw
                (try dsimp only at hSw)
                go_simp
                try with_reducible rfl
              try simp only [Act.put, List.setIfInBounds_toArray, List.set_cons_zero, List.set_cons_succ]
              refine held_take (v := ?vv159) 2 rfl (by kernel_rfl) (by kernel_rfl) (by kernel_rfl) (fun _ _ _ h => h) (by rfl) ?yy159 (by assumption) ?nn159
              case yy159 =>
                intro w hSw
                (try dsimp only at hSw)
                go_simp
                try with_reducible rfl
              try simp only [Act.put, List.setIfInBounds_toArray, List.set_cons_zero, List.set_cons_succ]
              refine held_take (v := ?vv160) 3 rfl (by kernel_rfl) (by kernel_rfl) (by kernel_rfl) (fun _ _ _ h => h) (by rfl) ?yy160 (by assumption) ?nn160
              case yy160 =>
                intro w hSw
                (try dsimp only at hSw)
                go_simp
                try with_reducible rfl
              try simp only [Act.put, List.setIfInBounds_toArray, List.set_cons_zero, List.set_cons_succ]
              refine held_take (v := ?vv161) 4 rfl (by kernel_rfl) (by kernel_rfl) (by kernel_rfl) (fun _ _ _ h => h) (by rfl) ?yy161 (by assumption) ?nn161
              case yy161 =>
                intro w hSw
                (try dsimp only at hSw)
                go_simp
                try with_reducible rfl
              try simp only [Act.put, List.setIfInBounds_toArray, List.set_cons_zero, List.set_cons_succ]
              refine held_take (v := .int .u64 (mm : Int)) 5 rfl (by kernel_rfl) (by kernel_rfl) (by kernel_rfl) (fun _ _ _ h => h) (by rfl) (fun wx hSw => by have a0 := hSw.1; clear hSw; (try dsimp only at a0); go_simp) (by assumption) ?_
              try simp only [Act.put, List.setIfInBounds_toArray, List.set_cons_zero, List.set_cons_succ]
              refine held_take (v := ?vv163) 6 rfl (by kernel_rfl) (by kernel_rfl) (by kernel_rfl) (fun _ _ _ h => h) (by rfl) ?yy163 (by assumption) ?nn163
              case yy163 =>
                intro w hSw
                (try dsimp only at hSw)
                go_simp
                try with_reducible rfl
              try simp only [Act.put, List.setIfInBounds_toArray, List.set_cons_zero, List.set_cons_succ]
              refine held_take (v := ?vv164) 7 rfl (by kernel_rfl) (by kernel_rfl) (by kernel_rfl) (fun _ _ _ h => h) (by rfl) ?yy164 (by assumption) ?nn164
              case yy164 =>
                intro w hSw
                (try dsimp only at hSw)
                go_simp
                try with_reducible rfl
              try simp only [Act.put, List.setIfInBounds_toArray, List.set_cons_zero, List.set_cons_succ]
              refine held_take (v := ?vv165) 8 rfl (by kernel_rfl) (by kernel_rfl) (by kernel_rfl) (fun _ _ _ h => h) (by rfl) ?yy165 (by assumption) ?nn165
              case yy165 =>
                intro w hSw
                (try dsimp only at hSw)
                go_simp
                try with_reducible rfl
              try simp only [Act.put, List.setIfInBounds_toArray, List.set_cons_zero, List.set_cons_succ]
              refine held_take (v := ?vv166) 9 rfl (by kernel_rfl) (by kernel_rfl) (by kernel_rfl) (fun _ _ _ h => h) (by rfl) ?yy166 (by assumption) ?nn166
              case yy166 =>
                intro w hSw
                (try dsimp only at hSw)
                go_simp
                try with_reducible rfl
              try simp only [Act.put, List.setIfInBounds_toArray, List.set_cons_zero, List.set_cons_succ]
              refine held_take (v := .int .u64 (nn : Int)) 10 rfl (by kernel_rfl) (by kernel_rfl) (by kernel_rfl) (fun _ _ _ h => h) (by rfl) (fun wx hSw => by have a0 := hSw.2.1; clear hSw; (try dsimp only at a0); go_simp) (by assumption) ?_
              try simp only [Act.put, List.setIfInBounds_toArray, List.set_cons_zero, List.set_cons_succ]
              refine held_take (v := ?vv168) 11 rfl (by kernel_rfl) (by kernel_rfl) (by kernel_rfl) (fun _ _ _ h => h) (by rfl) ?yy168 (by assumption) ?nn168
              case yy168 =>
                intro w hSw
                (try dsimp only at hSw)
                go_simp
                try with_reducible rfl
              try simp only [Act.put, List.setIfInBounds_toArray, List.set_cons_zero, List.set_cons_succ]
              refine held_take (v := ?vv169) 12 rfl (by kernel_rfl) (by kernel_rfl) (by kernel_rfl) (fun _ _ _ h => h) (by rfl) ?yy169 (by assumption) ?nn169
              case yy169 =>
                intro w hSw
                (try dsimp only at hSw)
                go_simp
                try with_reducible rfl
              try simp only [Act.put, List.setIfInBounds_toArray, List.set_cons_zero, List.set_cons_succ]
              refine held_take (v := ?vv170) 13 rfl (by kernel_rfl) (by kernel_rfl) (by kernel_rfl) (fun _ _ _ h => h) (by rfl) ?yy170 (by assumption) ?nn170
              case yy170 =>
                intro w hSw
                (try dsimp only at hSw)
                go_simp
                try with_reducible rfl
              try simp only [Act.put, List.setIfInBounds_toArray, List.set_cons_zero, List.set_cons_succ]
              refine held_take (v := ?vv171) 14 rfl (by kernel_rfl) (by kernel_rfl) (by kernel_rfl) (fun _ _ _ h => h) (by rfl) ?yy171 (by assumption) ?nn171
              case yy171 =>
                intro w hSw
                (try dsimp only at hSw)
                go_simp
                try with_reducible rfl
              try simp only [Act.put, List.setIfInBounds_toArray, List.set_cons_zero, List.set_cons_succ]
              refine held_take (v := .int .u64 (tt : Int)) 15 rfl (by kernel_rfl) (by kernel_rfl) (by kernel_rfl) (fun _ _ _ h => h) (by rfl) (fun wx hSw => by have a0 := hSw.2.2; clear hSw; (try dsimp only at a0); go_simp) (by assumption) ?_
              try simp only [Act.put, List.setIfInBounds_toArray, List.set_cons_zero, List.set_cons_succ]
              refine held_do 0 rfl (by kernel_rfl) (by rfl) (fun K hK => ?_)
              go_wp2_with fail
              refine hK.out _ _ ?_ (fun hHeld => ?_)
              · exact ⟨(B21.out.drew.cell HBB0.out).trans E0.out, (B21.out.drew.cell HBB1.out).trans E1.out, (B21.out.drew.cell HBB2.out).trans E2.out⟩
              clear hK K
              try simp only [Act.put, List.setIfInBounds_toArray, List.set_cons_zero, List.set_cons_succ]
              refine held_do 16 rfl (by kernel_rfl) (by rfl) (fun K hK => ?_)
              go_wp2_with (go_at_call 10; refine (C2.out _).mono ?_; rintro e w22 ⟨rfl, hb22⟩; have HB := Lib.hid hb22; clear hb22)
              refine hK.out _ _ ?_ (fun hHeld => ?_)
              · exact ⟨((below_trans' B21.out.drew HB.out).cell HBB0.out).trans E0.out, ((below_trans' B21.out.drew HB.out).cell HBB1.out).trans E1.out, ((below_trans' B21.out.drew HB.out).cell HBB2.out).trans E2.out⟩
              clear hK K
              try simp only [Act.put, List.setIfInBounds_toArray, List.set_cons_zero, List.set_cons_succ]
              have B22 := Lib.hid (below_trans' B21.out.drew HB.out)
              have XS22 := Lib.hid (XS21.out.drew.below HB.out SS21.out)
              have SS22 := Lib.hid (Nat.lt_of_lt_of_le SS21.out HB.out.size)
              have XV22 := Lib.hid (XV21.out.drew.below HB.out SV21.out)
              have SV22 := Lib.hid (Nat.lt_of_lt_of_le SV21.out HB.out.size)
              clear s0 s1 s2 s3 s4 s5 s6
              clear HB B21 XS21 SS21 XV21 SV21
              obtain ⟨s0, s1, s2, s3, s4, s5, s6, sf0, sf1, sf2, sf3, sf4, sf5, sf6⟩ := XS22.out
              refine held_do 17 rfl (by kernel_rfl) (by rfl) (fun K hK => ?_)
              go_wp2_with fail
              refine hK.out _ _ ?_ (fun hHeld => ?_)
              · exact ⟨((B22.out.trans (putSl_below (p := pS) GS.out)).cell HBB0.out).trans E0.out, ((B22.out.trans (putSl_below (p := pS) GS.out)).cell HBB1.out).trans E1.out, ((B22.out.trans (putSl_below (p := pS) GS.out)).cell HBB2.out).trans E2.out⟩
              clear hK K
              try simp only [Act.put, List.setIfInBounds_toArray, List.set_cons_zero, List.set_cons_succ]
              refine wpAnyH_done (by kernel_rfl) ?_ _
              clear hHeld
              obtain ⟨w23, hw⟩ : ∃ wx, wx = putSl pS a' b' c' d' f' y' r' w22 := ⟨_, rfl⟩
              have XS23 := Lib.hid (show BxSl pS a' b' c' d' f' y' r' w23 by rw [hw]; exact XS22.out.put)
              have B23 := Lib.hid (show Below w.heap.size w w23 by rw [hw]; exact B22.out.trans (putSl_below GS.out))
              have hz : w22.heap.size ≤ w23.heap.size := by rw [hw]; exact (putSl_below (B := 0) (Nat.zero_le _)).size
              have SS23 := Lib.hid (Nat.lt_of_lt_of_le SS22.out hz)
              have XV23 := Lib.hid (show BxSl pV a b c d f y r w23 by rw [hw]; unfold putSl; exact (((((((XV22.out.other rfl (Nat.ne_of_lt OSV.out)).other rfl (Nat.ne_of_lt OSV.out)).other rfl (Nat.ne_of_lt OSV.out)).other rfl (Nat.ne_of_lt OSV.out)).other rfl (Nat.ne_of_lt OSV.out)).other rfl (Nat.ne_of_lt OSV.out)).other rfl (Nat.ne_of_lt OSV.out)))
              have SV23 := Lib.hid (Nat.lt_of_lt_of_le SV22.out hz)
              rw [show ((((((w22.setCell ⟨pS, 0, none⟩ (.int .i64 (a'))).setCell ⟨pS, 1, none⟩ (.int .u64 (b' : Int))).setCell ⟨pS, 2, none⟩ (.int .u64 (c' : Int))).setCell ⟨pS, 3, none⟩ (.int .u64 (d' : Int))).setCell ⟨pS, 4, none⟩ (.int .u64 (f' : Int))).setCell ⟨pS, 5, none⟩ (.int .u64 (y' : Int))).setCell ⟨pS, 6, none⟩ (.int .u64 (r' : Int)) = w23 from hw.symm]
              clear s0 s1 s2 s3 s4 s5 s6 sf0 sf1 sf2 sf3 sf4 sf5 sf6
              clear hw hz B22 XS22 SS22 XV22 SV22
              have c00 := (B23.out.cell HBB0.out).trans E0.out
              have c11 := (B23.out.cell HBB1.out).trans E1.out
              have c22 := (B23.out.cell HBB2.out).trans E2.out
              obtain ⟨v0, v1, v2, v3, v4, v5, v6, -, -, -, -, -, -, -⟩ := XV23.out
              go_upto_region 12 with fail
              go_quiet (first | fail)
              obtain ⟨w24, hw⟩ : ∃ wx, wx = w23.drewN nq := ⟨_, rfl⟩
              rw [← hw]
              have B24 := Lib.hid (show Below w.heap.size w w24 by rw [hw]; exact below_drewN' B23.out nq)
              have XS24 := Lib.hid (show BxSl pS a' b' c' d' f' y' r' w24 by rw [hw]; exact XS23.out.drewN nq)
              have SS24 := Lib.hid (show pS < w24.heap.size by rw [hw]; exact SS23.out)
              have XV24 := Lib.hid (show BxSl pV a b c d f y r w24 by rw [hw]; exact XV23.out.drewN nq)
              have SV24 := Lib.hid (show pV < w24.heap.size by rw [hw]; exact SV23.out)
              clear v0 v1 v2 v3 v4 v5 v6
              clear hw B23 XS23 SS23 XV23 SV23
              clear c00 c11 c22
              have c00 := (B24.out.cell HBB0.out).trans E0.out
              have c11 := (B24.out.cell HBB1.out).trans E1.out
              have c22 := (B24.out.cell HBB2.out).trans E2.out
              obtain ⟨s0, s1, s2, s3, s4, s5, s6, -, -, -, -, -, -, -⟩ := XS24.out
              obtain ⟨v0, v1, v2, v3, v4, v5, v6, -, -, -, -, -, -, -⟩ := XV24.out
              have RZ := Lib.hid (show EnRel m pS w (.int .u64 (l1 : Int)) (.int .i64 (k1 : Int)) w24 from ⟨k1, l1, a', b', c', d', f', y', r', HR.out.1, HR.out.2.1, rfl, rfl, HF.out.1, HF.out.2, XS24.out, SS24.out, B24.out⟩)
              go_wp2_with fail
              go_roundw
              case rel => exact RZ.out
              case measure => have := HR.out; simp [intOf]; omega
            · have t3 : decide (b ≤ mm) = false := decide_eq_false hb
              obtain ⟨l1, hl1⟩ : ∃ l1, l1 = min lo tt := ⟨_, rfl⟩
              have hll : Wig.hlow ⟨a, b, c, d, f, y, r⟩ lo mm tt = l1 := by rw [hl1]; unfold Wig.hlow; rw [if_neg hb]
              rw [hll] at i1
              rw [hll] at i2
              have m1 : ∀ ts ty w, (Builtin.min_ ts ty #[.int .u64 (lo : Int), .int .u64 (tt : Int)]).run Try.prog w = .ok (.int .u64 (l1 : Int)) w := by
                intro ts ty w
                rw [run_min_int2, show (if (tt : Int) < (lo : Int) then (tt : Int) else (lo : Int)) = (l1 : Int) by split <;> omega]
              have d2 : (a' == 2) = false := by simpa using hfin
              have d3 : (a' != 2) = true := by simpa using hfin
              have d4 : decide ((5 : Int) < (r' : Int)) = false := decide_eq_false (by omega)
              have d5 : decide (a' < 0) = false := decide_eq_false (by omega)
              have d6 : decide (2 < a') = false := decide_eq_false (by omega)
              have h9 : d' = l1 := i2 hfin
              subst h9
              have d7 : ((d' : Int) != (d' : Int)) = false := by simp
              have HF := Lib.hid (show Wig.HInv ⟨a', b', c', d', f', y', r'⟩ d' ∧ Wig.Sw.Ok ⟨a', b', c', d', f', y', r'⟩ from ⟨i1, ok2⟩)
              clear hb hfin hl1 hll i1 i2 i3 i4 i5 i6 ok2
              obtain ⟨s0, s1, s2, s3, s4, s5, s6, -, -, -, -, -, -, -⟩ := XS20.out
              go_upto_region 8 with fail
              obtain ⟨w21, hw⟩ : ∃ wx, wx = wr.alloc (.cells #[.int .i64 a, .int .u64 (b : Int), .int .u64 (c : Int), .int .u64 (d : Int), .int .u64 (f : Int), .int .u64 (y : Int), .int .u64 (r : Int)] 25) := ⟨_, rfl⟩
              rw [← hw]
              obtain ⟨pV, hp⟩ : ∃ px, px = wr.heap.size := ⟨_, rfl⟩
              rw [← hp]
              have hb : Below wr.heap.size wr w21 := by rw [hw]; exact (Below.refl _ _).alloc (Nat.le_refl _) _
              have hx : BxSl pV a b c d f y r w21 := by rw [hp, hw]; exact BxSl.new _ a b c d f y r
              have hs : pV < w21.heap.size := by rw [hp, hw]; simp
              have GV := Lib.hid (show w.heap.size ≤ pV by rw [hp]; exact B20.out.size)
              have OSV := Lib.hid (show pS < pV by rw [hp]; exact SS20.out)
              have B21 := Lib.hid (below_trans' B20.out hb)
              have XS21 := Lib.hid (XS20.out.below hb SS20.out)
              have SS21 := Lib.hid (Nat.lt_of_lt_of_le SS20.out hb.size)
              clear s0 s1 s2 s3 s4 s5 s6
              clear hb B20 XS20 SS20
              have XV21 := Lib.hid hx
              have SV21 := Lib.hid hs
              clear hx hs hw hp
              obtain ⟨s0, s1, s2, s3, s4, s5, s6, -, -, -, -, -, -, -⟩ := XS21.out
              refine wp_region_held_drew (S := fun wx => wx.cell? ⟨bb, off + k * 3, none⟩ = some (.int .u64 (mm : Int)) ∧ wx.cell? ⟨bb, off + k * 3 + 1, none⟩ = some (.int .u64 (nn : Int)) ∧ wx.cell? ⟨bb, off + k * 3 + 2, none⟩ = some (.int .u64 (tt : Int))) (by kernel_rfl) ?_ (fun hHeld => ?_)
              · exact ⟨(B21.out.drew.cell HBB0.out).trans E0.out, (B21.out.drew.cell HBB1.out).trans E1.out, (B21.out.drew.cell HBB2.out).trans E2.out⟩
              refine held_take (v := ?vv177) 1 rfl (by kernel_rfl) (by kernel_rfl) (by kernel_rfl) (fun _ _ _ h => h) (by rfl) ?yy177 (by assumption) ?nn177
              case yy177 =>
                intro w hSw
                (try dsimp only at hSw)
                go_simp
                try with_reducible rfl
              try simp only [Act.put, List.setIfInBounds_toArray, List.set_cons_zero, List.set_cons_succ]
              refine held_take (v := ?vv178) 2 rfl (by kernel_rfl) (by kernel_rfl) (by kernel_rfl) (fun _ _ _ h => h) (by rfl) ?yy178 (by assumption) ?nn178
              case yy178 =>
                intro w hSw
                (try dsimp only at hSw)
                go_simp
                try with_reducible rfl
              try simp only [Act.put, List.setIfInBounds_toArray, List.set_cons_zero, List.set_cons_succ]
              refine held_take (v := ?vv179) 3 rfl (by kernel_rfl) (by kernel_rfl) (by kernel_rfl) (fun _ _ _ h => h) (by rfl) ?yy179 (by assumption) ?nn179
              case yy179 =>
                intro w hSw
                (try dsimp only at hSw)
                go_simp
                try with_reducible rfl
              try simp only [Act.put, List.setIfInBounds_toArray, List.set_cons_zero, List.set_cons_succ]
              refine held_take (v := ?vv180) 4 rfl (by kernel_rfl) (by kernel_rfl) (by kernel_rfl) (fun _ _ _ h => h) (by rfl) ?yy180 (by assumption) ?nn180
              case yy180 =>
                intro w hSw
                (try dsimp only at hSw)
                go_simp
                try with_reducible rfl
              try simp only [Act.put, List.setIfInBounds_toArray, List.set_cons_zero, List.set_cons_succ]
              refine held_take (v := .int .u64 (mm : Int)) 5 rfl (by kernel_rfl) (by kernel_rfl) (by kernel_rfl) (fun _ _ _ h => h) (by rfl) (fun wx hSw => by have a0 := hSw.1; clear hSw; (try dsimp only at a0); go_simp) (by assumption) ?_
              try simp only [Act.put, List.setIfInBounds_toArray, List.set_cons_zero, List.set_cons_succ]
              refine held_take (v := ?vv182) 6 rfl (by kernel_rfl) (by kernel_rfl) (by kernel_rfl) (fun _ _ _ h => h) (by rfl) ?yy182 (by assumption) ?nn182
              case yy182 =>
                intro w hSw
                (try dsimp only at hSw)
                go_simp
                try with_reducible rfl
              try simp only [Act.put, List.setIfInBounds_toArray, List.set_cons_zero, List.set_cons_succ]
              refine held_take (v := ?vv183) 7 rfl (by kernel_rfl) (by kernel_rfl) (by kernel_rfl) (fun _ _ _ h => h) (by rfl) ?yy183 (by assumption) ?nn183
              case yy183 =>
                intro w hSw
                (try dsimp only at hSw)
                go_simp
                try with_reducible rfl
              try simp only [Act.put, List.setIfInBounds_toArray, List.set_cons_zero, List.set_cons_succ]
              refine held_take (v := ?vv184) 8 rfl (by kernel_rfl) (by kernel_rfl) (by kernel_rfl) (fun _ _ _ h => h) (by rfl) ?yy184 (by assumption) ?nn184
              case yy184 =>
                intro w hSw
                (try dsimp only at hSw)
                go_simp
                try with_reducible rfl
              try simp only [Act.put, List.setIfInBounds_toArray, List.set_cons_zero, List.set_cons_succ]
              refine held_take (v := ?vv185) 9 rfl (by kernel_rfl) (by kernel_rfl) (by kernel_rfl) (fun _ _ _ h => h) (by rfl) ?yy185 (by assumption) ?nn185
              case yy185 =>
                intro w hSw
                (try dsimp only at hSw)
                go_simp
                try with_reducible rfl
              try simp only [Act.put, List.setIfInBounds_toArray, List.set_cons_zero, List.set_cons_succ]
              refine held_take (v := .int .u64 (nn : Int)) 10 rfl (by kernel_rfl) (by kernel_rfl) (by kernel_rfl) (fun _ _ _ h => h) (by rfl) (fun wx hSw => by have a0 := hSw.2.1; clear hSw; (try dsimp only at a0); go_simp) (by assumption) ?_
              try simp only [Act.put, List.setIfInBounds_toArray, List.set_cons_zero, List.set_cons_succ]
              refine held_take (v := ?vv187) 11 rfl (by kernel_rfl) (by kernel_rfl) (by kernel_rfl) (fun _ _ _ h => h) (by rfl) ?yy187 (by assumption) ?nn187
              case yy187 =>
                intro w hSw
                (try dsimp only at hSw)
                go_simp
                try with_reducible rfl
              try simp only [Act.put, List.setIfInBounds_toArray, List.set_cons_zero, List.set_cons_succ]
              refine held_take (v := ?vv188) 12 rfl (by kernel_rfl) (by kernel_rfl) (by kernel_rfl) (fun _ _ _ h => h) (by rfl) ?yy188 (by assumption) ?nn188
              case yy188 =>
                intro w hSw
                (try dsimp only at hSw)
                go_simp
                try with_reducible rfl
              try simp only [Act.put, List.setIfInBounds_toArray, List.set_cons_zero, List.set_cons_succ]
              refine held_take (v := ?vv189) 13 rfl (by kernel_rfl) (by kernel_rfl) (by kernel_rfl) (fun _ _ _ h => h) (by rfl) ?yy189 (by assumption) ?nn189
              case yy189 =>
                intro w hSw
                (try dsimp only at hSw)
                go_simp
                try with_reducible rfl
              try simp only [Act.put, List.setIfInBounds_toArray, List.set_cons_zero, List.set_cons_succ]
              refine held_take (v := ?vv190) 14 rfl (by kernel_rfl) (by kernel_rfl) (by kernel_rfl) (fun _ _ _ h => h) (by rfl) ?yy190 (by assumption) ?nn190
              case yy190 =>
                intro w hSw
                (try dsimp only at hSw)
                go_simp
                try with_reducible rfl
              try simp only [Act.put, List.setIfInBounds_toArray, List.set_cons_zero, List.set_cons_succ]
              refine held_take (v := .int .u64 (tt : Int)) 15 rfl (by kernel_rfl) (by kernel_rfl) (by kernel_rfl) (fun _ _ _ h => h) (by rfl) (fun wx hSw => by have a0 := hSw.2.2; clear hSw; (try dsimp only at a0); go_simp) (by assumption) ?_
              try simp only [Act.put, List.setIfInBounds_toArray, List.set_cons_zero, List.set_cons_succ]
              refine held_do 0 rfl (by kernel_rfl) (by rfl) (fun K hK => ?_)
              go_wp2_with fail
              refine hK.out _ _ ?_ (fun hHeld => ?_)
              · exact ⟨(B21.out.drew.cell HBB0.out).trans E0.out, (B21.out.drew.cell HBB1.out).trans E1.out, (B21.out.drew.cell HBB2.out).trans E2.out⟩
              clear hK K
              try simp only [Act.put, List.setIfInBounds_toArray, List.set_cons_zero, List.set_cons_succ]
              refine held_do 16 rfl (by kernel_rfl) (by rfl) (fun K hK => ?_)
              go_wp2_with (go_at_call 10; refine (C2.out _).mono ?_; rintro e w22 ⟨rfl, hb22⟩; have HB := Lib.hid hb22; clear hb22)
              refine hK.out _ _ ?_ (fun hHeld => ?_)
              · exact ⟨((below_trans' B21.out.drew HB.out).cell HBB0.out).trans E0.out, ((below_trans' B21.out.drew HB.out).cell HBB1.out).trans E1.out, ((below_trans' B21.out.drew HB.out).cell HBB2.out).trans E2.out⟩
              clear hK K
              try simp only [Act.put, List.setIfInBounds_toArray, List.set_cons_zero, List.set_cons_succ]
              have B22 := Lib.hid (below_trans' B21.out.drew HB.out)
              have XS22 := Lib.hid (XS21.out.drew.below HB.out SS21.out)
              have SS22 := Lib.hid (Nat.lt_of_lt_of_le SS21.out HB.out.size)
              have XV22 := Lib.hid (XV21.out.drew.below HB.out SV21.out)
              have SV22 := Lib.hid (Nat.lt_of_lt_of_le SV21.out HB.out.size)
              clear s0 s1 s2 s3 s4 s5 s6
              clear HB B21 XS21 SS21 XV21 SV21
              obtain ⟨s0, s1, s2, s3, s4, s5, s6, sf0, sf1, sf2, sf3, sf4, sf5, sf6⟩ := XS22.out
              refine held_do 17 rfl (by kernel_rfl) (by rfl) (fun K hK => ?_)
              go_wp2_with fail
              refine hK.out _ _ ?_ (fun hHeld => ?_)
              · exact ⟨((B22.out.trans (putSl_below (p := pS) GS.out)).cell HBB0.out).trans E0.out, ((B22.out.trans (putSl_below (p := pS) GS.out)).cell HBB1.out).trans E1.out, ((B22.out.trans (putSl_below (p := pS) GS.out)).cell HBB2.out).trans E2.out⟩
              clear hK K
              try simp only [Act.put, List.setIfInBounds_toArray, List.set_cons_zero, List.set_cons_succ]
              refine wpAnyH_done (by kernel_rfl) ?_ _
              clear hHeld
              obtain ⟨w23, hw⟩ : ∃ wx, wx = putSl pS a' b' c' d' f' y' r' w22 := ⟨_, rfl⟩
              have XS23 := Lib.hid (show BxSl pS a' b' c' d' f' y' r' w23 by rw [hw]; exact XS22.out.put)
              have B23 := Lib.hid (show Below w.heap.size w w23 by rw [hw]; exact B22.out.trans (putSl_below GS.out))
              have hz : w22.heap.size ≤ w23.heap.size := by rw [hw]; exact (putSl_below (B := 0) (Nat.zero_le _)).size
              have SS23 := Lib.hid (Nat.lt_of_lt_of_le SS22.out hz)
              have XV23 := Lib.hid (show BxSl pV a b c d f y r w23 by rw [hw]; unfold putSl; exact (((((((XV22.out.other rfl (Nat.ne_of_lt OSV.out)).other rfl (Nat.ne_of_lt OSV.out)).other rfl (Nat.ne_of_lt OSV.out)).other rfl (Nat.ne_of_lt OSV.out)).other rfl (Nat.ne_of_lt OSV.out)).other rfl (Nat.ne_of_lt OSV.out)).other rfl (Nat.ne_of_lt OSV.out)))
              have SV23 := Lib.hid (Nat.lt_of_lt_of_le SV22.out hz)
              rw [show ((((((w22.setCell ⟨pS, 0, none⟩ (.int .i64 (a'))).setCell ⟨pS, 1, none⟩ (.int .u64 (b' : Int))).setCell ⟨pS, 2, none⟩ (.int .u64 (c' : Int))).setCell ⟨pS, 3, none⟩ (.int .u64 (d' : Int))).setCell ⟨pS, 4, none⟩ (.int .u64 (f' : Int))).setCell ⟨pS, 5, none⟩ (.int .u64 (y' : Int))).setCell ⟨pS, 6, none⟩ (.int .u64 (r' : Int)) = w23 from hw.symm]
              clear s0 s1 s2 s3 s4 s5 s6 sf0 sf1 sf2 sf3 sf4 sf5 sf6
              clear hw hz B22 XS22 SS22 XV22 SV22
              have c00 := (B23.out.cell HBB0.out).trans E0.out
              have c11 := (B23.out.cell HBB1.out).trans E1.out
              have c22 := (B23.out.cell HBB2.out).trans E2.out
              obtain ⟨v0, v1, v2, v3, v4, v5, v6, -, -, -, -, -, -, -⟩ := XV23.out
              go_upto_region 12 with fail
              go_quiet (first | fail)
              obtain ⟨w24, hw⟩ : ∃ wx, wx = w23.drewN nq := ⟨_, rfl⟩
              rw [← hw]
              have B24 := Lib.hid (show Below w.heap.size w w24 by rw [hw]; exact below_drewN' B23.out nq)
              have XS24 := Lib.hid (show BxSl pS a' b' c' d' f' y' r' w24 by rw [hw]; exact XS23.out.drewN nq)
              have SS24 := Lib.hid (show pS < w24.heap.size by rw [hw]; exact SS23.out)
              have XV24 := Lib.hid (show BxSl pV a b c d f y r w24 by rw [hw]; exact XV23.out.drewN nq)
              have SV24 := Lib.hid (show pV < w24.heap.size by rw [hw]; exact SV23.out)
              clear v0 v1 v2 v3 v4 v5 v6
              clear hw B23 XS23 SS23 XV23 SV23
              clear c00 c11 c22
              have c00 := (B24.out.cell HBB0.out).trans E0.out
              have c11 := (B24.out.cell HBB1.out).trans E1.out
              have c22 := (B24.out.cell HBB2.out).trans E2.out
              obtain ⟨s0, s1, s2, s3, s4, s5, s6, -, -, -, -, -, -, -⟩ := XS24.out
              obtain ⟨v0, v1, v2, v3, v4, v5, v6, -, -, -, -, -, -, -⟩ := XV24.out
              have RZ := Lib.hid (show EnRel m pS w (.int .u64 (d' : Int)) (.int .i64 (k1 : Int)) w24 from ⟨k1, d', a', b', c', d', f', y', r', HR.out.1, HR.out.2.1, rfl, rfl, HF.out.1, HF.out.2, XS24.out, SS24.out, B24.out⟩)
              go_wp2_with fail
              go_roundw
              case rel => exact RZ.out
              case measure => have := HR.out; simp [intOf]; omega
      · have t1 : decide (k < m) = true := decide_eq_true hkm
        have t2 : decide ((k : Int) < 200) = false := decide_eq_false (by omega)
        clear hk hk2 inv ok hkm hk5
        go_wp2_with fail
        go_ret
        exact ⟨rfl, B20.out⟩
    · have t1 : decide (k < m) = false := decide_eq_false hkm
      clear hk hk2 inv ok hkm 
      go_wp2_with fail
      go_ret
      exact ⟨rfl, B20.out⟩

set_option maxRecDepth 100000 in
theorem lifted (os : Os) (started : os.Started) (H : Type) (enc : TypeId × Value → H) :
    ReturnsInHanded {} Try.checked os 5 .any (Rows.hystartEndsSpec.pre6 enc Try.prog Try.f5 Rows.hystartEndsRow.domain false) (Rows.hystartEndsSpec.post enc Try.prog Try.f5 false true false false) := by
  refine returnsInHanded_of_change (C := Try.checked) own started (by kernel_rfl) Try.func5
    (ChangeSpec.witness6 (enc := enc) (C := Try.checked) false ⟨#[], #[.int .u64 0, .slice none 0 0], []⟩ 8 (by kernel_rfl) (by kernel_rfl) (by kernel_rfl) (by kernel_rfl)) ?_
  intro W base args ds gs before hval0 hW hcnd _
  have hval : ∀ (j : Nat) t v, Try.f5.params[j]? = some t → args[j]? = some v → Value.okWide Try.prog W .any base t v := hval0
  have hW' := hW
  obtain ⟨p, q, hA0, hV, rfl, hfz, hnd⟩ := hW
  have hA : DataW.TrodAll enc Try.prog W 0 (fun _ => true) true Try.f5.params.toList args.toList ds p := hA0
  obtain ⟨rfl, rfl⟩ := trodVars_none hV
  simp only [List.append_nil] at hW'
  have hlow : ∀ x ∈ p, x.block < W.heap.size := fun x hx => hW'.lt x hx
  have hA2 := hA
  rw [Try.params5] at hval hA2
  obtain ⟨v0, vs0, d0, ds0, p0, q0, hargs, rfl, rfl, h0, r0⟩ := trodAll_cons hA2
  obtain ⟨v1, vs1, d1, ds1, p1, q1, rfl, rfl, rfl, h1, r1⟩ := trodAll_cons r0
  obtain ⟨rfl, rfl, rfl⟩ := trodAll_nil r1
  obtain rfl : args = #[v0, v1] := by cases args; simp_all
  obtain ⟨n0, rfl, hn0⟩ := open_u64 Try.underlying23 (hval 0 23 v0 rfl rfl) h0
  obtain ⟨A1, c1, ss1, rfl, hf1, hr1, hl1, hc1⟩ := open_evs Try.underlying31 (hval 1 31 v1 rfl rfl) h1 (fun x hx => hlow x (by simp [hx]))
  refine (walk n0 A1 c1 ss1 hn0 hf1 hl1 hc1 W hr1).mono fun e W' ⟨he, hg⟩ => ?_
  subst he
  exact ⟨_, rfl, law_true laid_out (by kernel_rfl) rfl Try.underlying4 (by kernel_rfl) hW' hA rfl rfl rfl hg⟩

theorem over : Rows.hystartEndsRow.holds Try.pinned (OpenSpec.ofChange Rows.hystartEndsSpec) :=
  OpenClaim.holds_of_wide 5 Try.f5 rfl rfl rfl rfl rfl rfl rfl ⟨rfl, rfl, rfl, rfl, rfl⟩ rfl rfl rfl rfl rfl (by kernel_rfl) Try.func5 (by kernel_rfl)
    (of_decide_eq_true (by kernel_rfl)) (by unfold Func.isWrapper; first | (rw [if_pos (by decide +kernel)]; kernel_rfl) | (rw [if_neg (by decide +kernel)]; exact ⟨rfl, rfl⟩))
    (fun os started H enc _ => lifted os started H enc)

/-- The statement. -/
theorem proved : Rows.HystartEndsSaid := over
end Go.Proofs.Ytaiephdacioedaa.hystartEnds
