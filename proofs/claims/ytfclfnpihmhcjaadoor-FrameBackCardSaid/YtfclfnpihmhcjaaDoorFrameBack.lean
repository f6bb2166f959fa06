/-
  FrameBack: what a frame is written as, read again, is the frame, whatever stands behind it; and two frames' bytes are the two. Condition: the tables hold what the program's text lays (the card ties them).
-/
import Derived.Test.YtfclfnpihmhcjaaDoorFew
namespace Go.Proofs.YtfclfnpihmhcjaaDoor.frameBack
open Go.ChangeShapes Go.WideShapes Go.ChangeAt Go.RowKit Go.Deep
set_option linter.unusedVariables false
set_option maxRecDepth 20000 in
set_option maxHeartbeats 4000000 in
theorem walk (e0 e1 : FV) (A2 : Option Addr) (c2 : Nat) (ms : List Nat) (ho0 : e0.f.Ok) (ho1 : e1.f.Ok) (hx : ∀ x ∈ ms, x < 256) (hl : ms.length ≤ c2) (hm : c2 ≤ maxLen) (w : World)
    (hr0 : Lies w w.heap.size e0.f e0.D e0.dc e0.S e0.sc) (hr1 : Lies w w.heap.size e1.f e1.D e1.dc e1.S e1.sc) (hr2 : RdN .u8 w w.heap.size A2 ms) (hT : Tab w ∧ NTab w) :
    Calls Tryd.prog 6 #[.agg (farr e0.f e0.D e0.dc e0.S e0.sc), .agg (farr e1.f e1.D e1.dc e1.S e1.sc), .slice A2 ms.length c2] w fun e w' => e = .returned (.bool true) ∧ Below w.heap.size w w' := by
  obtain ⟨i0, hi, hz0, hz1, hz2⟩ := info_parts byte_info
  obtain ⟨f, D, dc, S, sc⟩ := e0
  obtain ⟨g, E, ec, T, tc⟩ := e1
  simp only [] at ho0 ho1 hr0 hr1 ⊢
  obtain ⟨n, hn⟩ : ∃ n, n = ms.length := ⟨_, rfl⟩
  rw [← hn] at hl ⊢
  obtain ⟨v1, hv1⟩ : ∃ w1, w1 = w.alloc (.cells (farr f D dc S sc) 27) := ⟨_, rfl⟩
  obtain ⟨v2, hv2⟩ : ∃ w2, w2 = v1.alloc (.cells (farr g E ec T tc) 27) := ⟨_, rfl⟩
  have hb1 : Below w.heap.size w v1 := by rw [hv1]; exact (Below.refl _ _).alloc (Nat.le_refl _) _
  have hb2 : Below v1.heap.size v1 v2 := by rw [hv2]; exact (Below.refl _ _).alloc (Nat.le_refl _) _
  have hb := below_trans' hb1 hb2
  have z1 : v1.heap.size = w.heap.size + 1 := by rw [hv1]; simp
  have a1 : At v2 w.heap.size 0 f D dc S sc := by
    have : At v1 w.heap.size 0 f D dc S sc := by rw [hv1]; exact at_box w f D dc S sc 27
    exact this.below hb2
  have a2 : At v2 (w.heap.size + 1) 0 g E ec T tc := by rw [hv2, ← z1]; exact at_box v1 g E ec T tc 27
  have AT := Lib.hid (And.intro a1 a2)
  have Z := Lib.hid (show w.heap.size + 1 < v2.heap.size by rw [hv2]; simp; omega)
  have BV := Lib.hid hb
  have TV := tabs_below hT hb
  have C := Lib.hid (awake_any v2 TV)
  have HT := Lib.hid TV
  have HN := Lib.hid hn
  have HX := Lib.hid hx
  have HO := Lib.hid (And.intro ho0 ho1)
  have F0 := fun w => few_any ⟨f, D, dc, S, sc⟩ w
  have F1 := fun w => few_any ⟨g, E, ec, T, tc⟩ w
  simp only [farr] at F0 F1 hv1 hv2
  replace F0 := Lib.hid F0
  replace F1 := Lib.hid F1
  have L := Lib.hid (And.intro (hr0.step hb) (And.intro (hr1.step hb) ((hr2.below hb).wide hb.size)))
  have HL := Lib.hid (And.intro hl hm)
  clear hn hx ho0 ho1 hr0 hr1 hr2 hT hl hm hb1 hb2 hb z1 a1 a2 TV
  simp only [farr]
  go_enter Tryd.func6, Tryd.ntmps6
  go_upto_region 1 with fail
  rw [← hv1, ← hv2]
  clear hv1 hv2
  go_wp2_with fail
  refine (C.out).mono ?_
  rintro e w1 ⟨rfl, hb1⟩
  have B1 := Lib.hid hb1
  obtain ⟨k0, k1, k2, k3, k4, k5, k6, k7, k8, k9, -⟩ := at_ten AT.out.1 (by have := Z.out; omega) B1.out
  clear hb1 C
  go_wp2_with fail
  refine (F0.out w1).mono ?_
  rintro e w2 ⟨rfl, hb2⟩
  have B2 := Lib.hid (below_trans' B1.out hb2)
  clear hb2 k0 k1 k2 k3 k4 k5 k6 k7 k8 k9
  cases hf0 : Wig.few f
  · have R := Lib.hid (below_trans' BV.out B2.out)
    clear hf0
    go_wp2_with fail
    go_ret
    exact ⟨rfl, R.out⟩
  have Q0 := Lib.hid (Wig.few_of hf0)
  obtain ⟨m0, m1, m2, m3, m4, m5, m6, m7, m8, m9, -⟩ := at_ten AT.out.2 Z.out B2.out
  clear hf0
  go_wp2_with fail
  refine (F1.out w2).mono ?_
  rintro e w3 ⟨rfl, hb3⟩
  have B3 := Lib.hid (below_trans' B2.out hb3)
  clear hb3 m0 m1 m2 m3 m4 m5 m6 m7 m8 m9
  cases hf1 : Wig.few g
  · have R := Lib.hid (below_trans' BV.out B3.out)
    clear hf1
    go_wp2_with fail
    go_ret
    exact ⟨rfl, R.out⟩
  have Q1 := Lib.hid (Wig.few_of hf1)
  clear hf1
  by_cases hbig : 2000 < n
  · have t1 : decide (((n : Nat) : Int) > 2000) = true := decide_eq_true (by omega)
    have t1' : decide (2000 < n) = true := decide_eq_true hbig
    have t1'' : decide ((2000 : Int) < (n : Int)) = true := decide_eq_true (by omega)
    have R := Lib.hid (below_trans' BV.out B3.out)
    clear hbig
    go_wp2_with fail
    go_ret
    exact ⟨rfl, R.out⟩
  have HB := Lib.hid (show n ≤ 2000 by omega)
  have t1 : decide (((n : Nat) : Int) > 2000) = false := decide_eq_false (by omega)
  have t1' : decide (2000 < n) = false := decide_eq_false hbig
  have t1'' : decide ((2000 : Int) < (n : Int)) = false := decide_eq_false (by omega)
  have L3 := Lib.hid (show Lies w3 w3.heap.size f D dc S sc ∧ Lies w3 w3.heap.size g E ec T tc ∧ RdN .u8 w3 w3.heap.size A2 ms from ⟨L.out.1.step B3.out, L.out.2.1.step B3.out, (L.out.2.2.below B3.out).wide B3.out.size⟩)
  have T3 := Lib.hid (tabs_below HT.out B3.out)
  have C4 := encode_any (.agg (farr f D dc S sc)) f w3 ⟨_, _, _, _, rfl, L3.out.1⟩ HO.out.1 (two_le T3.out) T3.out
  simp only [farr] at C4
  replace C4 := Lib.hid C4
  obtain ⟨k0, k1, k2, k3, k4, k5, k6, k7, k8, k9, -⟩ := at_ten AT.out.1 (by have := Z.out; omega) B3.out
  clear hbig F0 F1
  go_wp2_with fail
  refine (C4.out).mono ?_
  rintro e w4 ⟨x, rfl, ⟨A4, n4, c4, rfl, hn4, hnc4, hm4, hr4, -⟩, hb4⟩
  have X4 := Lib.hid (And.intro hn4 (And.intro hnc4 (And.intro hm4 hr4)))
  have B4 := Lib.hid (below_trans' B3.out hb4)
  have T4 := Lib.hid (tabs_below T3.out hb4)
  have L4 := Lib.hid (show Lies w4 w4.heap.size f D dc S sc ∧ Lies w4 w4.heap.size g E ec T tc ∧ RdN .u8 w4 w4.heap.size A2 ms from ⟨L3.out.1.step hb4, L3.out.2.1.step hb4, (L3.out.2.2.below hb4).wide hb4.size⟩)
  have C5 := encode_any (.agg (farr g E ec T tc)) g w4 ⟨_, _, _, _, rfl, L4.out.2.1⟩ HO.out.2 (two_le T4.out) T4.out
  simp only [farr] at C5
  replace C5 := Lib.hid C5
  obtain ⟨m0, m1, m2, m3, m4, m5, m6, m7, m8, m9, -⟩ := at_ten AT.out.2 Z.out B4.out
  clear hn4 hnc4 hm4 hr4 hb4 C4 L3 T3 k0 k1 k2 k3 k4 k5 k6 k7 k8 k9
  go_wp2_with fail
  refine (C5.out).mono ?_
  rintro e w5 ⟨y, rfl, ⟨A5, n5, c5, rfl, hn5, hnc5, hm5, hr5, -⟩, hb5⟩
  have Y5 := Lib.hid (And.intro hn5 (And.intro hnc5 (And.intro hm5 hr5)))
  have X5 := Lib.hid (show RdN .u8 w5 w5.heap.size A4 (Wig.fenc f) from (X4.out.2.2.2.below hb5).wide hb5.size)
  have B5 := Lib.hid (below_trans' B4.out hb5)
  have T5 := Lib.hid (tabs_below T4.out hb5)
  have L5 := Lib.hid (show Lies w5 w5.heap.size f D dc S sc ∧ Lies w5 w5.heap.size g E ec T tc ∧ RdN .u8 w5 w5.heap.size A2 ms from ⟨L4.out.1.step hb5, L4.out.2.1.step hb5, (L4.out.2.2.below hb5).wide hb5.size⟩)
  have S5 := Lib.hid B5.out.size
  clear hn5 hnc5 hm5 hr5 hb5 C5 L4 T4 m0 m1 m2 m3 m4 m5 m6 m7 m8 m9
  cases hfin : Wig.fine f
  · have hz : n4 = 0 := by rw [X4.out.1]; unfold Wig.fenc; rw [if_neg (by rw [hfin]; simp)]; rfl
    have R := Lib.hid (below_trans' BV.out B5.out)
    rw [ferr_no hfin]
    clear hfin
    subst hz
    go_wp2_with fail
    go_ret
    exact ⟨rfl, R.out⟩
  rw [ferr_ok hfin]
  have FI := Lib.hid hfin
  have N4 := Lib.hid (show n4 ≤ 20000 by rw [X4.out.1]; exact fenc_short hfin)
  clear hfin
  have HM := Lib.hid (show OwnN .u8 5 (w5.alloc (.cells #[] 5)) w5.heap.size (.slice (some ⟨w5.heap.size, 0, none⟩) 0 0) [] from World.ownsRow_lit (size := 1) w5 #[] 0 (Nat.le_refl _) (by decide) rfl)
  have X6 := Lib.hid (X5.out.below ((Below.refl w5.heap.size w5).alloc (Nat.le_refl _) (.cells #[] 5)))
  have HS := Lib.hid (show w5.heap.size ≤ (w5.alloc (.cells #[] 5)).heap.size by simp)
  go_wp2_with (at_builtin; refine wpList_append_bytes rfl _ _ rfl w5.heap.size _ [] (Wig.fenc f) rfl HM.out w5.heap.size A4 c4 n4 X4.out.1.symm rfl X6.out (by have := N4.out; have := X4.out.1; simp; omega) HS.out ?_)
  intro v6 w6 hown6 hg6
  have hb6 : Below w5.heap.size w5 w6 := ((Below.refl _ _).alloc (Nat.le_refl _) _).grown hg6 (by simp) (fun q hq => by simp [Value.ownBlock] at hq; omega)
  try rw [List.nil_append] at hown6
  have O6 := Lib.hid hown6
  have B6 := Lib.hid hb6
  have R6 := Lib.hid ((L5.out.2.2.below hb6).wide hb6.size)
  clear hown6 hg6 hb6 HM X6 HS
  obtain ⟨A6, c6, e6, -⟩ := O6.out.rd
  rw [← X4.out.1] at e6
  subst e6
  go_wp2_with (at_builtin; refine wpList_append_bytes rfl _ _ rfl w5.heap.size _ (Wig.fenc f) ms rfl O6.out w6.heap.size A2 c2 n HN.out.symm rfl R6.out (by have := N4.out; have := X4.out.1; have := HB.out; omega) B6.out.size ?_)
  intro v7 w7 hown7 hg7
  have hb7 : Below w5.heap.size w5 w7 := B6.out.grown hg7 B6.out.size (fun q hq => (O6.out.block q hq).1)
  obtain ⟨A7, c7, e7, l7, m7, r7, -⟩ := hown7.rd
  obtain ⟨n7, hn7⟩ : ∃ n7, n7 = (Wig.fenc f ++ ms).length := ⟨_, rfl⟩
  rw [← hn7] at e7 l7
  subst e7
  have B7 := Lib.hid (below_trans' B5.out hb7)
  have T7 := Lib.hid (tabs_below HT.out B7.out)
  have L7 := Lib.hid (show Lies w7 w7.heap.size f D dc S sc ∧ Lies w7 w7.heap.size g E ec T tc from ⟨L5.out.1.step hb7, L5.out.2.1.step hb7⟩)
  have X7 := Lib.hid (show RdN .u8 w7 w7.heap.size A4 (Wig.fenc f) from (X5.out.below hb7).wide hb7.size)
  have Y7 := Lib.hid (show RdN .u8 w7 w7.heap.size A5 (Wig.fenc g) from (Y5.out.2.2.2.below hb7).wide hb7.size)
  have hle : n7 ≤ 100000 := by have := N4.out; have := X4.out.1; have := HB.out; have := HN.out; rw [hn7, List.length_append]; omega
  have hby : Wig.Bytes (Wig.fenc f ++ ms) := (Wig.fenc_bytes HO.out.1.data).app HX.out
  have C8 := parse_any A7 n7 c7 (Wig.fenc f ++ ms) w7 hby hn7 hle l7 m7 r7 (two_le T7.out) T7.out
  unfold ParseAt at C8
  obtain ⟨p1, p2, p3⟩ := Wig.parse_enc FI.out HO.out.1 ms
  rw [p1, p2, p3, ← X4.out.1] at C8
  simp only [farr] at C8
  replace C8 := Lib.hid C8
  clear hown7 hg7 hb7 l7 m7 r7 hn7 hle hby p1 p2 p3 O6 B6 R6
  go_wp2_with fail
  refine (C8.out).mono ?_
  rintro e w8 ⟨D8, dc8, S8, sc8, rfl, hl8, hb8, -, -⟩
  have B8 := Lib.hid (below_trans' B7.out hb8)
  obtain ⟨w9, hw9⟩ : ∃ w9, w9 = w8.alloc (.cells (farr f D8 dc8 S8 sc8) 27) := ⟨_, rfl⟩
  have hb9 : Below w8.heap.size w8 w9 := by rw [hw9]; exact (Below.refl _ _).alloc (Nat.le_refl _) _
  have a9 : At w9 w8.heap.size 0 f D8 dc8 S8 sc8 := by rw [hw9]; exact at_box w8 f D8 dc8 S8 sc8 27
  have hn9 := below_trans' hb8 hb9
  have B9 := Lib.hid (below_trans' B8.out hb9)
  have T9 := Lib.hid (tabs_below HT.out B9.out)
  have L9 := Lib.hid (show Lies w9 w9.heap.size f D dc S sc ∧ Lies w9 w9.heap.size g E ec T tc from ⟨L7.out.1.step hn9, L7.out.2.step hn9⟩)
  have X9 := Lib.hid (show RdN .u8 w9 w9.heap.size A4 (Wig.fenc f) from (X7.out.below hn9).wide hn9.size)
  have Y9 := Lib.hid (show RdN .u8 w9 w9.heap.size A5 (Wig.fenc g) from (Y7.out.below hn9).wide hn9.size)
  have SM := Lib.hid (same_any f D8 D S8 S dc8 dc sc8 sc w9 (hl8.step hb9) L9.out.1 (by have := Q0.out; omega))
  obtain ⟨k0, k1, k2, k3, k4, k5, k6, k7, k8, k9, -⟩ := at_ten AT.out.1 (by have := Z.out; omega) B9.out
  obtain ⟨j0, j1, j2, j3, j4, j5, j6, j7, j8, j9, -⟩ := at_ten a9 (by rw [hw9]; simp) (Below.refl w9.heap.size w9)
  simp only [farr] at hw9
  clear hl8 hb8 hb9 hn9 a9 C8 B8
  go_upto_region 9 with fail
  rw [← hw9]
  clear hw9
  go_wp2_with fail
  refine (SM.out).mono ?_
  rintro e wa ⟨rfl, hba⟩
  have Ba := Lib.hid (below_trans' B9.out hba)
  have Ta := Lib.hid (tabs_below HT.out Ba.out)
  have La := Lib.hid (show Lies wa wa.heap.size f D dc S sc ∧ Lies wa wa.heap.size g E ec T tc from ⟨L9.out.1.step hba, L9.out.2.step hba⟩)
  have Xa := Lib.hid (show RdN .u8 wa wa.heap.size A4 (Wig.fenc f) from (X9.out.below hba).wide hba.size)
  have Ya := Lib.hid (show RdN .u8 wa wa.heap.size A5 (Wig.fenc g) from (Y9.out.below hba).wide hba.size)
  have tn : ((n4 : Int) != (n4 : Int)) = false := by simp
  clear hba SM k0 k1 k2 k3 k4 k5 k6 k7 k8 k9 j0 j1 j2 j3 j4 j5 j6 j7 j8 j9
  cases hgin : Wig.fine g
  · have R := Lib.hid (below_trans' BV.out Ba.out)
    rw [ferr_no hgin]
    clear hgin
    go_wp2_with fail
    go_ret
    exact ⟨rfl, R.out⟩
  rw [ferr_ok hgin]
  have GI := Lib.hid hgin
  have N5 := Lib.hid (show n5 ≤ 20000 by rw [Y5.out.1]; exact fenc_short hgin)
  have HM := Lib.hid (show OwnN .u8 5 (wa.alloc (.cells #[] 5)) wa.heap.size (.slice (some ⟨wa.heap.size, 0, none⟩) 0 0) [] from World.ownsRow_lit (size := 1) wa #[] 0 (Nat.le_refl _) (by decide) rfl)
  have Xb := Lib.hid (Xa.out.below ((Below.refl wa.heap.size wa).alloc (Nat.le_refl _) (.cells #[] 5)))
  have HS := Lib.hid (show wa.heap.size ≤ (wa.alloc (.cells #[] 5)).heap.size by simp)
  clear hgin
  go_wp2_with (at_builtin; refine wpList_append_bytes rfl _ _ rfl wa.heap.size _ [] (Wig.fenc f) rfl HM.out wa.heap.size A4 c4 n4 X4.out.1.symm rfl Xb.out (by have := N4.out; have := X4.out.1; simp; omega) HS.out ?_)
  intro vb wb hownb hgb
  have hbb : Below wa.heap.size wa wb := ((Below.refl _ _).alloc (Nat.le_refl _) _).grown hgb (by simp) (fun q hq => by simp [Value.ownBlock] at hq; omega)
  try rw [List.nil_append] at hownb
  have Ob := Lib.hid hownb
  have Bb := Lib.hid hbb
  have Yb := Lib.hid ((Ya.out.below hbb).wide hbb.size)
  clear hownb hgb hbb HM Xb HS
  obtain ⟨Ab, cb, eb, -⟩ := Ob.out.rd
  rw [← X4.out.1] at eb
  subst eb
  go_wp2_with (at_builtin; refine wpList_append_bytes rfl _ _ rfl wa.heap.size _ (Wig.fenc f) (Wig.fenc g) rfl Ob.out wb.heap.size A5 c5 n5 Y5.out.1.symm rfl Yb.out (by have := N4.out; have := X4.out.1; have := N5.out; omega) Bb.out.size ?_)
  intro vc wc hownc hgc
  have hbc : Below wa.heap.size wa wc := Bb.out.grown hgc Bb.out.size (fun q hq => (Ob.out.block q hq).1)
  obtain ⟨Ac, cc, ec', lc, mc, rc, -⟩ := hownc.rd
  obtain ⟨nc, hnc⟩ : ∃ nc, nc = (Wig.fenc f ++ Wig.fenc g).length := ⟨_, rfl⟩
  rw [← hnc] at ec' lc
  subst ec'
  have Bc := Lib.hid (below_trans' Ba.out hbc)
  have Tc := Lib.hid (tabs_below HT.out Bc.out)
  have Lc := Lib.hid (show Lies wc wc.heap.size f D dc S sc ∧ Lies wc wc.heap.size g E ec T tc from ⟨La.out.1.step hbc, La.out.2.step hbc⟩)
  have hle : nc ≤ 100000 := by have := N4.out; have := X4.out.1; have := N5.out; have := Y5.out.1; rw [hnc, List.length_append]; omega
  have hby : Wig.Bytes (Wig.fenc f ++ Wig.fenc g) := (Wig.fenc_bytes HO.out.1.data).app (Wig.fenc_bytes HO.out.2.data)
  have Cc := all_any Ac nc cc (Wig.fenc f ++ Wig.fenc g) wc hby hnc hle lc mc rc (two_le Tc.out) Tc.out
  unfold AllAt at Cc
  obtain ⟨p1, p2⟩ := Wig.all_two FI.out HO.out.1 GI.out HO.out.2
  rw [p1, p2] at Cc
  replace Cc := Lib.hid Cc
  clear hownc hgc hbc lc mc rc hnc hle hby p1 p2 Ob Bb Yb
  go_wp2_with fail
  refine (Cc.out).mono ?_
  rintro e wd ⟨vd, es, rfl, hof, hes, hla, hbd⟩
  have hel : es.length = 2 := by
    have := congrArg List.length hes
    rw [List.length_map] at this
    exact this
  obtain ⟨Ad, cd, rfl, hrd, _, _⟩ := hof.rd
  have Bd := Lib.hid (below_trans' Bc.out hbd)
  obtain ⟨we, hwe⟩ : ∃ we, we = wd.alloc (.cells #[.int .i64 f.kind, .int .u64 (f.id : Int), .int .u64 (f.off : Int), .int .u64 (f.max : Int), .int .u64 (f.code : Int), .int .u64 (f.delay : Int), .int .u64 (f.ce : Int), .bool f.fin, .slice D f.data.length dc, .slice S f.spans.length sc, .int .i64 g.kind, .int .u64 (g.id : Int), .int .u64 (g.off : Int), .int .u64 (g.max : Int), .int .u64 (g.code : Int), .int .u64 (g.delay : Int), .int .u64 (g.ce : Int), .bool g.fin, .slice E g.data.length ec, .slice T g.spans.length tc] 27) := ⟨_, rfl⟩
  have hbe : Below wd.heap.size wd we := by rw [hwe]; exact (Below.refl _ _).alloc (Nat.le_refl _) _
  have rfe : RdF we we.heap.size (some ⟨wd.heap.size, 0, none⟩) [⟨f, D, dc, S, sc⟩, ⟨g, E, ec, T, tc⟩] := by
    intro _
    refine ⟨wd.heap.size, 0, rfl, by rw [hwe]; simp, fun j e he => ?_⟩
    match j, he with
    | 0, he =>
      cases he
      constructor <;> (rw [hwe, World.cell?_alloc_at _ _ _ _ rfl]; rfl)
    | 1, he =>
      cases he
      constructor <;> (rw [hwe, World.cell?_alloc_at _ _ _ _ rfl]; rfl)
    | j + 2, he => cases he
  have hnd := below_trans' hbd hbe
  have lae : LiesAll we we.heap.size [⟨f, D, dc, S, sc⟩, ⟨g, E, ec, T, tc⟩] := by
    intro e he
    simp at he
    rcases he with rfl | rfl
    · exact Lc.out.1.step hnd
    · exact Lc.out.2.step hnd
  have hq : ∀ e ∈ es, e.f.spans.length ≤ 100000 := by
    intro e he
    have : e.f ∈ es.map FV.f := List.mem_map.2 ⟨e, he, rfl⟩
    rw [hes] at this
    simp at this
    have q0 := Q0.out
    have q1 := Q1.out
    rcases this with h | h <;> rw [h] <;> omega
  have SA := Lib.hid (sameAll_any Ad (some ⟨wd.heap.size, 0, none⟩) 2 cd 2 es [⟨f, D, dc, S, sc⟩, ⟨g, E, ec, T, tc⟩] we hel.symm rfl (by omega) ((hrd.below hbe).wide hbe.size) rfe (hla.step hbe) lae (by rw [hes]; rfl) hq)
  have Be := Lib.hid (below_trans' Bd.out hbe)
  obtain ⟨k0, k1, k2, k3, k4, k5, k6, k7, k8, k9, -⟩ := at_ten AT.out.1 (by have := Z.out; omega) Bd.out
  obtain ⟨m0, m1, m2, m3, m4, m5, m6, m7, m8, m9, -⟩ := at_ten AT.out.2 Z.out Bd.out
  rw [hel]
  clear hof hes hla hbd hel hrd hbe rfe hnd lae hq Cc
  go_wp2_with fail
  rw [← hwe]
  clear hwe
  refine (SA.out).mono ?_
  rintro e wf ⟨rfl, hbf⟩
  have R := Lib.hid (below_trans' BV.out (below_trans' Be.out hbf))
  clear hbf SA k0 k1 k2 k3 k4 k5 k6 k7 k8 k9 m0 m1 m2 m3 m4 m5 m6 m7 m8 m9
  go_wp2_with fail
  go_ret
  exact ⟨rfl, R.out⟩

set_option maxRecDepth 100000 in
theorem lifted (os : Os) (started : os.Started) (H : Type) (enc : TypeId × Value → H) :
    ReturnsInHanded {} Tryd.checked os 6 .any (fun w args => (Rows.frameBackSpec.pre enc Tryd.prog Tryd.f6 [] false w args ∧ laidMetH Tryd.prog laidList w) ∧ sizedMet enc Tryd.prog Tryd.f6 (OpenSpec.ofChange Rows.frameBackSpec) false w args)
      (Rows.frameBackSpec.post enc Tryd.prog Tryd.f6 false true false false) := by
  refine returnsInHanded_of_change_and (C := Tryd.checked) (X := fun w _ => laidMetH Tryd.prog laidList w) (fun _ _ _ hh h => h.of_heap hh) own started (by kernel_rfl) Tryd.func6
    (ChangeSpec.witness_shaped (enc := enc) (C := Tryd.checked) (os := os) (X := fun w _ => laidMetH Tryd.prog laidList w) false (World.doorLaid Tryd.prog 400 os) #[.agg #[.int .i64 0, .int .u64 0, .int .u64 0, .int .u64 0, .int .u64 0, .int .u64 0, .int .u64 0, .bool false, .slice none 0 0, .slice none 0 0], .agg #[.int .i64 0, .int .u64 0, .int .u64 0, .int .u64 0, .int .u64 0, .int .u64 0, .int .u64 0, .bool false, .slice none 0 0, .slice none 0 0], .slice none 0 0] 8 rfl (World.shaped_of_RefB (by kernel_rfl) (by kernel_rfl)) (by kernel_rfl) (by kernel_rfl) (by kernel_rfl) (door_met os _)) ?_
  intro W base args ds gs before hval0 hW _ _ hL _
  have hval : ∀ (j : Nat) t v, Tryd.f6.params[j]? = some t → args[j]? = some v → Value.okWide Tryd.prog W .any base t v := hval0
  have hW' := hW
  obtain ⟨p, q, hA0, hV, rfl, hfz, hnd⟩ := hW
  have hA : DataW.TrodAll enc Tryd.prog W 0 (fun _ => true) true Tryd.f6.params.toList args.toList ds p := hA0
  obtain ⟨rfl, rfl⟩ := trodVars_none hV
  simp only [List.append_nil] at hW'
  have hlow : ∀ x ∈ p, x.block < W.heap.size := fun x hx => hW'.lt x hx
  have hA2 := hA
  rw [Tryd.params6] at hval hA2
  obtain ⟨v0, vs0, d0, ds0, p0, q0, hargs, rfl, rfl, h0, r0⟩ := trodAll_cons hA2
  obtain ⟨v1, vs1, d1, ds1, p1, q1, rfl, rfl, rfl, h1, r1⟩ := trodAll_cons r0
  obtain ⟨v2, vs2, d2, ds2, p2, q2, rfl, rfl, rfl, h2, r2⟩ := trodAll_cons r1
  obtain ⟨rfl, rfl, rfl⟩ := trodAll_nil r2
  obtain rfl : args = #[v0, v1, v2] := by cases args; simp_all
  obtain ⟨e0, rfl, ho0, hr0⟩ := open_frame (hval 0 27 v0 rfl rfl) h0 (fun x hx => hlow x (by simp [hx]))
  obtain ⟨e1, rfl, ho1, hr1⟩ := open_frame (hval 1 27 v1 rfl rfl) h1 (fun x hx => hlow x (by simp [hx]))
  obtain ⟨A2, c2, xs2, rfl, hx2, hr2, hl2, hm2⟩ := open_row 256 Tryd.underlying24 Tryd.underlying5 (by kernel_rfl) (by intro x h; simp [Lit.wf, IntKind.min, IntKind.max, IntKind.signed, IntKind.bits] at h; omega) (hval 2 24 v2 rfl rfl) h2 (fun x hx => hlow x (by simp [hx]))
  refine (walk e0 e1 A2 c2 xs2 ho0 ho1 hx2 hl2 hm2 W hr0 hr1 hr2 (tab_of_laid hL)).mono fun e W' ⟨he, hg⟩ => ?_
  subst he
  exact ⟨_, rfl, law_true laid_out (by kernel_rfl) rfl Tryd.underlying4 (by kernel_rfl) hW' hA rfl rfl rfl hg⟩

theorem over : Rows.frameBackRow.holds Tryd.pinned (OpenSpec.ofChange Rows.frameBackSpec) :=
  OpenClaim.holds_of_wide 6 Tryd.f6 rfl rfl rfl rfl rfl rfl rfl ⟨rfl, rfl, rfl, rfl, rfl⟩ rfl rfl rfl rfl rfl (by kernel_rfl) Tryd.func6 (by kernel_rfl)
    (of_decide_eq_true (by kernel_rfl)) (by unfold Func.isWrapper; first | (rw [if_pos (by decide +kernel)]; kernel_rfl) | (rw [if_neg (by decide +kernel)]; exact ⟨rfl, rfl⟩))
    (fun os started H enc _ => lifted os started H enc)

/-- The statement: the card of it, its table tied to the program. -/
theorem proved : Rows.FrameBackCardSaid :=
  Claim7.holds_tied_plain_at .later [] [.data, .data] true (true, "0af932781d631ec6309ac614fc16388e853ea07b11500c9c71507fb84789da2f") true
    over (fun _ h => by cases h) (by kernel_rfl) (fun _ h => by cases h) frameBack_row_tie rfl ⟨rfl, rfl⟩ (by kernel_rfl) rfl
    (fun f fn hf hfn => by
      obtain rfl : f = 6 := Option.some.inj ((show Tryd.prog.funcNamed "wigwag/wigwaglaw05.FrameBack" = some 6 by kernel_rfl).symm.trans hf) |>.symm
      obtain rfl : fn = Tryd.f6 := (Option.some.inj (Tryd.func6.symm.trans hfn)).symm
      exact ⟨by kernel_rfl, fun j t ht => by
        rw [Tryd.params6] at ht
        have hm : t ∈ [27, 27, 24] := by simpa using Array.mem_of_getElem? ht
        have hall : ([27, 27, 24].all fun u => !Tryd.prog.wantsStandIn u) = true := by kernel_rfl
        exact (show Tryd.prog.wantsStandIn t = false by simpa using List.all_eq_true.1 hall t hm)⟩)
    (by kernel_rfl)
end Go.Proofs.YtfclfnpihmhcjaaDoor.frameBack
