/-
  What package probe's Ack and Loss return. Conditions: the numbers have 64 bits, fewer than four hundred rates.
-/
import Derived.Test.YtjojnbeflongkaaDoorPbE
namespace Go.Proofs.YtjojnbeflongkaaDoor
open Go.ChangeShapes Go.WideShapes Go.ChangeAt Go.RowKit
set_option linter.unusedVariables false

/-- An answer, cut at its steps. -/
theorem pback_eq {s : Int} {ss ss1 : List Wig.Smp} {lo la fu sl ro ph si hi R H l3 a3 : Nat} {g : Wig.Gt} {q : Bool} (hr : Wig.pbround ⟨s, ss, lo, la, fu, sl, ro, ph, si, hi⟩ g = ⟨s, ss, lo, la, fu, sl, R, ph, si, H⟩) (hs : (Wig.pbpush ⟨s, ss, lo, la, fu, sl, R, ph, si, H⟩ g).rates = ss1) (hq : Wig.pbstale ⟨s, ss, lo, la, fu, sl, ro, ph, si, hi⟩ g = q)
    (hl : (if q = true ∨ g.took < lo then g.took else lo) = l3) (ha : (if q = true ∨ g.took < lo then g.now else la) = a3) : Wig.pback ⟨s, ss, lo, la, fu, sl, ro, ph, si, hi⟩ g = Wig.pbmove ⟨s, ss1, l3, a3, fu, sl, R, ph, si, H⟩ g q := by
  have e1 : Wig.pbpush ⟨s, ss, lo, la, fu, sl, R, ph, si, H⟩ g = ⟨s, ss1, lo, la, fu, sl, R, ph, si, H⟩ := by rw [← hs]; unfold Wig.pbpush; split <;> rfl
  unfold Wig.pback
  rw [hr, e1, hq]
  have e2 : Wig.pblow ⟨s, ss1, lo, la, fu, sl, R, ph, si, H⟩ g = ⟨s, ss1, l3, a3, fu, sl, R, ph, si, H⟩ := by
    unfold Wig.pblow
    rw [show Wig.pbstale ⟨s, ss1, lo, la, fu, sl, R, ph, si, H⟩ g = q from hq]
    split
    · rename_i h
      rw [if_pos h] at hl ha
      subst hl ha
      rfl
    · rename_i h
      rw [if_neg h] at hl ha
      subst hl ha
      rfl
  rw [e2]
theorem pback_rates {p : Wig.Pb} {g : Wig.Gt} : (Wig.pback p g).rates = (Wig.pbpush (Wig.pbround p g) g).rates := by
  unfold Wig.pback
  rw [Wig.pbmove_rates, Wig.pblow_rates]

set_option maxHeartbeats 4000000 in
theorem loss_any (s : Int) (A : Option Addr) (n c lo la fu sl ro ph si hi : Nat) (ss : List Wig.Smp) (f : Nat) (s' : Int) (ss' : List Wig.Smp) (lo' la' fu' sl' ro' ph' si' hi' : Nat) (w : World) (hok : Wig.Pb.Ok ⟨s, ss, lo, la, fu, sl, ro, ph, si, hi⟩) (hR : Rt w 0 w.heap.size A n ss) (hf : f < 18446744073709551616) (he : Wig.pbloss ⟨s, ss, lo, la, fu, sl, ro, ph, si, hi⟩ f = ⟨s', ss', lo', la', fu', sl', ro', ph', si', hi'⟩) :
    Calls Tryd.prog 13 #[aggPb s A n c lo la fu sl ro ph si hi, .int .u64 (f : Int)] w fun e w' => ∃ A' c', e = .returned (aggPb s' A' n c' lo' la' fu' sl' ro' ph' si' hi') ∧ Rt w' w.heap.size w'.heap.size A' n ss' ∧ Below w.heap.size w w' := by
  obtain ⟨w1, hw1⟩ : ∃ wx, wx = w.alloc (.cells #[.int .i64 s, .slice A n c, .int .u64 (lo : Int), .int .u64 (la : Int), .int .u64 (fu : Int), .int .u64 (sl : Int), .int .u64 (ro : Int), .int .u64 (ph : Int), .int .u64 (si : Int), .int .u64 (hi : Int)] 26) := ⟨_, rfl⟩
  have z1 : w1.heap.size = w.heap.size + 1 := by rw [hw1]; simp
  obtain ⟨w2, hw2⟩ : ∃ wx, wx = w1.alloc (.cells #[.int .i64 0, .slice none 0 0, .int .u64 0, .int .u64 0, .int .u64 0, .int .u64 0, .int .u64 0, .int .u64 0, .int .u64 0, .int .u64 0] 26) := ⟨_, rfl⟩
  have z2 : w2.heap.size = w.heap.size + 2 := by rw [hw2]; simp; omega
  have t2 : Below w2.heap.size w2 w2 := Below.refl _ _
  have t1 : Below w1.heap.size w1 w2 := (show Below w1.heap.size w1 w2 by rw [hw2]; exact (Below.refl _ _).alloc (Nat.le_refl _) _).trans (t2.mono (by omega))
  have t0 : Below w.heap.size w w2 := (show Below w.heap.size w w1 by rw [hw1]; exact (Below.refl _ _).alloc (Nat.le_refl _) _).trans (t1.mono (by omega))
  have BN := Lib.hid t0
  have ZN := Lib.hid z2
  have XP := Lib.hid (show BxPb w.heap.size s A n c lo la fu sl ro ph si hi w2 from (show BxPb w.heap.size s A n c lo la fu sl ro ph si hi w1 by rw [hw1]; exact BxPb.new _ s A n c lo la fu sl ro ph si hi).below t1 (by omega))
  have XZ := Lib.hid (show BxPb (w.heap.size + 1) 0 none 0 0 0 0 0 0 0 0 0 0 w2 from (show BxPb (w.heap.size + 1) 0 none 0 0 0 0 0 0 0 0 0 0 w2 by rw [hw2, ← z1]; exact BxPb.new _ 0 none 0 0 0 0 0 0 0 0 0 0).below t2 (by omega))
  clear t0 t1 t2 z1 z2
  have B2 := BN
  have XP2 := XP
  have SP2 := Lib.hid (show w.heap.size < w2.heap.size by have := ZN.out; omega)
  have GP := Lib.hid (show w.heap.size ≤ w.heap.size by omega)
  have XZ2 := XZ
  have SZ2 := Lib.hid (show (w.heap.size + 1) < w2.heap.size by have := ZN.out; omega)
  have GZ := Lib.hid (show w.heap.size ≤ (w.heap.size + 1) by omega)
  have OPZ := Lib.hid (show w.heap.size < (w.heap.size + 1) by omega)
  clear ZN BN XP XZ
  obtain ⟨x, hx⟩ : ∃ x, Wig.fmuldiv f 7 10 = x := ⟨_, rfl⟩
  obtain ⟨h, hh⟩ : ∃ h, Wig.nheld x = h := ⟨_, rfl⟩
  obtain ⟨m, hm⟩ : ∃ m, m = min hi h := ⟨_, rfl⟩
  have he : (⟨s, ss, lo, la, fu, sl, ro, ph, si, m⟩ : Wig.Pb) = ⟨s', ss', lo', la', fu', sl', ro', ph', si', hi'⟩ := by
    rw [← he]
    unfold Wig.pbloss Wig.pbhigh
    simp only [hx, hh]
    split
    · rw [show m = h by omega]
    · rw [show m = hi by omega]
  injection he with r1 r2 r3 r4 r5 r6 r7 r8 r9 r10
  subst r1 r2 r3 r4 r5 r6 r7 r8 r9 r10
  have CV := Lib.hid (fun w => (show Calls Tryd.prog 35 #[.int .u64 (f : Int), .int .u64 7, .int .u64 10] w fun e w' => e = .returned (.int .u64 (x : Int)) ∧ Below w.heap.size w w' by rw [← hx]; exact drew_below (muldiv_any f 7 10 w hf (by decide) (by decide))))
  have CH := Lib.hid (fun w => held_any x h w hh)
  have CC := Lib.hid (fun (w0 : World) (hb0 : Below w.heap.size w w0) => (show Calls Tryd.prog 34 #[.slice A n c] w0 fun e w' => ∃ A' c', e = .returned (.slice A' n c') ∧ Rt w' w0.heap.size w'.heap.size A' n ss ∧ Below w0.heap.size w0 w' from clone_any A n c ss w0 (hR.step hb0)))
  have m1 : ∀ ts ty w, (Builtin.min_ ts ty #[.int .u64 (hi : Int), .int .u64 (h : Int)]).run Tryd.prog w = .ok (.int .u64 (m : Int)) w := by
    intro ts ty w
    rw [run_min_int2, show (if (h : Int) < (hi : Int) then (h : Int) else (hi : Int)) = (m : Int) by split <;> omega]
  clear hok hR hf hx hh hm
  go_enter Tryd.func13, Tryd.ntmps13
  go_upto_region 1 with fail
  rw [← hw1, ← hw2]
  clear hw1 hw2
  have k1 := XP2.out.c1
  go_wp2_with fail
  refine (CC.out _ B2.out).mono ?_
  rintro e w3 ⟨A', c', rfl, hr, hb⟩
  have LTP := Lib.hid (show w.heap.size < w2.heap.size from SP2.out)
  have LTZ := Lib.hid (show (w.heap.size + 1) < w2.heap.size from SZ2.out)
  have QT := Lib.hid (show w.heap.size ≤ w2.heap.size from B2.out.size)
  have B3 := Lib.hid (below_trans' B2.out hb)
  have XP3 := Lib.hid (XP2.out.below hb SP2.out)
  have SP3 := Lib.hid (Nat.lt_of_lt_of_le SP2.out hb.size)
  have XZ3 := Lib.hid (XZ2.out.below hb SZ2.out)
  have SZ3 := Lib.hid (Nat.lt_of_lt_of_le SZ2.out hb.size)
  clear k1
  clear hb B2 XP2 SP2 XZ2 SZ2
  have RT3 := Lib.hid hr
  clear hr
  have k1 := XP3.out.c1
  have kf1 := XP3.out.f1
  go_upto_region 2 with fail
  obtain ⟨w4, hw⟩ : ∃ wx, wx = w3.setCell ⟨w.heap.size, 1, none⟩ (.slice A' n c') := ⟨_, rfl⟩
  rw [← hw]
  have XP4 := Lib.hid (show BxPb w.heap.size s A' n c' lo la fu sl ro ph si hi w4 by rw [hw]; exact XP3.out.set1)
  have B4 := Lib.hid (show Below w.heap.size w w4 by rw [hw]; exact Below.setCell B3.out GP.out _)
  have SP4 := Lib.hid (show w.heap.size < w4.heap.size by rw [hw]; have := SP3.out; simpa using this)
  have XZ4 := Lib.hid (show BxPb (w.heap.size + 1) 0 none 0 0 0 0 0 0 0 0 0 0 w4 by rw [hw]; exact XZ3.out.other rfl (Nat.ne_of_lt OPZ.out))
  have SZ4 := Lib.hid (show (w.heap.size + 1) < w4.heap.size by rw [hw]; have := SZ3.out; simpa using this)
  have RT4 := Lib.hid (show Rt w4 w2.heap.size w4.heap.size A' n ss by rw [hw]; exact RT3.out.set LTP.out)
  clear k1 kf1
  clear hw B3 XP3 SP3 XZ3 SZ3 RT3
  have k9 := XP4.out.c9
  refine wp_region_held_drew (S := fun wx => True) (by kernel_rfl) ?_ (fun hHeld => ?_)
  · exact trivial
  refine held_take (v := ?vv101) 0 rfl (by kernel_rfl) (by kernel_rfl) (by kernel_rfl) (fun _ _ _ h => h) (by rfl) ?yy101 (by assumption) ?nn101
  case yy101 =>
    intro w hSw
    (try dsimp only at hSw)
    go_simp
    try with_reducible rfl
  try simp only [Act.put, List.setIfInBounds_toArray, List.set_cons_zero, List.set_cons_succ]
  refine held_take (v := ?vv102) 2 rfl (by kernel_rfl) (by kernel_rfl) (by kernel_rfl) (fun _ _ _ h => h) (by rfl) ?yy102 (by assumption) ?nn102
  case yy102 =>
    intro w hSw
    (try dsimp only at hSw)
    go_simp
    try with_reducible rfl
  try simp only [Act.put, List.setIfInBounds_toArray, List.set_cons_zero, List.set_cons_succ]
  refine held_two 1 3 rfl rfl (by kernel_rfl) (by rfl) (by rfl) (fun K hK => ?_) (fun K hK => ?_)
  · go_wp2_with fail
    refine hK.out _ _ ?_ (fun hHeld => ?_)
    · exact trivial
    clear hK K
    try simp only [Act.put, List.setIfInBounds_toArray, List.set_cons_zero, List.set_cons_succ]
    refine held_do 3 rfl (by kernel_rfl) (by rfl) (fun K hK => ?_)
    go_wp2_with (go_at_call 35; refine (CV.out _).mono ?_; rintro e w5 ⟨rfl, hb5⟩; have HB := Lib.hid hb5; clear hb5)
    refine hK.out _ _ ?_ (fun hHeld => ?_)
    · exact trivial
    clear hK K
    try simp only [Act.put, List.setIfInBounds_toArray, List.set_cons_zero, List.set_cons_succ]
    have B5 := Lib.hid (below_trans' B4.out.drew HB.out)
    have XP5 := Lib.hid (XP4.out.drew.below HB.out SP4.out)
    have SP5 := Lib.hid (Nat.lt_of_lt_of_le SP4.out HB.out.size)
    have XZ5 := Lib.hid (XZ4.out.drew.below HB.out SZ4.out)
    have SZ5 := Lib.hid (Nat.lt_of_lt_of_le SZ4.out HB.out.size)
    have RT5 := Lib.hid (RT4.out.drew.step HB.out)
    clear k9
    clear HB B4 XP4 SP4 XZ4 SZ4 RT4
    refine held_do 4 rfl (by kernel_rfl) (by rfl) (fun K hK => ?_)
    go_wp2_with (go_at_call 26; with_reducible refine (CH.out _).mono ?_; rintro e _ ⟨rfl, rfl⟩)
    refine hK.out _ _ ?_ (fun hHeld => ?_)
    · exact trivial
    clear hK K
    try simp only [Act.put, List.setIfInBounds_toArray, List.set_cons_zero, List.set_cons_succ]
    refine held_take (v := ?vv105) 5 rfl (by kernel_rfl) (by kernel_rfl) (by kernel_rfl) (fun _ _ _ h => h) (by rfl) ?yy105 (by assumption) ?nn105
    case yy105 =>
      intro w hSw
      (try dsimp only at hSw)
      go_simp
      try with_reducible rfl
    try simp only [Act.put, List.setIfInBounds_toArray, List.set_cons_zero, List.set_cons_succ]
    refine held_take (v := ?vv106) 6 rfl (by kernel_rfl) (by kernel_rfl) (by kernel_rfl) (fun _ _ _ h => h) (by rfl) ?yy106 (by assumption) ?nn106
    case yy106 =>
      intro w hSw
      (try dsimp only at hSw)
      go_simp
      try with_reducible rfl
    try simp only [Act.put, List.setIfInBounds_toArray, List.set_cons_zero, List.set_cons_succ]
    have k9 := XP5.out.c9
    have kf9 := XP5.out.f9
    refine held_do 7 rfl (by kernel_rfl) (by rfl) (fun K hK => ?_)
    go_wp2_with fail
    refine hK.out _ _ ?_ (fun hHeld => ?_)
    · exact trivial
    clear hK K
    try simp only [Act.put, List.setIfInBounds_toArray, List.set_cons_zero, List.set_cons_succ]
    refine wpAnyH_done (by kernel_rfl) ?_ _
    clear hHeld m1
    obtain ⟨w6, hw⟩ : ∃ wx, wx = w5.setCell ⟨w.heap.size, 9, none⟩ (.int .u64 (m : Int)) := ⟨_, rfl⟩
    rw [← hw]
    have XP6 := Lib.hid (show BxPb w.heap.size s A' n c' lo la fu sl ro ph si m w6 by rw [hw]; exact XP5.out.set9)
    have B6 := Lib.hid (show Below w.heap.size w w6 by rw [hw]; exact Below.setCell B5.out GP.out _)
    have SP6 := Lib.hid (show w.heap.size < w6.heap.size by rw [hw]; have := SP5.out; simpa using this)
    have XZ6 := Lib.hid (show BxPb (w.heap.size + 1) 0 none 0 0 0 0 0 0 0 0 0 0 w6 by rw [hw]; exact XZ5.out.other rfl (Nat.ne_of_lt OPZ.out))
    have SZ6 := Lib.hid (show (w.heap.size + 1) < w6.heap.size by rw [hw]; have := SZ5.out; simpa using this)
    have RT6 := Lib.hid (show Rt w6 w2.heap.size w6.heap.size A' n ss by rw [hw]; exact RT5.out.set LTP.out)
    clear k9 kf9
    clear hw B5 XP5 SP5 XZ5 SZ5 RT5
    obtain ⟨k0, k1, k2, k3, k4, k5, k6, k7, k8, k9, -, -, -, -, -, -, -, -, -, -⟩ := XP6.out
    obtain ⟨z0, z1, z2, z3, z4, z5, z6, z7, z8, z9, zf0, zf1, zf2, zf3, zf4, zf5, zf6, zf7, zf8, zf9⟩ := XZ6.out
    go_wp2_with fail
    show bodyPost _ _ _ _ _ (putPb (w.heap.size + 1) s A' n c' lo la fu sl ro ph si m w6)
    have BZ : Below w.heap.size w (putPb (w.heap.size + 1) s A' n c' lo la fu sl ro ph si m w6) := B6.out.trans (putPb_below GZ.out)
    obtain ⟨z0, z1, z2, z3, z4, z5, z6, z7, z8, z9, -, -, -, -, -, -, -, -, -, -⟩ := (show BxPb (w.heap.size + 1) s A' n c' lo la fu sl ro ph si m (putPb (w.heap.size + 1) s A' n c' lo la fu sl ro ph si m w6) from XZ6.out.put)
    exact bodyPost_ret (v := aggPb s A' n c' lo la fu sl ro ph si m) (by simp [results, Tryd.results13, z0, z1, z2, z3, z4, z5, z6, z7, z8, z9, go_sem]) rfl ⟨A', c', rfl, (RT6.out.put LTZ.out _ _ _ _ _ _ _ _ _ _ _ _ ).wide QT.out (Nat.le_refl _), BZ⟩
  · go_wp2_with (go_at_call 35; refine (CV.out _).mono ?_; rintro e w5 ⟨rfl, hb5⟩; have HB := Lib.hid hb5; clear hb5)
    refine hK.out _ _ ?_ (fun hHeld => ?_)
    · exact trivial
    clear hK K
    try simp only [Act.put, List.setIfInBounds_toArray, List.set_cons_zero, List.set_cons_succ]
    have B5 := Lib.hid (below_trans' B4.out.drew HB.out)
    have XP5 := Lib.hid (XP4.out.drew.below HB.out SP4.out)
    have SP5 := Lib.hid (Nat.lt_of_lt_of_le SP4.out HB.out.size)
    have XZ5 := Lib.hid (XZ4.out.drew.below HB.out SZ4.out)
    have SZ5 := Lib.hid (Nat.lt_of_lt_of_le SZ4.out HB.out.size)
    have RT5 := Lib.hid (RT4.out.drew.step HB.out)
    clear k9
    clear HB B4 XP4 SP4 XZ4 SZ4 RT4
    have k9 := XP5.out.c9
    refine held_two 1 4 rfl rfl (by kernel_rfl) (by rfl) (by rfl) (fun K hK => ?_) (fun K hK => ?_)
    · go_wp2_with fail
      refine hK.out _ _ ?_ (fun hHeld => ?_)
      · exact trivial
      clear hK K
      try simp only [Act.put, List.setIfInBounds_toArray, List.set_cons_zero, List.set_cons_succ]
      refine held_do 4 rfl (by kernel_rfl) (by rfl) (fun K hK => ?_)
      go_wp2_with (go_at_call 26; with_reducible refine (CH.out _).mono ?_; rintro e _ ⟨rfl, rfl⟩)
      refine hK.out _ _ ?_ (fun hHeld => ?_)
      · exact trivial
      clear hK K
      try simp only [Act.put, List.setIfInBounds_toArray, List.set_cons_zero, List.set_cons_succ]
      refine held_take (v := ?vv110) 5 rfl (by kernel_rfl) (by kernel_rfl) (by kernel_rfl) (fun _ _ _ h => h) (by rfl) ?yy110 (by assumption) ?nn110
      case yy110 =>
        intro w hSw
        (try dsimp only at hSw)
        go_simp
        try with_reducible rfl
      try simp only [Act.put, List.setIfInBounds_toArray, List.set_cons_zero, List.set_cons_succ]
      refine held_take (v := ?vv111) 6 rfl (by kernel_rfl) (by kernel_rfl) (by kernel_rfl) (fun _ _ _ h => h) (by rfl) ?yy111 (by assumption) ?nn111
      case yy111 =>
        intro w hSw
        (try dsimp only at hSw)
        go_simp
        try with_reducible rfl
      try simp only [Act.put, List.setIfInBounds_toArray, List.set_cons_zero, List.set_cons_succ]
      clear k9
      have k9 := XP5.out.c9
      have kf9 := XP5.out.f9
      refine held_do 7 rfl (by kernel_rfl) (by rfl) (fun K hK => ?_)
      go_wp2_with fail
      refine hK.out _ _ ?_ (fun hHeld => ?_)
      · exact trivial
      clear hK K
      try simp only [Act.put, List.setIfInBounds_toArray, List.set_cons_zero, List.set_cons_succ]
      refine wpAnyH_done (by kernel_rfl) ?_ _
      clear hHeld m1
      obtain ⟨w6, hw⟩ : ∃ wx, wx = w5.setCell ⟨w.heap.size, 9, none⟩ (.int .u64 (m : Int)) := ⟨_, rfl⟩
      rw [← hw]
      have XP6 := Lib.hid (show BxPb w.heap.size s A' n c' lo la fu sl ro ph si m w6 by rw [hw]; exact XP5.out.set9)
      have B6 := Lib.hid (show Below w.heap.size w w6 by rw [hw]; exact Below.setCell B5.out GP.out _)
      have SP6 := Lib.hid (show w.heap.size < w6.heap.size by rw [hw]; have := SP5.out; simpa using this)
      have XZ6 := Lib.hid (show BxPb (w.heap.size + 1) 0 none 0 0 0 0 0 0 0 0 0 0 w6 by rw [hw]; exact XZ5.out.other rfl (Nat.ne_of_lt OPZ.out))
      have SZ6 := Lib.hid (show (w.heap.size + 1) < w6.heap.size by rw [hw]; have := SZ5.out; simpa using this)
      have RT6 := Lib.hid (show Rt w6 w2.heap.size w6.heap.size A' n ss by rw [hw]; exact RT5.out.set LTP.out)
      clear k9 kf9
      clear hw B5 XP5 SP5 XZ5 SZ5 RT5
      obtain ⟨k0, k1, k2, k3, k4, k5, k6, k7, k8, k9, -, -, -, -, -, -, -, -, -, -⟩ := XP6.out
      obtain ⟨z0, z1, z2, z3, z4, z5, z6, z7, z8, z9, zf0, zf1, zf2, zf3, zf4, zf5, zf6, zf7, zf8, zf9⟩ := XZ6.out
      go_wp2_with fail
      show bodyPost _ _ _ _ _ (putPb (w.heap.size + 1) s A' n c' lo la fu sl ro ph si m w6)
      have BZ : Below w.heap.size w (putPb (w.heap.size + 1) s A' n c' lo la fu sl ro ph si m w6) := B6.out.trans (putPb_below GZ.out)
      obtain ⟨z0, z1, z2, z3, z4, z5, z6, z7, z8, z9, -, -, -, -, -, -, -, -, -, -⟩ := (show BxPb (w.heap.size + 1) s A' n c' lo la fu sl ro ph si m (putPb (w.heap.size + 1) s A' n c' lo la fu sl ro ph si m w6) from XZ6.out.put)
      exact bodyPost_ret (v := aggPb s A' n c' lo la fu sl ro ph si m) (by simp [results, Tryd.results13, z0, z1, z2, z3, z4, z5, z6, z7, z8, z9, go_sem]) rfl ⟨A', c', rfl, (RT6.out.put LTZ.out _ _ _ _ _ _ _ _ _ _ _ _ ).wide QT.out (Nat.le_refl _), BZ⟩
    · go_wp2_with (go_at_call 26; with_reducible refine (CH.out _).mono ?_; rintro e _ ⟨rfl, rfl⟩)
      refine hK.out _ _ ?_ (fun hHeld => ?_)
      · exact trivial
      clear hK K
      try simp only [Act.put, List.setIfInBounds_toArray, List.set_cons_zero, List.set_cons_succ]
      refine held_do 1 rfl (by kernel_rfl) (by rfl) (fun K hK => ?_)
      go_wp2_with fail
      refine hK.out _ _ ?_ (fun hHeld => ?_)
      · exact trivial
      clear hK K
      try simp only [Act.put, List.setIfInBounds_toArray, List.set_cons_zero, List.set_cons_succ]
      refine held_take (v := ?vv115) 5 rfl (by kernel_rfl) (by kernel_rfl) (by kernel_rfl) (fun _ _ _ h => h) (by rfl) ?yy115 (by assumption) ?nn115
      case yy115 =>
        intro w hSw
        (try dsimp only at hSw)
        go_simp
        try with_reducible rfl
      try simp only [Act.put, List.setIfInBounds_toArray, List.set_cons_zero, List.set_cons_succ]
      refine held_take (v := ?vv116) 6 rfl (by kernel_rfl) (by kernel_rfl) (by kernel_rfl) (fun _ _ _ h => h) (by rfl) ?yy116 (by assumption) ?nn116
      case yy116 =>
        intro w hSw
        (try dsimp only at hSw)
        go_simp
        try with_reducible rfl
      try simp only [Act.put, List.setIfInBounds_toArray, List.set_cons_zero, List.set_cons_succ]
      clear k9
      have k9 := XP5.out.c9
      have kf9 := XP5.out.f9
      refine held_do 7 rfl (by kernel_rfl) (by rfl) (fun K hK => ?_)
      go_wp2_with fail
      refine hK.out _ _ ?_ (fun hHeld => ?_)
      · exact trivial
      clear hK K
      try simp only [Act.put, List.setIfInBounds_toArray, List.set_cons_zero, List.set_cons_succ]
      refine wpAnyH_done (by kernel_rfl) ?_ _
      clear hHeld m1
      obtain ⟨w6, hw⟩ : ∃ wx, wx = w5.setCell ⟨w.heap.size, 9, none⟩ (.int .u64 (m : Int)) := ⟨_, rfl⟩
      rw [← hw]
      have XP6 := Lib.hid (show BxPb w.heap.size s A' n c' lo la fu sl ro ph si m w6 by rw [hw]; exact XP5.out.set9)
      have B6 := Lib.hid (show Below w.heap.size w w6 by rw [hw]; exact Below.setCell B5.out GP.out _)
      have SP6 := Lib.hid (show w.heap.size < w6.heap.size by rw [hw]; have := SP5.out; simpa using this)
      have XZ6 := Lib.hid (show BxPb (w.heap.size + 1) 0 none 0 0 0 0 0 0 0 0 0 0 w6 by rw [hw]; exact XZ5.out.other rfl (Nat.ne_of_lt OPZ.out))
      have SZ6 := Lib.hid (show (w.heap.size + 1) < w6.heap.size by rw [hw]; have := SZ5.out; simpa using this)
      have RT6 := Lib.hid (show Rt w6 w2.heap.size w6.heap.size A' n ss by rw [hw]; exact RT5.out.set LTP.out)
      clear k9 kf9
      clear hw B5 XP5 SP5 XZ5 SZ5 RT5
      obtain ⟨k0, k1, k2, k3, k4, k5, k6, k7, k8, k9, -, -, -, -, -, -, -, -, -, -⟩ := XP6.out
      obtain ⟨z0, z1, z2, z3, z4, z5, z6, z7, z8, z9, zf0, zf1, zf2, zf3, zf4, zf5, zf6, zf7, zf8, zf9⟩ := XZ6.out
      go_wp2_with fail
      show bodyPost _ _ _ _ _ (putPb (w.heap.size + 1) s A' n c' lo la fu sl ro ph si m w6)
      have BZ : Below w.heap.size w (putPb (w.heap.size + 1) s A' n c' lo la fu sl ro ph si m w6) := B6.out.trans (putPb_below GZ.out)
      obtain ⟨z0, z1, z2, z3, z4, z5, z6, z7, z8, z9, -, -, -, -, -, -, -, -, -, -⟩ := (show BxPb (w.heap.size + 1) s A' n c' lo la fu sl ro ph si m (putPb (w.heap.size + 1) s A' n c' lo la fu sl ro ph si m w6) from XZ6.out.put)
      exact bodyPost_ret (v := aggPb s A' n c' lo la fu sl ro ph si m) (by simp [results, Tryd.results13, z0, z1, z2, z3, z4, z5, z6, z7, z8, z9, go_sem]) rfl ⟨A', c', rfl, (RT6.out.put LTZ.out _ _ _ _ _ _ _ _ _ _ _ _ ).wide QT.out (Nat.le_refl _), BZ⟩
set_option maxHeartbeats 8000000 in
theorem ack_any (s : Int) (A : Option Addr) (n c lo la fu sl ro ph si hi : Nat) (ss : List Wig.Smp) (g0 g1 g2 g3 g4 g5 g6 g7 : Nat) (gl gr : Bool) (s' : Int) (ss' : List Wig.Smp) (lo' la' fu' sl' ro' ph' si' hi' : Nat) (n' : Nat) (w : World) (hok : Wig.Pb.Ok ⟨s, ss, lo, la, fu, sl, ro, ph, si, hi⟩) (hR : Rt w 0 w.heap.size A n ss) (hg : Wig.Gt.Ok ⟨g0, g1, g2, g3, g4, g5, g6, g7, gl, gr⟩) (hn2 : n < 400) (he : Wig.pback ⟨s, ss, lo, la, fu, sl, ro, ph, si, hi⟩ ⟨g0, g1, g2, g3, g4, g5, g6, g7, gl, gr⟩ = ⟨s', ss', lo', la', fu', sl', ro', ph', si', hi'⟩) (hn' : ss'.length = n') :
    Calls Tryd.prog 11 #[aggPb s A n c lo la fu sl ro ph si hi, aggGt g0 g1 g2 g3 g4 g5 g6 g7 gl gr] w fun e w' => ∃ A' c', e = .returned (aggPb s' A' n' c' lo' la' fu' sl' ro' ph' si' hi') ∧ Rt w' w.heap.size w'.heap.size A' n' ss' ∧ Below w.heap.size w w' := by
  cases gr
  · obtain ⟨w1, hw1⟩ : ∃ wx, wx = w.alloc (.cells #[.int .i64 s, .slice A n c, .int .u64 (lo : Int), .int .u64 (la : Int), .int .u64 (fu : Int), .int .u64 (sl : Int), .int .u64 (ro : Int), .int .u64 (ph : Int), .int .u64 (si : Int), .int .u64 (hi : Int)] 26) := ⟨_, rfl⟩
    have z1 : w1.heap.size = w.heap.size + 1 := by rw [hw1]; simp
    obtain ⟨w2, hw2⟩ : ∃ wx, wx = w1.alloc (.cells #[.int .u64 (g0 : Int), .int .u64 (g1 : Int), .int .u64 (g2 : Int), .int .u64 (g3 : Int), .int .u64 (g4 : Int), .int .u64 (g5 : Int), .int .u64 (g6 : Int), .int .u64 (g7 : Int), .bool gl, .bool false] 28) := ⟨_, rfl⟩
    have z2 : w2.heap.size = w.heap.size + 2 := by rw [hw2]; simp; omega
    obtain ⟨w3, hw3⟩ : ∃ wx, wx = w2.alloc (.cells #[.int .i64 0, .slice none 0 0, .int .u64 0, .int .u64 0, .int .u64 0, .int .u64 0, .int .u64 0, .int .u64 0, .int .u64 0, .int .u64 0] 26) := ⟨_, rfl⟩
    have z3 : w3.heap.size = w.heap.size + 3 := by rw [hw3]; simp; omega
    have t3 : Below w3.heap.size w3 w3 := Below.refl _ _
    have t2 : Below w2.heap.size w2 w3 := (show Below w2.heap.size w2 w3 by rw [hw3]; exact (Below.refl _ _).alloc (Nat.le_refl _) _).trans (t3.mono (by omega))
    have t1 : Below w1.heap.size w1 w3 := (show Below w1.heap.size w1 w2 by rw [hw2]; exact (Below.refl _ _).alloc (Nat.le_refl _) _).trans (t2.mono (by omega))
    have t0 : Below w.heap.size w w3 := (show Below w.heap.size w w1 by rw [hw1]; exact (Below.refl _ _).alloc (Nat.le_refl _) _).trans (t1.mono (by omega))
    have BN := Lib.hid t0
    have ZN := Lib.hid z3
    have XP := Lib.hid (show BxPb w.heap.size s A n c lo la fu sl ro ph si hi w3 from (show BxPb w.heap.size s A n c lo la fu sl ro ph si hi w1 by rw [hw1]; exact BxPb.new _ s A n c lo la fu sl ro ph si hi).below t1 (by omega))
    have XG := Lib.hid (show BxGt (w.heap.size + 1) g0 g1 g2 g3 g4 g5 g6 g7 gl false w3 from (show BxGt (w.heap.size + 1) g0 g1 g2 g3 g4 g5 g6 g7 gl false w2 by rw [hw2, ← z1]; exact BxGt.new _ g0 g1 g2 g3 g4 g5 g6 g7 gl false).below t2 (by omega))
    have XZ := Lib.hid (show BxPb (w.heap.size + 2) 0 none 0 0 0 0 0 0 0 0 0 0 w3 from (show BxPb (w.heap.size + 2) 0 none 0 0 0 0 0 0 0 0 0 0 w3 by rw [hw3, ← z2]; exact BxPb.new _ 0 none 0 0 0 0 0 0 0 0 0 0).below t3 (by omega))
    clear t0 t1 t2 t3 z1 z2 z3
    have B3 := BN
    have XP3 := XP
    have SP3 := Lib.hid (show w.heap.size < w3.heap.size by have := ZN.out; omega)
    have GP := Lib.hid (show w.heap.size ≤ w.heap.size by omega)
    have XG3 := XG
    have SG3 := Lib.hid (show (w.heap.size + 1) < w3.heap.size by have := ZN.out; omega)
    have GG := Lib.hid (show w.heap.size ≤ (w.heap.size + 1) by omega)
    have OPG := Lib.hid (show w.heap.size < (w.heap.size + 1) by omega)
    have XZ3 := XZ
    have SZ3 := Lib.hid (show (w.heap.size + 2) < w3.heap.size by have := ZN.out; omega)
    have GZ := Lib.hid (show w.heap.size ≤ (w.heap.size + 2) by omega)
    have OPZ := Lib.hid (show w.heap.size < (w.heap.size + 2) by omega)
    have OGZ := Lib.hid (show (w.heap.size + 1) < (w.heap.size + 2) by omega)
    clear ZN BN XP XG XZ
    have hro : ro < 18446744073709551616 := hok.rounds
    have hhi : hi < 18446744073709551616 := hok.high
    have hla : la < 18446744073709551616 := hok.lowAt
    have hr : Wig.pbround ⟨s, ss, lo, la, fu, sl, ro, ph, si, hi⟩ ⟨g0, g1, g2, g3, g4, g5, g6, g7, gl, false⟩ = ⟨s, ss, lo, la, fu, sl, ro, ph, si, hi⟩ := rfl
    have ok1 : Wig.Pb.Ok ⟨s, ss, lo, la, fu, sl, ro, ph, si, hi⟩ := by rw [← hr]; exact Wig.pbround_ok hok
    have hs : (Wig.pbpush ⟨s, ss, lo, la, fu, sl, ro, ph, si, hi⟩ ⟨g0, g1, g2, g3, g4, g5, g6, g7, gl, false⟩).rates = ss' := by rw [← hr, ← pback_rates, he]
    obtain ⟨y, hy⟩ : ∃ y, Wig.fadd la 10000 = y := ⟨_, rfl⟩
    obtain ⟨q, hq⟩ : ∃ q, decide (y ≤ g0) = q := ⟨_, rfl⟩
    have hst : Wig.pbstale ⟨s, ss, lo, la, fu, sl, ro, ph, si, hi⟩ ⟨g0, g1, g2, g3, g4, g5, g6, g7, gl, false⟩ = q := by rw [← hq, ← hy]; rfl
    have CY := Lib.hid (fun w => (show Calls Tryd.prog 25 #[.int .u64 (la : Int), .int .u64 10000] w fun e w' => e = .returned (.int .u64 (y : Int)) ∧ w = w' by rw [← hy]; exact add_any la 10000 w hla (by decide)))
    have ok2 : Wig.Pb.Ok ⟨s, ss', lo, la, fu, sl, ro, ph, si, hi⟩ := by
      have h0 := Wig.pbpush_ok (g := ⟨g0, g1, g2, g3, g4, g5, g6, g7, gl, false⟩) ok1 hg
      have e : Wig.pbpush ⟨s, ss, lo, la, fu, sl, ro, ph, si, hi⟩ ⟨g0, g1, g2, g3, g4, g5, g6, g7, gl, false⟩ = ⟨s, ss', lo, la, fu, sl, ro, ph, si, hi⟩ := by
        rw [← hs]
        unfold Wig.pbpush
        split <;> rfl
      rw [e] at h0
      exact h0
    have CR := Lib.hid (fun (w0 : World) (hb0 : Below w.heap.size w w0) => (show Calls Tryd.prog 27 #[aggPb s A n c lo la fu sl ro ph si hi, aggGt g0 g1 g2 g3 g4 g5 g6 g7 gl false] w0 fun e w' => ∃ A' c', e = .returned (.slice A' n' c') ∧ Rt w' w0.heap.size w'.heap.size A' n' ss' ∧ Below w0.heap.size w0 w' from rates_any s A n c lo la fu sl ro ph si hi ss g0 g1 g2 g3 g4 g5 g6 g7 gl false ss' n' w0 ok1 (hR.step hb0) hg hn2 hs hn'))
    have CM := Lib.hid (fun (l3 a3 : Nat) (q' : Bool) (hq' : q = q') (hl : (if q = true ∨ g5 < lo then g5 else lo) = l3) (ha : (if q = true ∨ g5 < lo then g0 else la) = a3) (A' : Option Addr) (c' : Nat) (w0 : World) (hT : Rt w0 0 w0.heap.size A' n' ss') =>
      (show Calls Tryd.prog 28 #[aggPb s A' n' c' l3 a3 fu sl ro ph si hi, aggGt g0 g1 g2 g3 g4 g5 g6 g7 gl false, .bool q'] w0 fun e w' => e = .returned (aggPb s' A' n' c' lo' la' fu' sl' ro' ph' si' hi') ∧ Below w0.heap.size w0 w' by
        subst hq'
        have ok3 : Wig.Pb.Ok ⟨s, ss', l3, a3, fu, sl, ro, ph, si, hi⟩ := ⟨ok2.s0, ok2.s1, ok2.rates, (by show l3 < _; rw [← hl]; split; exact hg.2.2.2.2.2.1; exact ok2.low), (by show a3 < _; rw [← ha]; split; exact hg.1; exact ok2.lowAt), ok2.full, ok2.still, ok2.rounds, ok2.phase, ok2.since, ok2.high⟩
        exact moved_any s A' n' c' l3 a3 fu sl ro ph si hi ss' g0 g1 g2 g3 g4 g5 g6 g7 gl false q s' ss' lo' la' fu' sl' ro' ph' si' hi' w0 ok3 hT hg (by rw [← he]; exact (pback_eq hr hs hst hl ha).symm)))
    have HQ := Lib.hid hq
    clear hok hR hg hn2 he hn' hro hhi hla hr ok1 hs hy hst ok2
    have t5 := hq
    clear hq
    go_enter Tryd.func11, Tryd.ntmps11
    go_upto_region 1 with fail
    rw [← hw1, ← hw2, ← hw3]
    clear hw1 hw2 hw3
    have j9 := XG3.out.c9
    go_upto_region 4 with fail
    clear j9
    obtain ⟨k0, k1, k2, k3, k4, k5, k6, k7, k8, k9, -, -, -, -, -, -, -, -, -, -⟩ := XP3.out
    obtain ⟨j0, j1, j2, j3, j4, j5, j6, j7, j8, j9, -, -, -, -, -, -, -, -, -, -⟩ := XG3.out
    go_wp2_with fail
    refine (CR.out _ B3.out).mono ?_
    rintro e w4 ⟨A', c', rfl, hr, hb⟩
    have LTP := Lib.hid (show w.heap.size < w3.heap.size from SP3.out)
    have LTG := Lib.hid (show (w.heap.size + 1) < w3.heap.size from SG3.out)
    have LTZ := Lib.hid (show (w.heap.size + 2) < w3.heap.size from SZ3.out)
    have QT := Lib.hid (show w.heap.size ≤ w3.heap.size from B3.out.size)
    have B4 := Lib.hid (below_trans' B3.out hb)
    have XP4 := Lib.hid (XP3.out.below hb SP3.out)
    have SP4 := Lib.hid (Nat.lt_of_lt_of_le SP3.out hb.size)
    have XG4 := Lib.hid (XG3.out.below hb SG3.out)
    have SG4 := Lib.hid (Nat.lt_of_lt_of_le SG3.out hb.size)
    have XZ4 := Lib.hid (XZ3.out.below hb SZ3.out)
    have SZ4 := Lib.hid (Nat.lt_of_lt_of_le SZ3.out hb.size)
    clear k0 k1 k2 k3 k4 k5 k6 k7 k8 k9 j0 j1 j2 j3 j4 j5 j6 j7 j8 j9
    clear hb B3 XP3 SP3 XG3 SG3 XZ3 SZ3
    have RT4 := Lib.hid hr
    clear hr
    have k1 := XP4.out.c1
    have kf1 := XP4.out.f1
    go_upto_region 5 with fail
    obtain ⟨w5, hw⟩ : ∃ wx, wx = w4.setCell ⟨w.heap.size, 1, none⟩ (.slice A' n' c') := ⟨_, rfl⟩
    rw [← hw]
    have XP5 := Lib.hid (show BxPb w.heap.size s A' n' c' lo la fu sl ro ph si hi w5 by rw [hw]; exact XP4.out.set1)
    have B5 := Lib.hid (show Below w.heap.size w w5 by rw [hw]; exact Below.setCell B4.out GP.out _)
    have SP5 := Lib.hid (show w.heap.size < w5.heap.size by rw [hw]; have := SP4.out; simpa using this)
    have XG5 := Lib.hid (show BxGt (w.heap.size + 1) g0 g1 g2 g3 g4 g5 g6 g7 gl false w5 by rw [hw]; exact XG4.out.other rfl (Nat.ne_of_lt OPG.out))
    have SG5 := Lib.hid (show (w.heap.size + 1) < w5.heap.size by rw [hw]; have := SG4.out; simpa using this)
    have XZ5 := Lib.hid (show BxPb (w.heap.size + 2) 0 none 0 0 0 0 0 0 0 0 0 0 w5 by rw [hw]; exact XZ4.out.other rfl (Nat.ne_of_lt OPZ.out))
    have SZ5 := Lib.hid (show (w.heap.size + 2) < w5.heap.size by rw [hw]; have := SZ4.out; simpa using this)
    have RT5 := Lib.hid (show Rt w5 w3.heap.size w5.heap.size A' n' ss' by rw [hw]; exact RT4.out.set LTP.out)
    clear k1 kf1
    clear hw B4 XP4 SP4 XG4 SG4 XZ4 SZ4 RT4
    have k3 := XP5.out.c3
    have j0 := XG5.out.c0
    go_quiet (first | (go_at_call 25; with_reducible exact quiet_eq (CY.out _)) | fail)
    obtain ⟨w6, hw⟩ : ∃ wx, wx = w5.drewN nq := ⟨_, rfl⟩
    rw [← hw]
    have B6 := Lib.hid (show Below w.heap.size w w6 by rw [hw]; exact below_drewN' B5.out nq)
    have XP6 := Lib.hid (show BxPb w.heap.size s A' n' c' lo la fu sl ro ph si hi w6 by rw [hw]; exact XP5.out.drewN nq)
    have SP6 := Lib.hid (show w.heap.size < w6.heap.size by rw [hw]; exact SP5.out)
    have XG6 := Lib.hid (show BxGt (w.heap.size + 1) g0 g1 g2 g3 g4 g5 g6 g7 gl false w6 by rw [hw]; exact XG5.out.drewN nq)
    have SG6 := Lib.hid (show (w.heap.size + 1) < w6.heap.size by rw [hw]; exact SG5.out)
    have XZ6 := Lib.hid (show BxPb (w.heap.size + 2) 0 none 0 0 0 0 0 0 0 0 0 0 w6 by rw [hw]; exact XZ5.out.drewN nq)
    have SZ6 := Lib.hid (show (w.heap.size + 2) < w6.heap.size by rw [hw]; exact SZ5.out)
    have RT6 := Lib.hid (show Rt w6 w3.heap.size w6.heap.size A' n' ss' by rw [hw]; exact RT5.out.drewN nq)
    clear k3 j0
    clear hw B5 XP5 SP5 XG5 SG5 XZ5 SZ5 RT5
    by_cases hq : q = true
    · have HQQ := Lib.hid hq
      have HIF := Lib.hid (show q = true ∨ g5 < lo from .inl hq)
      rw [hq]
      clear hq t5 HQ
      go_upto_region 7 with fail
      have k2 := XP6.out.c2
      have kf2 := XP6.out.f2
      have k3 := XP6.out.c3
      have kf3 := XP6.out.f3
      refine wp_region_held_drew (S := fun wx => BxGt (w.heap.size + 1) g0 g1 g2 g3 g4 g5 g6 g7 gl false wx) (by kernel_rfl) ?_ (fun hHeld => ?_)
      · exact XG6.out.drew
      refine held_take (v := ?vv119) 0 rfl (by kernel_rfl) (by kernel_rfl) (by kernel_rfl) (fun _ _ _ h => h) (by rfl) ?yy119 (by assumption) ?nn119
      case yy119 =>
        intro w hSw
        (try dsimp only at hSw)
        go_simp
        try with_reducible rfl
      try simp only [Act.put, List.setIfInBounds_toArray, List.set_cons_zero, List.set_cons_succ]
      refine held_take (v := .int .u64 (g5 : Int)) 1 rfl (by kernel_rfl) (by kernel_rfl) (by kernel_rfl) (fun _ _ _ h => h) (by rfl) (fun wx hSw => by have c := hSw.c5; clear hSw; go_simp) (by assumption) ?_
      try simp only [Act.put, List.setIfInBounds_toArray, List.set_cons_zero, List.set_cons_succ]
      refine held_take (v := ?vv121) 2 rfl (by kernel_rfl) (by kernel_rfl) (by kernel_rfl) (fun _ _ _ h => h) (by rfl) ?yy121 (by assumption) ?nn121
      case yy121 =>
        intro w hSw
        (try dsimp only at hSw)
        go_simp
        try with_reducible rfl
      try simp only [Act.put, List.setIfInBounds_toArray, List.set_cons_zero, List.set_cons_succ]
      refine held_take (v := .int .u64 (g0 : Int)) 3 rfl (by kernel_rfl) (by kernel_rfl) (by kernel_rfl) (fun _ _ _ h => h) (by rfl) (fun wx hSw => by have c := hSw.c0; clear hSw; go_simp) (by assumption) ?_
      try simp only [Act.put, List.setIfInBounds_toArray, List.set_cons_zero, List.set_cons_succ]
      refine held_take (v := ?vv123) 4 rfl (by kernel_rfl) (by kernel_rfl) (by kernel_rfl) (fun _ _ _ h => h) (by rfl) ?yy123 (by assumption) ?nn123
      case yy123 =>
        intro w hSw
        (try dsimp only at hSw)
        go_simp
        try with_reducible rfl
      try simp only [Act.put, List.setIfInBounds_toArray, List.set_cons_zero, List.set_cons_succ]
      refine held_do 5 rfl (by kernel_rfl) (by rfl) (fun K hK => ?_)
      go_wp2_with fail
      refine hK.out _ _ ?_ (fun hHeld => ?_)
      · exact (XG6.out.drew.other rfl (Nat.ne_of_lt OPG.out))
      clear hK K
      try simp only [Act.put, List.setIfInBounds_toArray, List.set_cons_zero, List.set_cons_succ]
      refine held_take (v := ?vv125) 6 rfl (by kernel_rfl) (by kernel_rfl) (by kernel_rfl) (fun _ _ _ h => h) (by rfl) ?yy125 (by assumption) ?nn125
      case yy125 =>
        intro w hSw
        (try dsimp only at hSw)
        go_simp
        try with_reducible rfl
      try simp only [Act.put, List.setIfInBounds_toArray, List.set_cons_zero, List.set_cons_succ]
      refine held_do 7 rfl (by kernel_rfl) (by rfl) (fun K hK => ?_)
      go_wp2_with fail
      refine hK.out _ _ ?_ (fun hHeld => ?_)
      · exact ((XG6.out.drew.other rfl (Nat.ne_of_lt OPG.out)).other rfl (Nat.ne_of_lt OPG.out))
      clear hK K
      try simp only [Act.put, List.setIfInBounds_toArray, List.set_cons_zero, List.set_cons_succ]
      refine wpAnyH_done (by kernel_rfl) ?_ _
      clear hHeld
      obtain ⟨w7, hw⟩ : ∃ wx, wx = w6.setCell ⟨w.heap.size, 2, none⟩ (.int .u64 (g5 : Int)) := ⟨_, rfl⟩
      rw [← hw]
      have XP7 := Lib.hid (show BxPb w.heap.size s A' n' c' g5 la fu sl ro ph si hi w7 by rw [hw]; exact XP6.out.set2)
      have B7 := Lib.hid (show Below w.heap.size w w7 by rw [hw]; exact Below.setCell B6.out GP.out _)
      have SP7 := Lib.hid (show w.heap.size < w7.heap.size by rw [hw]; have := SP6.out; simpa using this)
      have XG7 := Lib.hid (show BxGt (w.heap.size + 1) g0 g1 g2 g3 g4 g5 g6 g7 gl false w7 by rw [hw]; exact XG6.out.other rfl (Nat.ne_of_lt OPG.out))
      have SG7 := Lib.hid (show (w.heap.size + 1) < w7.heap.size by rw [hw]; have := SG6.out; simpa using this)
      have XZ7 := Lib.hid (show BxPb (w.heap.size + 2) 0 none 0 0 0 0 0 0 0 0 0 0 w7 by rw [hw]; exact XZ6.out.other rfl (Nat.ne_of_lt OPZ.out))
      have SZ7 := Lib.hid (show (w.heap.size + 2) < w7.heap.size by rw [hw]; have := SZ6.out; simpa using this)
      have RT7 := Lib.hid (show Rt w7 w3.heap.size w7.heap.size A' n' ss' by rw [hw]; exact RT6.out.set LTP.out)
      clear k2 kf2 k3 kf3
      clear hw B6 XP6 SP6 XG6 SG6 XZ6 SZ6 RT6
      obtain ⟨w8, hw⟩ : ∃ wx, wx = w7.setCell ⟨w.heap.size, 3, none⟩ (.int .u64 (g0 : Int)) := ⟨_, rfl⟩
      rw [← hw]
      have XP8 := Lib.hid (show BxPb w.heap.size s A' n' c' g5 g0 fu sl ro ph si hi w8 by rw [hw]; exact XP7.out.set3)
      have B8 := Lib.hid (show Below w.heap.size w w8 by rw [hw]; exact Below.setCell B7.out GP.out _)
      have SP8 := Lib.hid (show w.heap.size < w8.heap.size by rw [hw]; have := SP7.out; simpa using this)
      have XG8 := Lib.hid (show BxGt (w.heap.size + 1) g0 g1 g2 g3 g4 g5 g6 g7 gl false w8 by rw [hw]; exact XG7.out.other rfl (Nat.ne_of_lt OPG.out))
      have SG8 := Lib.hid (show (w.heap.size + 1) < w8.heap.size by rw [hw]; have := SG7.out; simpa using this)
      have XZ8 := Lib.hid (show BxPb (w.heap.size + 2) 0 none 0 0 0 0 0 0 0 0 0 0 w8 by rw [hw]; exact XZ7.out.other rfl (Nat.ne_of_lt OPZ.out))
      have SZ8 := Lib.hid (show (w.heap.size + 2) < w8.heap.size by rw [hw]; have := SZ7.out; simpa using this)
      have RT8 := Lib.hid (show Rt w8 w3.heap.size w8.heap.size A' n' ss' by rw [hw]; exact RT7.out.set LTP.out)
      clear hw B7 XP7 SP7 XG7 SG7 XZ7 SZ7 RT7
      obtain ⟨w9, hw⟩ : ∃ wx, wx = w8.drew := ⟨_, rfl⟩
      rw [← hw]
      have B9 := Lib.hid (show Below w.heap.size w w9 by rw [hw]; exact B8.out.drew)
      have XP9 := Lib.hid (show BxPb w.heap.size s A' n' c' g5 g0 fu sl ro ph si hi w9 by rw [hw]; exact XP8.out.drew)
      have SP9 := Lib.hid (show w.heap.size < w9.heap.size by rw [hw]; exact SP8.out)
      have XG9 := Lib.hid (show BxGt (w.heap.size + 1) g0 g1 g2 g3 g4 g5 g6 g7 gl false w9 by rw [hw]; exact XG8.out.drew)
      have SG9 := Lib.hid (show (w.heap.size + 1) < w9.heap.size by rw [hw]; exact SG8.out)
      have XZ9 := Lib.hid (show BxPb (w.heap.size + 2) 0 none 0 0 0 0 0 0 0 0 0 0 w9 by rw [hw]; exact XZ8.out.drew)
      have SZ9 := Lib.hid (show (w.heap.size + 2) < w9.heap.size by rw [hw]; exact SZ8.out)
      have RT9 := Lib.hid (show Rt w9 w3.heap.size w9.heap.size A' n' ss' by rw [hw]; exact RT8.out.drew)
      clear hw B8 XP8 SP8 XG8 SG8 XZ8 SZ8 RT8
      obtain ⟨k0, k1, k2, k3, k4, k5, k6, k7, k8, k9, -, -, -, -, -, -, -, -, -, -⟩ := XP9.out
      obtain ⟨j0, j1, j2, j3, j4, j5, j6, j7, j8, j9, -, -, -, -, -, -, -, -, -, -⟩ := XG9.out
      go_wp2_with fail
      refine (CM.out g5 g0 true HQQ.out (if_pos HIF.out) (if_pos HIF.out) A' c' _ RT9.out.low).mono ?_
      rintro e w10 ⟨rfl, hb⟩
      have B10 := Lib.hid (below_trans' B9.out hb)
      have XP10 := Lib.hid (XP9.out.below hb SP9.out)
      have SP10 := Lib.hid (Nat.lt_of_lt_of_le SP9.out hb.size)
      have XG10 := Lib.hid (XG9.out.below hb SG9.out)
      have SG10 := Lib.hid (Nat.lt_of_lt_of_le SG9.out hb.size)
      have XZ10 := Lib.hid (XZ9.out.below hb SZ9.out)
      have SZ10 := Lib.hid (Nat.lt_of_lt_of_le SZ9.out hb.size)
      have RT10 := Lib.hid (RT9.out.step hb)
      clear k0 k1 k2 k3 k4 k5 k6 k7 k8 k9 j0 j1 j2 j3 j4 j5 j6 j7 j8 j9
      clear hb B9 XP9 SP9 XG9 SG9 XZ9 SZ9 RT9
      obtain ⟨z0, z1, z2, z3, z4, z5, z6, z7, z8, z9, zf0, zf1, zf2, zf3, zf4, zf5, zf6, zf7, zf8, zf9⟩ := XZ10.out
      go_wp2_with fail
      show bodyPost _ _ _ _ _ (putPb (w.heap.size + 2) s' A' n' c' lo' la' fu' sl' ro' ph' si' hi' w10)
      have BZ : Below w.heap.size w (putPb (w.heap.size + 2) s' A' n' c' lo' la' fu' sl' ro' ph' si' hi' w10) := B10.out.trans (putPb_below GZ.out)
      obtain ⟨z0, z1, z2, z3, z4, z5, z6, z7, z8, z9, -, -, -, -, -, -, -, -, -, -⟩ := (show BxPb (w.heap.size + 2) s' A' n' c' lo' la' fu' sl' ro' ph' si' hi' (putPb (w.heap.size + 2) s' A' n' c' lo' la' fu' sl' ro' ph' si' hi' w10) from XZ10.out.put)
      exact bodyPost_ret (v := aggPb s' A' n' c' lo' la' fu' sl' ro' ph' si' hi') (by simp [results, Tryd.results11, z0, z1, z2, z3, z4, z5, z6, z7, z8, z9, go_sem]) rfl ⟨A', c', rfl, (RT10.out.put LTZ.out _ _ _ _ _ _ _ _ _ _ _ _ ).wide QT.out (Nat.le_refl _), BZ⟩
    · have hq : q = false := by simpa using hq
      have HQQ := Lib.hid hq
      by_cases h6 : g5 < lo
      · have HIF := Lib.hid (show q = true ∨ g5 < lo from .inr h6)
        have t6 : decide (g5 < lo) = true := decide_eq_true h6
        rw [hq]
        clear hq t5 HQ h6
        have j5 := XG6.out.c5
        have k2 := XP6.out.c2
        go_upto_region 7 with fail
        clear j5 k2
        have k2 := XP6.out.c2
        have kf2 := XP6.out.f2
        have k3 := XP6.out.c3
        have kf3 := XP6.out.f3
        refine wp_region_held_drew (S := fun wx => BxGt (w.heap.size + 1) g0 g1 g2 g3 g4 g5 g6 g7 gl false wx) (by kernel_rfl) ?_ (fun hHeld => ?_)
        · exact XG6.out.drew
        refine held_take (v := ?vv128) 0 rfl (by kernel_rfl) (by kernel_rfl) (by kernel_rfl) (fun _ _ _ h => h) (by rfl) ?yy128 (by assumption) ?nn128
        case yy128 =>
          intro w hSw
          (try dsimp only at hSw)
          go_simp
          try with_reducible rfl
        try simp only [Act.put, List.setIfInBounds_toArray, List.set_cons_zero, List.set_cons_succ]
        refine held_take (v := .int .u64 (g5 : Int)) 1 rfl (by kernel_rfl) (by kernel_rfl) (by kernel_rfl) (fun _ _ _ h => h) (by rfl) (fun wx hSw => by have c := hSw.c5; clear hSw; go_simp) (by assumption) ?_
        try simp only [Act.put, List.setIfInBounds_toArray, List.set_cons_zero, List.set_cons_succ]
        refine held_take (v := ?vv130) 2 rfl (by kernel_rfl) (by kernel_rfl) (by kernel_rfl) (fun _ _ _ h => h) (by rfl) ?yy130 (by assumption) ?nn130
        case yy130 =>
          intro w hSw
          (try dsimp only at hSw)
          go_simp
          try with_reducible rfl
        try simp only [Act.put, List.setIfInBounds_toArray, List.set_cons_zero, List.set_cons_succ]
        refine held_take (v := .int .u64 (g0 : Int)) 3 rfl (by kernel_rfl) (by kernel_rfl) (by kernel_rfl) (fun _ _ _ h => h) (by rfl) (fun wx hSw => by have c := hSw.c0; clear hSw; go_simp) (by assumption) ?_
        try simp only [Act.put, List.setIfInBounds_toArray, List.set_cons_zero, List.set_cons_succ]
        refine held_take (v := ?vv132) 4 rfl (by kernel_rfl) (by kernel_rfl) (by kernel_rfl) (fun _ _ _ h => h) (by rfl) ?yy132 (by assumption) ?nn132
        case yy132 =>
          intro w hSw
          (try dsimp only at hSw)
          go_simp
          try with_reducible rfl
        try simp only [Act.put, List.setIfInBounds_toArray, List.set_cons_zero, List.set_cons_succ]
        refine held_do 5 rfl (by kernel_rfl) (by rfl) (fun K hK => ?_)
        go_wp2_with fail
        refine hK.out _ _ ?_ (fun hHeld => ?_)
        · exact (XG6.out.drew.other rfl (Nat.ne_of_lt OPG.out))
        clear hK K
        try simp only [Act.put, List.setIfInBounds_toArray, List.set_cons_zero, List.set_cons_succ]
        refine held_take (v := ?vv134) 6 rfl (by kernel_rfl) (by kernel_rfl) (by kernel_rfl) (fun _ _ _ h => h) (by rfl) ?yy134 (by assumption) ?nn134
        case yy134 =>
          intro w hSw
          (try dsimp only at hSw)
          go_simp
          try with_reducible rfl
        try simp only [Act.put, List.setIfInBounds_toArray, List.set_cons_zero, List.set_cons_succ]
        refine held_do 7 rfl (by kernel_rfl) (by rfl) (fun K hK => ?_)
        go_wp2_with fail
        refine hK.out _ _ ?_ (fun hHeld => ?_)
        · exact ((XG6.out.drew.other rfl (Nat.ne_of_lt OPG.out)).other rfl (Nat.ne_of_lt OPG.out))
        clear hK K
        try simp only [Act.put, List.setIfInBounds_toArray, List.set_cons_zero, List.set_cons_succ]
        refine wpAnyH_done (by kernel_rfl) ?_ _
        clear hHeld
        obtain ⟨w7, hw⟩ : ∃ wx, wx = w6.setCell ⟨w.heap.size, 2, none⟩ (.int .u64 (g5 : Int)) := ⟨_, rfl⟩
        rw [← hw]
        have XP7 := Lib.hid (show BxPb w.heap.size s A' n' c' g5 la fu sl ro ph si hi w7 by rw [hw]; exact XP6.out.set2)
        have B7 := Lib.hid (show Below w.heap.size w w7 by rw [hw]; exact Below.setCell B6.out GP.out _)
        have SP7 := Lib.hid (show w.heap.size < w7.heap.size by rw [hw]; have := SP6.out; simpa using this)
        have XG7 := Lib.hid (show BxGt (w.heap.size + 1) g0 g1 g2 g3 g4 g5 g6 g7 gl false w7 by rw [hw]; exact XG6.out.other rfl (Nat.ne_of_lt OPG.out))
        have SG7 := Lib.hid (show (w.heap.size + 1) < w7.heap.size by rw [hw]; have := SG6.out; simpa using this)
        have XZ7 := Lib.hid (show BxPb (w.heap.size + 2) 0 none 0 0 0 0 0 0 0 0 0 0 w7 by rw [hw]; exact XZ6.out.other rfl (Nat.ne_of_lt OPZ.out))
        have SZ7 := Lib.hid (show (w.heap.size + 2) < w7.heap.size by rw [hw]; have := SZ6.out; simpa using this)
        have RT7 := Lib.hid (show Rt w7 w3.heap.size w7.heap.size A' n' ss' by rw [hw]; exact RT6.out.set LTP.out)
        clear k2 kf2 k3 kf3
        clear hw B6 XP6 SP6 XG6 SG6 XZ6 SZ6 RT6
        obtain ⟨w8, hw⟩ : ∃ wx, wx = w7.setCell ⟨w.heap.size, 3, none⟩ (.int .u64 (g0 : Int)) := ⟨_, rfl⟩
        rw [← hw]
        have XP8 := Lib.hid (show BxPb w.heap.size s A' n' c' g5 g0 fu sl ro ph si hi w8 by rw [hw]; exact XP7.out.set3)
        have B8 := Lib.hid (show Below w.heap.size w w8 by rw [hw]; exact Below.setCell B7.out GP.out _)
        have SP8 := Lib.hid (show w.heap.size < w8.heap.size by rw [hw]; have := SP7.out; simpa using this)
        have XG8 := Lib.hid (show BxGt (w.heap.size + 1) g0 g1 g2 g3 g4 g5 g6 g7 gl false w8 by rw [hw]; exact XG7.out.other rfl (Nat.ne_of_lt OPG.out))
        have SG8 := Lib.hid (show (w.heap.size + 1) < w8.heap.size by rw [hw]; have := SG7.out; simpa using this)
        have XZ8 := Lib.hid (show BxPb (w.heap.size + 2) 0 none 0 0 0 0 0 0 0 0 0 0 w8 by rw [hw]; exact XZ7.out.other rfl (Nat.ne_of_lt OPZ.out))
        have SZ8 := Lib.hid (show (w.heap.size + 2) < w8.heap.size by rw [hw]; have := SZ7.out; simpa using this)
        have RT8 := Lib.hid (show Rt w8 w3.heap.size w8.heap.size A' n' ss' by rw [hw]; exact RT7.out.set LTP.out)
        clear hw B7 XP7 SP7 XG7 SG7 XZ7 SZ7 RT7
        obtain ⟨w9, hw⟩ : ∃ wx, wx = w8.drew := ⟨_, rfl⟩
        rw [← hw]
        have B9 := Lib.hid (show Below w.heap.size w w9 by rw [hw]; exact B8.out.drew)
        have XP9 := Lib.hid (show BxPb w.heap.size s A' n' c' g5 g0 fu sl ro ph si hi w9 by rw [hw]; exact XP8.out.drew)
        have SP9 := Lib.hid (show w.heap.size < w9.heap.size by rw [hw]; exact SP8.out)
        have XG9 := Lib.hid (show BxGt (w.heap.size + 1) g0 g1 g2 g3 g4 g5 g6 g7 gl false w9 by rw [hw]; exact XG8.out.drew)
        have SG9 := Lib.hid (show (w.heap.size + 1) < w9.heap.size by rw [hw]; exact SG8.out)
        have XZ9 := Lib.hid (show BxPb (w.heap.size + 2) 0 none 0 0 0 0 0 0 0 0 0 0 w9 by rw [hw]; exact XZ8.out.drew)
        have SZ9 := Lib.hid (show (w.heap.size + 2) < w9.heap.size by rw [hw]; exact SZ8.out)
        have RT9 := Lib.hid (show Rt w9 w3.heap.size w9.heap.size A' n' ss' by rw [hw]; exact RT8.out.drew)
        clear hw B8 XP8 SP8 XG8 SG8 XZ8 SZ8 RT8
        obtain ⟨k0, k1, k2, k3, k4, k5, k6, k7, k8, k9, -, -, -, -, -, -, -, -, -, -⟩ := XP9.out
        obtain ⟨j0, j1, j2, j3, j4, j5, j6, j7, j8, j9, -, -, -, -, -, -, -, -, -, -⟩ := XG9.out
        go_wp2_with fail
        refine (CM.out g5 g0 false HQQ.out (if_pos HIF.out) (if_pos HIF.out) A' c' _ RT9.out.low).mono ?_
        rintro e w10 ⟨rfl, hb⟩
        have B10 := Lib.hid (below_trans' B9.out hb)
        have XP10 := Lib.hid (XP9.out.below hb SP9.out)
        have SP10 := Lib.hid (Nat.lt_of_lt_of_le SP9.out hb.size)
        have XG10 := Lib.hid (XG9.out.below hb SG9.out)
        have SG10 := Lib.hid (Nat.lt_of_lt_of_le SG9.out hb.size)
        have XZ10 := Lib.hid (XZ9.out.below hb SZ9.out)
        have SZ10 := Lib.hid (Nat.lt_of_lt_of_le SZ9.out hb.size)
        have RT10 := Lib.hid (RT9.out.step hb)
        clear k0 k1 k2 k3 k4 k5 k6 k7 k8 k9 j0 j1 j2 j3 j4 j5 j6 j7 j8 j9
        clear hb B9 XP9 SP9 XG9 SG9 XZ9 SZ9 RT9
        obtain ⟨z0, z1, z2, z3, z4, z5, z6, z7, z8, z9, zf0, zf1, zf2, zf3, zf4, zf5, zf6, zf7, zf8, zf9⟩ := XZ10.out
        go_wp2_with fail
        show bodyPost _ _ _ _ _ (putPb (w.heap.size + 2) s' A' n' c' lo' la' fu' sl' ro' ph' si' hi' w10)
        have BZ : Below w.heap.size w (putPb (w.heap.size + 2) s' A' n' c' lo' la' fu' sl' ro' ph' si' hi' w10) := B10.out.trans (putPb_below GZ.out)
        obtain ⟨z0, z1, z2, z3, z4, z5, z6, z7, z8, z9, -, -, -, -, -, -, -, -, -, -⟩ := (show BxPb (w.heap.size + 2) s' A' n' c' lo' la' fu' sl' ro' ph' si' hi' (putPb (w.heap.size + 2) s' A' n' c' lo' la' fu' sl' ro' ph' si' hi' w10) from XZ10.out.put)
        exact bodyPost_ret (v := aggPb s' A' n' c' lo' la' fu' sl' ro' ph' si' hi') (by simp [results, Tryd.results11, z0, z1, z2, z3, z4, z5, z6, z7, z8, z9, go_sem]) rfl ⟨A', c', rfl, (RT10.out.put LTZ.out _ _ _ _ _ _ _ _ _ _ _ _ ).wide QT.out (Nat.le_refl _), BZ⟩
      · have HIF := Lib.hid (show ¬ (q = true ∨ g5 < lo) by rw [hq]; simp; omega)
        have t6 : decide (g5 < lo) = false := decide_eq_false h6
        rw [hq]
        clear hq t5 HQ h6
        have j5 := XG6.out.c5
        have k2 := XP6.out.c2
        go_upto_region 8 with fail
        clear j5 k2
        obtain ⟨k0, k1, k2, k3, k4, k5, k6, k7, k8, k9, -, -, -, -, -, -, -, -, -, -⟩ := XP6.out
        obtain ⟨j0, j1, j2, j3, j4, j5, j6, j7, j8, j9, -, -, -, -, -, -, -, -, -, -⟩ := XG6.out
        go_wp2_with fail
        refine (CM.out lo la false HQQ.out (if_neg HIF.out) (if_neg HIF.out) A' c' _ RT6.out.low).mono ?_
        rintro e w7 ⟨rfl, hb⟩
        have B7 := Lib.hid (below_trans' B6.out hb)
        have XP7 := Lib.hid (XP6.out.below hb SP6.out)
        have SP7 := Lib.hid (Nat.lt_of_lt_of_le SP6.out hb.size)
        have XG7 := Lib.hid (XG6.out.below hb SG6.out)
        have SG7 := Lib.hid (Nat.lt_of_lt_of_le SG6.out hb.size)
        have XZ7 := Lib.hid (XZ6.out.below hb SZ6.out)
        have SZ7 := Lib.hid (Nat.lt_of_lt_of_le SZ6.out hb.size)
        have RT7 := Lib.hid (RT6.out.step hb)
        clear k0 k1 k2 k3 k4 k5 k6 k7 k8 k9 j0 j1 j2 j3 j4 j5 j6 j7 j8 j9
        clear hb B6 XP6 SP6 XG6 SG6 XZ6 SZ6 RT6
        obtain ⟨z0, z1, z2, z3, z4, z5, z6, z7, z8, z9, zf0, zf1, zf2, zf3, zf4, zf5, zf6, zf7, zf8, zf9⟩ := XZ7.out
        go_wp2_with fail
        show bodyPost _ _ _ _ _ (putPb (w.heap.size + 2) s' A' n' c' lo' la' fu' sl' ro' ph' si' hi' w7)
        have BZ : Below w.heap.size w (putPb (w.heap.size + 2) s' A' n' c' lo' la' fu' sl' ro' ph' si' hi' w7) := B7.out.trans (putPb_below GZ.out)
        obtain ⟨z0, z1, z2, z3, z4, z5, z6, z7, z8, z9, -, -, -, -, -, -, -, -, -, -⟩ := (show BxPb (w.heap.size + 2) s' A' n' c' lo' la' fu' sl' ro' ph' si' hi' (putPb (w.heap.size + 2) s' A' n' c' lo' la' fu' sl' ro' ph' si' hi' w7) from XZ7.out.put)
        exact bodyPost_ret (v := aggPb s' A' n' c' lo' la' fu' sl' ro' ph' si' hi') (by simp [results, Tryd.results11, z0, z1, z2, z3, z4, z5, z6, z7, z8, z9, go_sem]) rfl ⟨A', c', rfl, (RT7.out.put LTZ.out _ _ _ _ _ _ _ _ _ _ _ _ ).wide QT.out (Nat.le_refl _), BZ⟩
  · obtain ⟨w1, hw1⟩ : ∃ wx, wx = w.alloc (.cells #[.int .i64 s, .slice A n c, .int .u64 (lo : Int), .int .u64 (la : Int), .int .u64 (fu : Int), .int .u64 (sl : Int), .int .u64 (ro : Int), .int .u64 (ph : Int), .int .u64 (si : Int), .int .u64 (hi : Int)] 26) := ⟨_, rfl⟩
    have z1 : w1.heap.size = w.heap.size + 1 := by rw [hw1]; simp
    obtain ⟨w2, hw2⟩ : ∃ wx, wx = w1.alloc (.cells #[.int .u64 (g0 : Int), .int .u64 (g1 : Int), .int .u64 (g2 : Int), .int .u64 (g3 : Int), .int .u64 (g4 : Int), .int .u64 (g5 : Int), .int .u64 (g6 : Int), .int .u64 (g7 : Int), .bool gl, .bool true] 28) := ⟨_, rfl⟩
    have z2 : w2.heap.size = w.heap.size + 2 := by rw [hw2]; simp; omega
    obtain ⟨w3, hw3⟩ : ∃ wx, wx = w2.alloc (.cells #[.int .i64 0, .slice none 0 0, .int .u64 0, .int .u64 0, .int .u64 0, .int .u64 0, .int .u64 0, .int .u64 0, .int .u64 0, .int .u64 0] 26) := ⟨_, rfl⟩
    have z3 : w3.heap.size = w.heap.size + 3 := by rw [hw3]; simp; omega
    have t3 : Below w3.heap.size w3 w3 := Below.refl _ _
    have t2 : Below w2.heap.size w2 w3 := (show Below w2.heap.size w2 w3 by rw [hw3]; exact (Below.refl _ _).alloc (Nat.le_refl _) _).trans (t3.mono (by omega))
    have t1 : Below w1.heap.size w1 w3 := (show Below w1.heap.size w1 w2 by rw [hw2]; exact (Below.refl _ _).alloc (Nat.le_refl _) _).trans (t2.mono (by omega))
    have t0 : Below w.heap.size w w3 := (show Below w.heap.size w w1 by rw [hw1]; exact (Below.refl _ _).alloc (Nat.le_refl _) _).trans (t1.mono (by omega))
    have BN := Lib.hid t0
    have ZN := Lib.hid z3
    have XP := Lib.hid (show BxPb w.heap.size s A n c lo la fu sl ro ph si hi w3 from (show BxPb w.heap.size s A n c lo la fu sl ro ph si hi w1 by rw [hw1]; exact BxPb.new _ s A n c lo la fu sl ro ph si hi).below t1 (by omega))
    have XG := Lib.hid (show BxGt (w.heap.size + 1) g0 g1 g2 g3 g4 g5 g6 g7 gl true w3 from (show BxGt (w.heap.size + 1) g0 g1 g2 g3 g4 g5 g6 g7 gl true w2 by rw [hw2, ← z1]; exact BxGt.new _ g0 g1 g2 g3 g4 g5 g6 g7 gl true).below t2 (by omega))
    have XZ := Lib.hid (show BxPb (w.heap.size + 2) 0 none 0 0 0 0 0 0 0 0 0 0 w3 from (show BxPb (w.heap.size + 2) 0 none 0 0 0 0 0 0 0 0 0 0 w3 by rw [hw3, ← z2]; exact BxPb.new _ 0 none 0 0 0 0 0 0 0 0 0 0).below t3 (by omega))
    clear t0 t1 t2 t3 z1 z2 z3
    have B3 := BN
    have XP3 := XP
    have SP3 := Lib.hid (show w.heap.size < w3.heap.size by have := ZN.out; omega)
    have GP := Lib.hid (show w.heap.size ≤ w.heap.size by omega)
    have XG3 := XG
    have SG3 := Lib.hid (show (w.heap.size + 1) < w3.heap.size by have := ZN.out; omega)
    have GG := Lib.hid (show w.heap.size ≤ (w.heap.size + 1) by omega)
    have OPG := Lib.hid (show w.heap.size < (w.heap.size + 1) by omega)
    have XZ3 := XZ
    have SZ3 := Lib.hid (show (w.heap.size + 2) < w3.heap.size by have := ZN.out; omega)
    have GZ := Lib.hid (show w.heap.size ≤ (w.heap.size + 2) by omega)
    have OPZ := Lib.hid (show w.heap.size < (w.heap.size + 2) by omega)
    have OGZ := Lib.hid (show (w.heap.size + 1) < (w.heap.size + 2) by omega)
    clear ZN BN XP XG XZ
    have hro : ro < 18446744073709551616 := hok.rounds
    have hhi : hi < 18446744073709551616 := hok.high
    have hla : la < 18446744073709551616 := hok.lowAt
    obtain ⟨R, hR1⟩ : ∃ R, Wig.fadd ro 1 = R := ⟨_, rfl⟩
    obtain ⟨d, hd⟩ : ∃ d, d = hi / 8 := ⟨_, rfl⟩
    obtain ⟨x, hx⟩ : ∃ x, Wig.fadd hi d = x := ⟨_, rfl⟩
    obtain ⟨H, hH⟩ : ∃ H, Wig.nheld x = H := ⟨_, rfl⟩
    have hr : Wig.pbround ⟨s, ss, lo, la, fu, sl, ro, ph, si, hi⟩ ⟨g0, g1, g2, g3, g4, g5, g6, g7, gl, true⟩ = ⟨s, ss, lo, la, fu, sl, R, ph, si, H⟩ := by rw [← hH, ← hx, hd, ← hR1]; rfl
    have e1 : (hi : Int) / 8 = (d : Int) := by omega
    have e2 : IntKind.u64.wrap (d : Int) = (d : Int) := by rw [IntKind.wrap_u64]; omega
    have CA := Lib.hid (fun w => (show Calls Tryd.prog 25 #[.int .u64 (ro : Int), .int .u64 1] w fun e w' => e = .returned (.int .u64 (R : Int)) ∧ w = w' by rw [← hR1]; exact add_any ro 1 w hro (by decide)))
    have CD := Lib.hid (fun w => (show Calls Tryd.prog 25 #[.int .u64 (hi : Int), .int .u64 (d : Int)] w fun e w' => e = .returned (.int .u64 (x : Int)) ∧ w = w' by rw [← hx]; exact add_any hi d w hhi (by omega)))
    have CH := Lib.hid (fun w => held_any x H w hH)
    have ok1 : Wig.Pb.Ok ⟨s, ss, lo, la, fu, sl, R, ph, si, H⟩ := by rw [← hr]; exact Wig.pbround_ok hok
    have hs : (Wig.pbpush ⟨s, ss, lo, la, fu, sl, R, ph, si, H⟩ ⟨g0, g1, g2, g3, g4, g5, g6, g7, gl, true⟩).rates = ss' := by rw [← hr, ← pback_rates, he]
    obtain ⟨y, hy⟩ : ∃ y, Wig.fadd la 10000 = y := ⟨_, rfl⟩
    obtain ⟨q, hq⟩ : ∃ q, decide (y ≤ g0) = q := ⟨_, rfl⟩
    have hst : Wig.pbstale ⟨s, ss, lo, la, fu, sl, ro, ph, si, hi⟩ ⟨g0, g1, g2, g3, g4, g5, g6, g7, gl, true⟩ = q := by rw [← hq, ← hy]; rfl
    have CY := Lib.hid (fun w => (show Calls Tryd.prog 25 #[.int .u64 (la : Int), .int .u64 10000] w fun e w' => e = .returned (.int .u64 (y : Int)) ∧ w = w' by rw [← hy]; exact add_any la 10000 w hla (by decide)))
    have ok2 : Wig.Pb.Ok ⟨s, ss', lo, la, fu, sl, R, ph, si, H⟩ := by
      have h0 := Wig.pbpush_ok (g := ⟨g0, g1, g2, g3, g4, g5, g6, g7, gl, true⟩) ok1 hg
      have e : Wig.pbpush ⟨s, ss, lo, la, fu, sl, R, ph, si, H⟩ ⟨g0, g1, g2, g3, g4, g5, g6, g7, gl, true⟩ = ⟨s, ss', lo, la, fu, sl, R, ph, si, H⟩ := by
        rw [← hs]
        unfold Wig.pbpush
        split <;> rfl
      rw [e] at h0
      exact h0
    have CR := Lib.hid (fun (w0 : World) (hb0 : Below w.heap.size w w0) => (show Calls Tryd.prog 27 #[aggPb s A n c lo la fu sl R ph si H, aggGt g0 g1 g2 g3 g4 g5 g6 g7 gl true] w0 fun e w' => ∃ A' c', e = .returned (.slice A' n' c') ∧ Rt w' w0.heap.size w'.heap.size A' n' ss' ∧ Below w0.heap.size w0 w' from rates_any s A n c lo la fu sl R ph si H ss g0 g1 g2 g3 g4 g5 g6 g7 gl true ss' n' w0 ok1 (hR.step hb0) hg hn2 hs hn'))
    have CM := Lib.hid (fun (l3 a3 : Nat) (q' : Bool) (hq' : q = q') (hl : (if q = true ∨ g5 < lo then g5 else lo) = l3) (ha : (if q = true ∨ g5 < lo then g0 else la) = a3) (A' : Option Addr) (c' : Nat) (w0 : World) (hT : Rt w0 0 w0.heap.size A' n' ss') =>
      (show Calls Tryd.prog 28 #[aggPb s A' n' c' l3 a3 fu sl R ph si H, aggGt g0 g1 g2 g3 g4 g5 g6 g7 gl true, .bool q'] w0 fun e w' => e = .returned (aggPb s' A' n' c' lo' la' fu' sl' ro' ph' si' hi') ∧ Below w0.heap.size w0 w' by
        subst hq'
        have ok3 : Wig.Pb.Ok ⟨s, ss', l3, a3, fu, sl, R, ph, si, H⟩ := ⟨ok2.s0, ok2.s1, ok2.rates, (by show l3 < _; rw [← hl]; split; exact hg.2.2.2.2.2.1; exact ok2.low), (by show a3 < _; rw [← ha]; split; exact hg.1; exact ok2.lowAt), ok2.full, ok2.still, ok2.rounds, ok2.phase, ok2.since, ok2.high⟩
        exact moved_any s A' n' c' l3 a3 fu sl R ph si H ss' g0 g1 g2 g3 g4 g5 g6 g7 gl true q s' ss' lo' la' fu' sl' ro' ph' si' hi' w0 ok3 hT hg (by rw [← he]; exact (pback_eq hr hs hst hl ha).symm)))
    have HQ := Lib.hid hq
    clear hok hR hg hn2 he hn' hro hhi hla hr ok1 hs hy hst ok2 hR1 hd hx hH
    have t5 := hq
    clear hq
    go_enter Tryd.func11, Tryd.ntmps11
    go_upto_region 1 with fail
    rw [← hw1, ← hw2, ← hw3]
    clear hw1 hw2 hw3
    have j9 := XG3.out.c9
    clear j9
    have k6 := XP3.out.c6
    have kf6 := XP3.out.f6
    have j9 := XG3.out.c9
    go_wp2_with fail
    refine (CA.out _).mono ?_
    rintro e _ ⟨rfl, rfl⟩
    go_upto_region 3 with fail
    obtain ⟨w4, hw⟩ : ∃ wx, wx = w3.setCell ⟨w.heap.size, 6, none⟩ (.int .u64 (R : Int)) := ⟨_, rfl⟩
    rw [← hw]
    have XP4 := Lib.hid (show BxPb w.heap.size s A n c lo la fu sl R ph si hi w4 by rw [hw]; exact XP3.out.set6)
    have B4 := Lib.hid (show Below w.heap.size w w4 by rw [hw]; exact Below.setCell B3.out GP.out _)
    have SP4 := Lib.hid (show w.heap.size < w4.heap.size by rw [hw]; have := SP3.out; simpa using this)
    have XG4 := Lib.hid (show BxGt (w.heap.size + 1) g0 g1 g2 g3 g4 g5 g6 g7 gl true w4 by rw [hw]; exact XG3.out.other rfl (Nat.ne_of_lt OPG.out))
    have SG4 := Lib.hid (show (w.heap.size + 1) < w4.heap.size by rw [hw]; have := SG3.out; simpa using this)
    have XZ4 := Lib.hid (show BxPb (w.heap.size + 2) 0 none 0 0 0 0 0 0 0 0 0 0 w4 by rw [hw]; exact XZ3.out.other rfl (Nat.ne_of_lt OPZ.out))
    have SZ4 := Lib.hid (show (w.heap.size + 2) < w4.heap.size by rw [hw]; have := SZ3.out; simpa using this)
    clear k6 kf6 j9
    clear hw B3 XP3 SP3 XG3 SG3 XZ3 SZ3
    have k9 := XP4.out.c9
    have kf9 := XP4.out.f9
    go_wp2_with fail
    refine (CD.out _).mono ?_
    rintro e _ ⟨rfl, rfl⟩
    go_wp2_with fail
    refine (CH.out _).mono ?_
    rintro e _ ⟨rfl, rfl⟩
    go_upto_region 4 with fail
    obtain ⟨w5, hw⟩ : ∃ wx, wx = w4.setCell ⟨w.heap.size, 9, none⟩ (.int .u64 (H : Int)) := ⟨_, rfl⟩
    rw [← hw]
    have XP5 := Lib.hid (show BxPb w.heap.size s A n c lo la fu sl R ph si H w5 by rw [hw]; exact XP4.out.set9)
    have B5 := Lib.hid (show Below w.heap.size w w5 by rw [hw]; exact Below.setCell B4.out GP.out _)
    have SP5 := Lib.hid (show w.heap.size < w5.heap.size by rw [hw]; have := SP4.out; simpa using this)
    have XG5 := Lib.hid (show BxGt (w.heap.size + 1) g0 g1 g2 g3 g4 g5 g6 g7 gl true w5 by rw [hw]; exact XG4.out.other rfl (Nat.ne_of_lt OPG.out))
    have SG5 := Lib.hid (show (w.heap.size + 1) < w5.heap.size by rw [hw]; have := SG4.out; simpa using this)
    have XZ5 := Lib.hid (show BxPb (w.heap.size + 2) 0 none 0 0 0 0 0 0 0 0 0 0 w5 by rw [hw]; exact XZ4.out.other rfl (Nat.ne_of_lt OPZ.out))
    have SZ5 := Lib.hid (show (w.heap.size + 2) < w5.heap.size by rw [hw]; have := SZ4.out; simpa using this)
    clear k9 kf9
    clear hw B4 XP4 SP4 XG4 SG4 XZ4 SZ4
    obtain ⟨k0, k1, k2, k3, k4, k5, k6, k7, k8, k9, -, -, -, -, -, -, -, -, -, -⟩ := XP5.out
    obtain ⟨j0, j1, j2, j3, j4, j5, j6, j7, j8, j9, -, -, -, -, -, -, -, -, -, -⟩ := XG5.out
    go_wp2_with fail
    refine (CR.out _ B5.out).mono ?_
    rintro e w6 ⟨A', c', rfl, hr, hb⟩
    have LTP := Lib.hid (show w.heap.size < w5.heap.size from SP5.out)
    have LTG := Lib.hid (show (w.heap.size + 1) < w5.heap.size from SG5.out)
    have LTZ := Lib.hid (show (w.heap.size + 2) < w5.heap.size from SZ5.out)
    have QT := Lib.hid (show w.heap.size ≤ w5.heap.size from B5.out.size)
    have B6 := Lib.hid (below_trans' B5.out hb)
    have XP6 := Lib.hid (XP5.out.below hb SP5.out)
    have SP6 := Lib.hid (Nat.lt_of_lt_of_le SP5.out hb.size)
    have XG6 := Lib.hid (XG5.out.below hb SG5.out)
    have SG6 := Lib.hid (Nat.lt_of_lt_of_le SG5.out hb.size)
    have XZ6 := Lib.hid (XZ5.out.below hb SZ5.out)
    have SZ6 := Lib.hid (Nat.lt_of_lt_of_le SZ5.out hb.size)
    clear k0 k1 k2 k3 k4 k5 k6 k7 k8 k9 j0 j1 j2 j3 j4 j5 j6 j7 j8 j9
    clear hb B5 XP5 SP5 XG5 SG5 XZ5 SZ5
    have RT6 := Lib.hid hr
    clear hr
    have k1 := XP6.out.c1
    have kf1 := XP6.out.f1
    go_upto_region 5 with fail
    obtain ⟨w7, hw⟩ : ∃ wx, wx = w6.setCell ⟨w.heap.size, 1, none⟩ (.slice A' n' c') := ⟨_, rfl⟩
    rw [← hw]
    have XP7 := Lib.hid (show BxPb w.heap.size s A' n' c' lo la fu sl R ph si H w7 by rw [hw]; exact XP6.out.set1)
    have B7 := Lib.hid (show Below w.heap.size w w7 by rw [hw]; exact Below.setCell B6.out GP.out _)
    have SP7 := Lib.hid (show w.heap.size < w7.heap.size by rw [hw]; have := SP6.out; simpa using this)
    have XG7 := Lib.hid (show BxGt (w.heap.size + 1) g0 g1 g2 g3 g4 g5 g6 g7 gl true w7 by rw [hw]; exact XG6.out.other rfl (Nat.ne_of_lt OPG.out))
    have SG7 := Lib.hid (show (w.heap.size + 1) < w7.heap.size by rw [hw]; have := SG6.out; simpa using this)
    have XZ7 := Lib.hid (show BxPb (w.heap.size + 2) 0 none 0 0 0 0 0 0 0 0 0 0 w7 by rw [hw]; exact XZ6.out.other rfl (Nat.ne_of_lt OPZ.out))
    have SZ7 := Lib.hid (show (w.heap.size + 2) < w7.heap.size by rw [hw]; have := SZ6.out; simpa using this)
    have RT7 := Lib.hid (show Rt w7 w5.heap.size w7.heap.size A' n' ss' by rw [hw]; exact RT6.out.set LTP.out)
    clear k1 kf1
    clear hw B6 XP6 SP6 XG6 SG6 XZ6 SZ6 RT6
    have k3 := XP7.out.c3
    have j0 := XG7.out.c0
    go_quiet (first | (go_at_call 25; with_reducible exact quiet_eq (CY.out _)) | fail)
    obtain ⟨w8, hw⟩ : ∃ wx, wx = w7.drewN nq := ⟨_, rfl⟩
    rw [← hw]
    have B8 := Lib.hid (show Below w.heap.size w w8 by rw [hw]; exact below_drewN' B7.out nq)
    have XP8 := Lib.hid (show BxPb w.heap.size s A' n' c' lo la fu sl R ph si H w8 by rw [hw]; exact XP7.out.drewN nq)
    have SP8 := Lib.hid (show w.heap.size < w8.heap.size by rw [hw]; exact SP7.out)
    have XG8 := Lib.hid (show BxGt (w.heap.size + 1) g0 g1 g2 g3 g4 g5 g6 g7 gl true w8 by rw [hw]; exact XG7.out.drewN nq)
    have SG8 := Lib.hid (show (w.heap.size + 1) < w8.heap.size by rw [hw]; exact SG7.out)
    have XZ8 := Lib.hid (show BxPb (w.heap.size + 2) 0 none 0 0 0 0 0 0 0 0 0 0 w8 by rw [hw]; exact XZ7.out.drewN nq)
    have SZ8 := Lib.hid (show (w.heap.size + 2) < w8.heap.size by rw [hw]; exact SZ7.out)
    have RT8 := Lib.hid (show Rt w8 w5.heap.size w8.heap.size A' n' ss' by rw [hw]; exact RT7.out.drewN nq)
    clear k3 j0
    clear hw B7 XP7 SP7 XG7 SG7 XZ7 SZ7 RT7
    by_cases hq : q = true
    · have HQQ := Lib.hid hq
      have HIF := Lib.hid (show q = true ∨ g5 < lo from .inl hq)
      rw [hq]
      clear hq t5 HQ
      go_upto_region 7 with fail
      have k2 := XP8.out.c2
      have kf2 := XP8.out.f2
      have k3 := XP8.out.c3
      have kf3 := XP8.out.f3
      refine wp_region_held_drew (S := fun wx => BxGt (w.heap.size + 1) g0 g1 g2 g3 g4 g5 g6 g7 gl true wx) (by kernel_rfl) ?_ (fun hHeld => ?_)
      · exact XG8.out.drew
      refine held_take (v := ?vv137) 0 rfl (by kernel_rfl) (by kernel_rfl) (by kernel_rfl) (fun _ _ _ h => h) (by rfl) ?yy137 (by assumption) ?nn137
      case yy137 =>
        intro w hSw
        (try dsimp only at hSw)
        go_simp
        try with_reducible rfl
      try simp only [Act.put, List.setIfInBounds_toArray, List.set_cons_zero, List.set_cons_succ]
      refine held_take (v := .int .u64 (g5 : Int)) 1 rfl (by kernel_rfl) (by kernel_rfl) (by kernel_rfl) (fun _ _ _ h => h) (by rfl) (fun wx hSw => by have c := hSw.c5; clear hSw; go_simp) (by assumption) ?_
      try simp only [Act.put, List.setIfInBounds_toArray, List.set_cons_zero, List.set_cons_succ]
      refine held_take (v := ?vv139) 2 rfl (by kernel_rfl) (by kernel_rfl) (by kernel_rfl) (fun _ _ _ h => h) (by rfl) ?yy139 (by assumption) ?nn139
      case yy139 =>
        intro w hSw
        (try dsimp only at hSw)
        go_simp
        try with_reducible rfl
      try simp only [Act.put, List.setIfInBounds_toArray, List.set_cons_zero, List.set_cons_succ]
      refine held_take (v := .int .u64 (g0 : Int)) 3 rfl (by kernel_rfl) (by kernel_rfl) (by kernel_rfl) (fun _ _ _ h => h) (by rfl) (fun wx hSw => by have c := hSw.c0; clear hSw; go_simp) (by assumption) ?_
      try simp only [Act.put, List.setIfInBounds_toArray, List.set_cons_zero, List.set_cons_succ]
      refine held_take (v := ?vv141) 4 rfl (by kernel_rfl) (by kernel_rfl) (by kernel_rfl) (fun _ _ _ h => h) (by rfl) ?yy141 (by assumption) ?nn141
      case yy141 =>
        intro w hSw
        (try dsimp only at hSw)
        go_simp
        try with_reducible rfl
      try simp only [Act.put, List.setIfInBounds_toArray, List.set_cons_zero, List.set_cons_succ]
      refine held_do 5 rfl (by kernel_rfl) (by rfl) (fun K hK => ?_)
      go_wp2_with fail
      refine hK.out _ _ ?_ (fun hHeld => ?_)
      · exact (XG8.out.drew.other rfl (Nat.ne_of_lt OPG.out))
      clear hK K
      try simp only [Act.put, List.setIfInBounds_toArray, List.set_cons_zero, List.set_cons_succ]
      refine held_take (v := ?vv143) 6 rfl (by kernel_rfl) (by kernel_rfl) (by kernel_rfl) (fun _ _ _ h => h) (by rfl) ?yy143 (by assumption) ?nn143
      case yy143 =>
        intro w hSw
        (try dsimp only at hSw)
        go_simp
        try with_reducible rfl
      try simp only [Act.put, List.setIfInBounds_toArray, List.set_cons_zero, List.set_cons_succ]
      refine held_do 7 rfl (by kernel_rfl) (by rfl) (fun K hK => ?_)
      go_wp2_with fail
      refine hK.out _ _ ?_ (fun hHeld => ?_)
      · exact ((XG8.out.drew.other rfl (Nat.ne_of_lt OPG.out)).other rfl (Nat.ne_of_lt OPG.out))
      clear hK K
      try simp only [Act.put, List.setIfInBounds_toArray, List.set_cons_zero, List.set_cons_succ]
      refine wpAnyH_done (by kernel_rfl) ?_ _
      clear hHeld
      obtain ⟨w9, hw⟩ : ∃ wx, wx = w8.setCell ⟨w.heap.size, 2, none⟩ (.int .u64 (g5 : Int)) := ⟨_, rfl⟩
      rw [← hw]
      have XP9 := Lib.hid (show BxPb w.heap.size s A' n' c' g5 la fu sl R ph si H w9 by rw [hw]; exact XP8.out.set2)
      have B9 := Lib.hid (show Below w.heap.size w w9 by rw [hw]; exact Below.setCell B8.out GP.out _)
      have SP9 := Lib.hid (show w.heap.size < w9.heap.size by rw [hw]; have := SP8.out; simpa using this)
      have XG9 := Lib.hid (show BxGt (w.heap.size + 1) g0 g1 g2 g3 g4 g5 g6 g7 gl true w9 by rw [hw]; exact XG8.out.other rfl (Nat.ne_of_lt OPG.out))
      have SG9 := Lib.hid (show (w.heap.size + 1) < w9.heap.size by rw [hw]; have := SG8.out; simpa using this)
      have XZ9 := Lib.hid (show BxPb (w.heap.size + 2) 0 none 0 0 0 0 0 0 0 0 0 0 w9 by rw [hw]; exact XZ8.out.other rfl (Nat.ne_of_lt OPZ.out))
      have SZ9 := Lib.hid (show (w.heap.size + 2) < w9.heap.size by rw [hw]; have := SZ8.out; simpa using this)
      have RT9 := Lib.hid (show Rt w9 w5.heap.size w9.heap.size A' n' ss' by rw [hw]; exact RT8.out.set LTP.out)
      clear k2 kf2 k3 kf3
      clear hw B8 XP8 SP8 XG8 SG8 XZ8 SZ8 RT8
      obtain ⟨w10, hw⟩ : ∃ wx, wx = w9.setCell ⟨w.heap.size, 3, none⟩ (.int .u64 (g0 : Int)) := ⟨_, rfl⟩
      rw [← hw]
      have XP10 := Lib.hid (show BxPb w.heap.size s A' n' c' g5 g0 fu sl R ph si H w10 by rw [hw]; exact XP9.out.set3)
      have B10 := Lib.hid (show Below w.heap.size w w10 by rw [hw]; exact Below.setCell B9.out GP.out _)
      have SP10 := Lib.hid (show w.heap.size < w10.heap.size by rw [hw]; have := SP9.out; simpa using this)
      have XG10 := Lib.hid (show BxGt (w.heap.size + 1) g0 g1 g2 g3 g4 g5 g6 g7 gl true w10 by rw [hw]; exact XG9.out.other rfl (Nat.ne_of_lt OPG.out))
      have SG10 := Lib.hid (show (w.heap.size + 1) < w10.heap.size by rw [hw]; have := SG9.out; simpa using this)
      have XZ10 := Lib.hid (show BxPb (w.heap.size + 2) 0 none 0 0 0 0 0 0 0 0 0 0 w10 by rw [hw]; exact XZ9.out.other rfl (Nat.ne_of_lt OPZ.out))
      have SZ10 := Lib.hid (show (w.heap.size + 2) < w10.heap.size by rw [hw]; have := SZ9.out; simpa using this)
      have RT10 := Lib.hid (show Rt w10 w5.heap.size w10.heap.size A' n' ss' by rw [hw]; exact RT9.out.set LTP.out)
      clear hw B9 XP9 SP9 XG9 SG9 XZ9 SZ9 RT9
      obtain ⟨w11, hw⟩ : ∃ wx, wx = w10.drew := ⟨_, rfl⟩
      rw [← hw]
      have B11 := Lib.hid (show Below w.heap.size w w11 by rw [hw]; exact B10.out.drew)
      have XP11 := Lib.hid (show BxPb w.heap.size s A' n' c' g5 g0 fu sl R ph si H w11 by rw [hw]; exact XP10.out.drew)
      have SP11 := Lib.hid (show w.heap.size < w11.heap.size by rw [hw]; exact SP10.out)
      have XG11 := Lib.hid (show BxGt (w.heap.size + 1) g0 g1 g2 g3 g4 g5 g6 g7 gl true w11 by rw [hw]; exact XG10.out.drew)
      have SG11 := Lib.hid (show (w.heap.size + 1) < w11.heap.size by rw [hw]; exact SG10.out)
      have XZ11 := Lib.hid (show BxPb (w.heap.size + 2) 0 none 0 0 0 0 0 0 0 0 0 0 w11 by rw [hw]; exact XZ10.out.drew)
      have SZ11 := Lib.hid (show (w.heap.size + 2) < w11.heap.size by rw [hw]; exact SZ10.out)
      have RT11 := Lib.hid (show Rt w11 w5.heap.size w11.heap.size A' n' ss' by rw [hw]; exact RT10.out.drew)
      clear hw B10 XP10 SP10 XG10 SG10 XZ10 SZ10 RT10
      obtain ⟨k0, k1, k2, k3, k4, k5, k6, k7, k8, k9, -, -, -, -, -, -, -, -, -, -⟩ := XP11.out
      obtain ⟨j0, j1, j2, j3, j4, j5, j6, j7, j8, j9, -, -, -, -, -, -, -, -, -, -⟩ := XG11.out
      go_wp2_with fail
      refine (CM.out g5 g0 true HQQ.out (if_pos HIF.out) (if_pos HIF.out) A' c' _ RT11.out.low).mono ?_
      rintro e w12 ⟨rfl, hb⟩
      have B12 := Lib.hid (below_trans' B11.out hb)
      have XP12 := Lib.hid (XP11.out.below hb SP11.out)
      have SP12 := Lib.hid (Nat.lt_of_lt_of_le SP11.out hb.size)
      have XG12 := Lib.hid (XG11.out.below hb SG11.out)
      have SG12 := Lib.hid (Nat.lt_of_lt_of_le SG11.out hb.size)
      have XZ12 := Lib.hid (XZ11.out.below hb SZ11.out)
      have SZ12 := Lib.hid (Nat.lt_of_lt_of_le SZ11.out hb.size)
      have RT12 := Lib.hid (RT11.out.step hb)
      clear k0 k1 k2 k3 k4 k5 k6 k7 k8 k9 j0 j1 j2 j3 j4 j5 j6 j7 j8 j9
      clear hb B11 XP11 SP11 XG11 SG11 XZ11 SZ11 RT11
      obtain ⟨z0, z1, z2, z3, z4, z5, z6, z7, z8, z9, zf0, zf1, zf2, zf3, zf4, zf5, zf6, zf7, zf8, zf9⟩ := XZ12.out
      go_wp2_with fail
      show bodyPost _ _ _ _ _ (putPb (w.heap.size + 2) s' A' n' c' lo' la' fu' sl' ro' ph' si' hi' w12)
      have BZ : Below w.heap.size w (putPb (w.heap.size + 2) s' A' n' c' lo' la' fu' sl' ro' ph' si' hi' w12) := B12.out.trans (putPb_below GZ.out)
      obtain ⟨z0, z1, z2, z3, z4, z5, z6, z7, z8, z9, -, -, -, -, -, -, -, -, -, -⟩ := (show BxPb (w.heap.size + 2) s' A' n' c' lo' la' fu' sl' ro' ph' si' hi' (putPb (w.heap.size + 2) s' A' n' c' lo' la' fu' sl' ro' ph' si' hi' w12) from XZ12.out.put)
      exact bodyPost_ret (v := aggPb s' A' n' c' lo' la' fu' sl' ro' ph' si' hi') (by simp [results, Tryd.results11, z0, z1, z2, z3, z4, z5, z6, z7, z8, z9, go_sem]) rfl ⟨A', c', rfl, (RT12.out.put LTZ.out _ _ _ _ _ _ _ _ _ _ _ _ ).wide QT.out (Nat.le_refl _), BZ⟩
    · have hq : q = false := by simpa using hq
      have HQQ := Lib.hid hq
      by_cases h6 : g5 < lo
      · have HIF := Lib.hid (show q = true ∨ g5 < lo from .inr h6)
        have t6 : decide (g5 < lo) = true := decide_eq_true h6
        rw [hq]
        clear hq t5 HQ h6
        have j5 := XG8.out.c5
        have k2 := XP8.out.c2
        go_upto_region 7 with fail
        clear j5 k2
        have k2 := XP8.out.c2
        have kf2 := XP8.out.f2
        have k3 := XP8.out.c3
        have kf3 := XP8.out.f3
        refine wp_region_held_drew (S := fun wx => BxGt (w.heap.size + 1) g0 g1 g2 g3 g4 g5 g6 g7 gl true wx) (by kernel_rfl) ?_ (fun hHeld => ?_)
        · exact XG8.out.drew
        refine held_take (v := ?vv146) 0 rfl (by kernel_rfl) (by kernel_rfl) (by kernel_rfl) (fun _ _ _ h => h) (by rfl) ?yy146 (by assumption) ?nn146
        case yy146 =>
          intro w hSw
          (try dsimp only at hSw)
          go_simp
          try with_reducible rfl
        try simp only [Act.put, List.setIfInBounds_toArray, List.set_cons_zero, List.set_cons_succ]
        refine held_take (v := .int .u64 (g5 : Int)) 1 rfl (by kernel_rfl) (by kernel_rfl) (by kernel_rfl) (fun _ _ _ h => h) (by rfl) (fun wx hSw => by have c := hSw.c5; clear hSw; go_simp) (by assumption) ?_
        try simp only [Act.put, List.setIfInBounds_toArray, List.set_cons_zero, List.set_cons_succ]
        refine held_take (v := ?vv148) 2 rfl (by kernel_rfl) (by kernel_rfl) (by kernel_rfl) (fun _ _ _ h => h) (by rfl) ?yy148 (by assumption) ?nn148
        case yy148 =>
          intro w hSw
          (try dsimp only at hSw)
          go_simp
          try with_reducible rfl
        try simp only [Act.put, List.setIfInBounds_toArray, List.set_cons_zero, List.set_cons_succ]
        refine held_take (v := .int .u64 (g0 : Int)) 3 rfl (by kernel_rfl) (by kernel_rfl) (by kernel_rfl) (fun _ _ _ h => h) (by rfl) (fun wx hSw => by have c := hSw.c0; clear hSw; go_simp) (by assumption) ?_
        try simp only [Act.put, List.setIfInBounds_toArray, List.set_cons_zero, List.set_cons_succ]
        refine held_take (v := ?vv150) 4 rfl (by kernel_rfl) (by kernel_rfl) (by kernel_rfl) (fun _ _ _ h => h) (by rfl) ?yy150 (by assumption) ?nn150
        case yy150 =>
          intro w hSw
          (try dsimp only at hSw)
          go_simp
          try with_reducible rfl
        try simp only [Act.put, List.setIfInBounds_toArray, List.set_cons_zero, List.set_cons_succ]
        refine held_do 5 rfl (by kernel_rfl) (by rfl) (fun K hK => ?_)
        go_wp2_with fail
        refine hK.out _ _ ?_ (fun hHeld => ?_)
        · exact (XG8.out.drew.other rfl (Nat.ne_of_lt OPG.out))
        clear hK K
        try simp only [Act.put, List.setIfInBounds_toArray, List.set_cons_zero, List.set_cons_succ]
        refine held_take (v := ?vv152) 6 rfl (by kernel_rfl) (by kernel_rfl) (by kernel_rfl) (fun _ _ _ h => h) (by rfl) ?yy152 (by assumption) ?nn152
        case yy152 =>
          intro w hSw
          (try dsimp only at hSw)
          go_simp
          try with_reducible rfl
        try simp only [Act.put, List.setIfInBounds_toArray, List.set_cons_zero, List.set_cons_succ]
        refine held_do 7 rfl (by kernel_rfl) (by rfl) (fun K hK => ?_)
        go_wp2_with fail
        refine hK.out _ _ ?_ (fun hHeld => ?_)
        · exact ((XG8.out.drew.other rfl (Nat.ne_of_lt OPG.out)).other rfl (Nat.ne_of_lt OPG.out))
        clear hK K
        try simp only [Act.put, List.setIfInBounds_toArray, List.set_cons_zero, List.set_cons_succ]
        refine wpAnyH_done (by kernel_rfl) ?_ _
        clear hHeld
        obtain ⟨w9, hw⟩ : ∃ wx, wx = w8.setCell ⟨w.heap.size, 2, none⟩ (.int .u64 (g5 : Int)) := ⟨_, rfl⟩
        rw [← hw]
        have XP9 := Lib.hid (show BxPb w.heap.size s A' n' c' g5 la fu sl R ph si H w9 by rw [hw]; exact XP8.out.set2)
        have B9 := Lib.hid (show Below w.heap.size w w9 by rw [hw]; exact Below.setCell B8.out GP.out _)
        have SP9 := Lib.hid (show w.heap.size < w9.heap.size by rw [hw]; have := SP8.out; simpa using this)
        have XG9 := Lib.hid (show BxGt (w.heap.size + 1) g0 g1 g2 g3 g4 g5 g6 g7 gl true w9 by rw [hw]; exact XG8.out.other rfl (Nat.ne_of_lt OPG.out))
        have SG9 := Lib.hid (show (w.heap.size + 1) < w9.heap.size by rw [hw]; have := SG8.out; simpa using this)
        have XZ9 := Lib.hid (show BxPb (w.heap.size + 2) 0 none 0 0 0 0 0 0 0 0 0 0 w9 by rw [hw]; exact XZ8.out.other rfl (Nat.ne_of_lt OPZ.out))
        have SZ9 := Lib.hid (show (w.heap.size + 2) < w9.heap.size by rw [hw]; have := SZ8.out; simpa using this)
        have RT9 := Lib.hid (show Rt w9 w5.heap.size w9.heap.size A' n' ss' by rw [hw]; exact RT8.out.set LTP.out)
        clear k2 kf2 k3 kf3
        clear hw B8 XP8 SP8 XG8 SG8 XZ8 SZ8 RT8
        obtain ⟨w10, hw⟩ : ∃ wx, wx = w9.setCell ⟨w.heap.size, 3, none⟩ (.int .u64 (g0 : Int)) := ⟨_, rfl⟩
        rw [← hw]
        have XP10 := Lib.hid (show BxPb w.heap.size s A' n' c' g5 g0 fu sl R ph si H w10 by rw [hw]; exact XP9.out.set3)
        have B10 := Lib.hid (show Below w.heap.size w w10 by rw [hw]; exact Below.setCell B9.out GP.out _)
        have SP10 := Lib.hid (show w.heap.size < w10.heap.size by rw [hw]; have := SP9.out; simpa using this)
        have XG10 := Lib.hid (show BxGt (w.heap.size + 1) g0 g1 g2 g3 g4 g5 g6 g7 gl true w10 by rw [hw]; exact XG9.out.other rfl (Nat.ne_of_lt OPG.out))
        have SG10 := Lib.hid (show (w.heap.size + 1) < w10.heap.size by rw [hw]; have := SG9.out; simpa using this)
        have XZ10 := Lib.hid (show BxPb (w.heap.size + 2) 0 none 0 0 0 0 0 0 0 0 0 0 w10 by rw [hw]; exact XZ9.out.other rfl (Nat.ne_of_lt OPZ.out))
        have SZ10 := Lib.hid (show (w.heap.size + 2) < w10.heap.size by rw [hw]; have := SZ9.out; simpa using this)
        have RT10 := Lib.hid (show Rt w10 w5.heap.size w10.heap.size A' n' ss' by rw [hw]; exact RT9.out.set LTP.out)
        clear hw B9 XP9 SP9 XG9 SG9 XZ9 SZ9 RT9
        obtain ⟨w11, hw⟩ : ∃ wx, wx = w10.drew := ⟨_, rfl⟩
        rw [← hw]
        have B11 := Lib.hid (show Below w.heap.size w w11 by rw [hw]; exact B10.out.drew)
        have XP11 := Lib.hid (show BxPb w.heap.size s A' n' c' g5 g0 fu sl R ph si H w11 by rw [hw]; exact XP10.out.drew)
        have SP11 := Lib.hid (show w.heap.size < w11.heap.size by rw [hw]; exact SP10.out)
        have XG11 := Lib.hid (show BxGt (w.heap.size + 1) g0 g1 g2 g3 g4 g5 g6 g7 gl true w11 by rw [hw]; exact XG10.out.drew)
        have SG11 := Lib.hid (show (w.heap.size + 1) < w11.heap.size by rw [hw]; exact SG10.out)
        have XZ11 := Lib.hid (show BxPb (w.heap.size + 2) 0 none 0 0 0 0 0 0 0 0 0 0 w11 by rw [hw]; exact XZ10.out.drew)
        have SZ11 := Lib.hid (show (w.heap.size + 2) < w11.heap.size by rw [hw]; exact SZ10.out)
        have RT11 := Lib.hid (show Rt w11 w5.heap.size w11.heap.size A' n' ss' by rw [hw]; exact RT10.out.drew)
        clear hw B10 XP10 SP10 XG10 SG10 XZ10 SZ10 RT10
        obtain ⟨k0, k1, k2, k3, k4, k5, k6, k7, k8, k9, -, -, -, -, -, -, -, -, -, -⟩ := XP11.out
        obtain ⟨j0, j1, j2, j3, j4, j5, j6, j7, j8, j9, -, -, -, -, -, -, -, -, -, -⟩ := XG11.out
        go_wp2_with fail
        refine (CM.out g5 g0 false HQQ.out (if_pos HIF.out) (if_pos HIF.out) A' c' _ RT11.out.low).mono ?_
        rintro e w12 ⟨rfl, hb⟩
        have B12 := Lib.hid (below_trans' B11.out hb)
        have XP12 := Lib.hid (XP11.out.below hb SP11.out)
        have SP12 := Lib.hid (Nat.lt_of_lt_of_le SP11.out hb.size)
        have XG12 := Lib.hid (XG11.out.below hb SG11.out)
        have SG12 := Lib.hid (Nat.lt_of_lt_of_le SG11.out hb.size)
        have XZ12 := Lib.hid (XZ11.out.below hb SZ11.out)
        have SZ12 := Lib.hid (Nat.lt_of_lt_of_le SZ11.out hb.size)
        have RT12 := Lib.hid (RT11.out.step hb)
        clear k0 k1 k2 k3 k4 k5 k6 k7 k8 k9 j0 j1 j2 j3 j4 j5 j6 j7 j8 j9
        clear hb B11 XP11 SP11 XG11 SG11 XZ11 SZ11 RT11
        obtain ⟨z0, z1, z2, z3, z4, z5, z6, z7, z8, z9, zf0, zf1, zf2, zf3, zf4, zf5, zf6, zf7, zf8, zf9⟩ := XZ12.out
        go_wp2_with fail
        show bodyPost _ _ _ _ _ (putPb (w.heap.size + 2) s' A' n' c' lo' la' fu' sl' ro' ph' si' hi' w12)
        have BZ : Below w.heap.size w (putPb (w.heap.size + 2) s' A' n' c' lo' la' fu' sl' ro' ph' si' hi' w12) := B12.out.trans (putPb_below GZ.out)
        obtain ⟨z0, z1, z2, z3, z4, z5, z6, z7, z8, z9, -, -, -, -, -, -, -, -, -, -⟩ := (show BxPb (w.heap.size + 2) s' A' n' c' lo' la' fu' sl' ro' ph' si' hi' (putPb (w.heap.size + 2) s' A' n' c' lo' la' fu' sl' ro' ph' si' hi' w12) from XZ12.out.put)
        exact bodyPost_ret (v := aggPb s' A' n' c' lo' la' fu' sl' ro' ph' si' hi') (by simp [results, Tryd.results11, z0, z1, z2, z3, z4, z5, z6, z7, z8, z9, go_sem]) rfl ⟨A', c', rfl, (RT12.out.put LTZ.out _ _ _ _ _ _ _ _ _ _ _ _ ).wide QT.out (Nat.le_refl _), BZ⟩
      · have HIF := Lib.hid (show ¬ (q = true ∨ g5 < lo) by rw [hq]; simp; omega)
        have t6 : decide (g5 < lo) = false := decide_eq_false h6
        rw [hq]
        clear hq t5 HQ h6
        have j5 := XG8.out.c5
        have k2 := XP8.out.c2
        go_upto_region 8 with fail
        clear j5 k2
        obtain ⟨k0, k1, k2, k3, k4, k5, k6, k7, k8, k9, -, -, -, -, -, -, -, -, -, -⟩ := XP8.out
        obtain ⟨j0, j1, j2, j3, j4, j5, j6, j7, j8, j9, -, -, -, -, -, -, -, -, -, -⟩ := XG8.out
        go_wp2_with fail
        refine (CM.out lo la false HQQ.out (if_neg HIF.out) (if_neg HIF.out) A' c' _ RT8.out.low).mono ?_
        rintro e w9 ⟨rfl, hb⟩
        have B9 := Lib.hid (below_trans' B8.out hb)
        have XP9 := Lib.hid (XP8.out.below hb SP8.out)
        have SP9 := Lib.hid (Nat.lt_of_lt_of_le SP8.out hb.size)
        have XG9 := Lib.hid (XG8.out.below hb SG8.out)
        have SG9 := Lib.hid (Nat.lt_of_lt_of_le SG8.out hb.size)
        have XZ9 := Lib.hid (XZ8.out.below hb SZ8.out)
        have SZ9 := Lib.hid (Nat.lt_of_lt_of_le SZ8.out hb.size)
        have RT9 := Lib.hid (RT8.out.step hb)
        clear k0 k1 k2 k3 k4 k5 k6 k7 k8 k9 j0 j1 j2 j3 j4 j5 j6 j7 j8 j9
        clear hb B8 XP8 SP8 XG8 SG8 XZ8 SZ8 RT8
        obtain ⟨z0, z1, z2, z3, z4, z5, z6, z7, z8, z9, zf0, zf1, zf2, zf3, zf4, zf5, zf6, zf7, zf8, zf9⟩ := XZ9.out
        go_wp2_with fail
        show bodyPost _ _ _ _ _ (putPb (w.heap.size + 2) s' A' n' c' lo' la' fu' sl' ro' ph' si' hi' w9)
        have BZ : Below w.heap.size w (putPb (w.heap.size + 2) s' A' n' c' lo' la' fu' sl' ro' ph' si' hi' w9) := B9.out.trans (putPb_below GZ.out)
        obtain ⟨z0, z1, z2, z3, z4, z5, z6, z7, z8, z9, -, -, -, -, -, -, -, -, -, -⟩ := (show BxPb (w.heap.size + 2) s' A' n' c' lo' la' fu' sl' ro' ph' si' hi' (putPb (w.heap.size + 2) s' A' n' c' lo' la' fu' sl' ro' ph' si' hi' w9) from XZ9.out.put)
        exact bodyPost_ret (v := aggPb s' A' n' c' lo' la' fu' sl' ro' ph' si' hi') (by simp [results, Tryd.results11, z0, z1, z2, z3, z4, z5, z6, z7, z8, z9, go_sem]) rfl ⟨A', c', rfl, (RT9.out.put LTZ.out _ _ _ _ _ _ _ _ _ _ _ _ ).wide QT.out (Nat.le_refl _), BZ⟩
end Go.Proofs.YtjojnbeflongkaaDoor
