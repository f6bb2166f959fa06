/-
  What package span's Both and Last return, in memory of the call's own. Conditions: the lists read as a set's own spans (Last: any).
-/
import Derived.Test.YtfibbohccaknjaaSpE
namespace Go.Proofs.Ytfibbohccaknjaa
open Go.ChangeShapes Go.WideShapes Go.ChangeAt Go.RowKit Go.Deep
set_option linter.unusedVariables false

def lenV : Value → Nat
  | .slice _ n _ => n
  | _ => 0
/-- At a round's head of Both: what is left of two sets, and what is laid. -/
def BoRel (all : List Wig.Spn) (w : World) (va vb vo : Value) (wr : World) : Prop :=
  ∃ (xs ys o : List Wig.Spn) (A B : Option Addr) (n m c d : Nat), va = .slice A n c ∧ vb = .slice B m d ∧ n = xs.length ∧ m = ys.length ∧ n ≤ 10000 ∧ m ≤ 10000 ∧ n ≤ c ∧ m ≤ d ∧ RdS w w.heap.size A xs ∧ RdS w w.heap.size B ys ∧ Wig.SOwn xs ∧ Wig.SOwn ys ∧
    o ++ Wig.sboth xs ys = all ∧ OwnS wr w.heap.size vo o ∧ Below w.heap.size w wr
theorem held_bo {X Y Z U : Prop} {B : Nat} {w1 w' : World} (h : X ∧ Y ∧ Z ∧ U ∧ Below B w1 w') : Below B w1 w' := h.2.2.2.2
theorem four_sp {w1 w' : World} {b1 o1 b2 o2 x0 x1 y0 y1 : Nat} (h1 : b1 < w1.heap.size) (h2 : b2 < w1.heap.size) (k0 : w1.cell? ⟨b1, o1, none⟩ = some (.int .u64 (x0 : Int))) (k1 : w1.cell? ⟨b1, o1 + 1, none⟩ = some (.int .u64 (x1 : Int)))
    (m0 : w1.cell? ⟨b2, o2, none⟩ = some (.int .u64 (y0 : Int))) (m1 : w1.cell? ⟨b2, o2 + 1, none⟩ = some (.int .u64 (y1 : Int))) (h : Below w1.heap.size w1 w') :
    w'.cell? ⟨b1, o1, none⟩ = some (.int .u64 (x0 : Int)) ∧ w'.cell? ⟨b1, o1 + 1, none⟩ = some (.int .u64 (x1 : Int)) ∧ w'.cell? ⟨b2, o2, none⟩ = some (.int .u64 (y0 : Int)) ∧ w'.cell? ⟨b2, o2 + 1, none⟩ = some (.int .u64 (y1 : Int)) :=
  ⟨(h.cell h1).trans k0, (h.cell h1).trans k1, (h.cell h2).trans m0, (h.cell h2).trans m1⟩

set_option maxHeartbeats 4000000 in
theorem both_any (xs0 ys0 : List Wig.Spn) (A0 B0 : Option Addr) (n0 m0 c0 d0 : Nat) (w : World) (hn : n0 = xs0.length) (hm : m0 = ys0.length) (hn1 : n0 ≤ 10000) (hm1 : m0 ≤ 10000) (hc : n0 ≤ c0) (hd : m0 ≤ d0)
    (hs : (Wig.sboth xs0 ys0).length ≤ 100000) (hr : RdS w w.heap.size A0 xs0) (hq : RdS w w.heap.size B0 ys0) (ho : Wig.SOwn xs0) (hp : Wig.SOwn ys0) :
    Calls Try.prog 21 #[.slice A0 n0 c0, .slice B0 m0 d0] w fun e w' => ∃ v, e = .returned v ∧ OwnS w' w.heap.size v (Wig.sboth xs0 ys0) ∧ Below w.heap.size w w' := by
  obtain ⟨all, hall⟩ : ∃ all, all = Wig.sboth xs0 ys0 := ⟨_, rfl⟩
  have START := Lib.hid (show BoRel all w (.slice A0 n0 c0) (.slice B0 m0 d0) (.slice none 0 0) w from ⟨xs0, ys0, [], A0, B0, n0, m0, c0, d0, rfl, rfl, hn, hm, hn1, hm1, hc, hd, hr, hq, ho, hp, by rw [hall]; rfl, World.ownsRow_nil _ _ _ _, Below.refl _ _⟩)
  rw [← hall] at hs ⊢
  have HS := Lib.hid hs
  clear hn hm hn1 hm1 hc hd hs hr hq ho hp hall
  go_enter Try.func21, Try.ntmps21
  go_wp2_with fail
  go_loopw [0, 1, 5] (fun va vb vo wr => BoRel all w va vb vo wr) (fun va vb _ _ => lenV va + lenV vb)
  case atStart => exact START.out
  case round =>
    obtain ⟨xs, ys, o, A, B, n, m, c, d, rfl, rfl, hn, hm, hn1, hm1, hc, hd, hr, hq, ho, hp, hall, hown, hbel⟩ := hrel
    have KO := Lib.hid hown
    have KB := Lib.hid hbel
    have HA := Lib.hid hall
    by_cases hx : n = 0
    · have R := Lib.hid (show o = all by
        have : xs = [] := List.eq_nil_of_length_eq_zero (by omega)
        rw [← hall, this, Wig.sboth_nil_left, List.append_nil])
      have t0 : decide (0 < n) = false := decide_eq_false (by omega)
      have t1 : decide ((0 : Int) < (n : Int)) = false := decide_eq_false (by omega)
      clear hn hm hn1 hm1 hc hd hr hq ho hp hall hown hbel hx
      go_wp2_with fail
      go_ret
      exact ⟨_, rfl, by rw [← R.out]; exact KO.out, KB.out⟩
    · by_cases hy : m = 0
      · have R := Lib.hid (show o = all by
          have : ys = [] := List.eq_nil_of_length_eq_zero (by omega)
          rw [← hall, this, Wig.sboth_nil_right, List.append_nil])
        have t0 : decide (0 < n) = true := decide_eq_true (by omega)
        have t1 : decide ((0 : Int) < (n : Int)) = true := decide_eq_true (by omega)
        have t2 : decide (0 < m) = false := decide_eq_false (by omega)
        have t3 : decide ((0 : Int) < (m : Int)) = false := decide_eq_false (by omega)
        clear hn hm hn1 hm1 hc hd hr hq ho hp hall hown hbel hx hy
        go_wp2_with fail
        go_ret
        exact ⟨_, rfl, by rw [← R.out]; exact KO.out, KB.out⟩
      · obtain ⟨p, xr, rfl⟩ : ∃ p xr, xs = p :: xr := by cases xs with | nil => simp at hn; omega | cons p xr => exact ⟨p, xr, rfl⟩
        obtain ⟨q, yr, rfl⟩ : ∃ q yr, ys = q :: yr := by cases ys with | nil => simp at hm; omega | cons q yr => exact ⟨q, yr, rfl⟩
        obtain ⟨p0, p1⟩ := p
        obtain ⟨q0, q1⟩ := q
        obtain ⟨b1, o1, rfl, lb1, x0, x1⟩ := hr.at_ (j := 0) rfl
        obtain ⟨b2, o2, rfl, lb2, y0, y1⟩ := hq.at_ (j := 0) rfl
        simp only [Nat.zero_mul, Nat.add_zero] at x0 x1 y0 y1
        have hsz := hbel.size
        have W4 := Lib.hid (fun w' (h : Below w.heap.size w w') => (show w'.cell? ⟨b1, o1, none⟩ = some (.int .u64 (p0 : Int)) ∧ w'.cell? ⟨b1, o1 + 1, none⟩ = some (.int .u64 (p1 : Int)) ∧ w'.cell? ⟨b2, o2, none⟩ = some (.int .u64 (q0 : Int)) ∧ w'.cell? ⟨b2, o2 + 1, none⟩ = some (.int .u64 (q1 : Int)) from four_sp lb1 lb2 x0 x1 y0 y1 h))
        have i1 : (0 : Int) < (n : Int) := by omega
        have i2 : (0 : Int) < (m : Int) := by omega
        have i3 : 0 < n := by omega
        have i4 : 0 < m := by omega
        have t0 : decide (0 < n) = true := decide_eq_true (by omega)
        have t2 : decide (0 < m) = true := decide_eq_true (by omega)
        obtain ⟨z0, hz0⟩ : ∃ z0, z0 = max p0 q0 := ⟨_, rfl⟩
        obtain ⟨z1, hz1⟩ : ∃ z1, z1 = min p1 q1 := ⟨_, rfl⟩
        have e0 : (if p0 < q0 then (q0 : Int) else (p0 : Int)) = (z0 : Int) := by split <;> omega
        have e1 : (if q1 < p1 then (q1 : Int) else (p1 : Int)) = (z1 : Int) := by split <;> omega
        have hmt : Wig.slay (Wig.smeet (p0, p1) (q0, q1)) = Wig.slay (z0, z1) := by rw [hz0, hz1]; rfl
        have hol : o.length ≤ 100000 := by have := congrArg List.length hall; rw [List.length_append] at this; have := HS.out; omega
        have CL := Lib.hid (fun wx (hb : Below w.heap.size wr wx) (hz : w.heap.size ≤ wx.heap.size) (ho : OwnS wx w.heap.size u5 o) => lay_any u5 o z0 z1 w.heap.size wx hol ho hz)
        have HSZ := Lib.hid hsz
        by_cases hlt : p1 < q1
        · have hlt' : decide (p1 < q1) = true := decide_eq_true hlt
          have NXT := Lib.hid (show (o ++ Wig.slay (z0, z1)) ++ Wig.sboth xr ((q0, q1) :: yr) = all by rw [← hall, Wig.sboth_left hp hlt, hmt, List.append_assoc])
          have RR := Lib.hid (show RdS w w.heap.size (slA (some ⟨b1, o1, none⟩) c 1) xr from by have := hr.from_ (c := c) (f := 1) (by rw [← hn]; exact hc); simpa using this)
          have RST := Lib.hid (show n - 1 = xr.length ∧ n - 1 ≤ 10000 ∧ n - 1 ≤ c - 1 ∧ Wig.SOwn xr ∧ 1 ≤ n ∧ m = ((q0, q1) :: yr).length ∧ m ≤ 10000 ∧ m ≤ d ∧ RdS w w.heap.size (some ⟨b2, o2, none⟩) ((q0, q1) :: yr) ∧ Wig.SOwn ((q0, q1) :: yr) from
            ⟨by rw [hn]; rfl, by omega, by omega, (Wig.own_cons.1 ho).2.2, by omega, hm, hm1, hd, hq, hp⟩)
          clear hn hm hn1 hm1 hc hd hr hq ho hp hall hown hbel x0 x1 y0 y1 lb1 lb2 hx hy hz0 hz1 hmt hol hsz hlt
          go_wp2_with fail
          refine wp_region_held_drew (S := (fun w' => (w'.cell? ⟨b1, o1, none⟩ = some (.int .u64 (p0 : Int)) ∧ w'.cell? ⟨b1, o1 + 1, none⟩ = some (.int .u64 (p1 : Int)) ∧ w'.cell? ⟨b2, o2, none⟩ = some (.int .u64 (q0 : Int)) ∧ w'.cell? ⟨b2, o2 + 1, none⟩ = some (.int .u64 (q1 : Int))))) (by kernel_rfl) ?_ (fun hHeld => ?_)
          · exact W4.out _ KB.out.drew
          refine held_take (v := ?vv701) 0 rfl (by kernel_rfl) (by kernel_rfl) (by kernel_rfl) (fun _ _ _ h => h) (by rfl) ?yy701 (by assumption) ?nn701
          case yy701 =>
            intro w hSw
            (try dsimp only at hSw)
            go_simp
            try with_reducible rfl
          try simp only [Act.put, List.setIfInBounds_toArray, List.set_cons_zero, List.set_cons_succ]
          refine held_take (v := ?vv702) 1 rfl (by kernel_rfl) (by kernel_rfl) (by kernel_rfl) (fun _ _ _ h => h) (by rfl) ?yy702 (by assumption) ?nn702
          case yy702 =>
            intro w hSw
            (try dsimp only at hSw)
            go_simp
            try with_reducible rfl
          try simp only [Act.put, List.setIfInBounds_toArray, List.set_cons_zero, List.set_cons_succ]
          refine held_take (v := ?vv703) 2 rfl (by kernel_rfl) (by kernel_rfl) (by kernel_rfl) (fun _ _ _ h => h) (by rfl) ?yy703 (by assumption) ?nn703
          case yy703 =>
            intro w hSw
            (try dsimp only at hSw)
            go_simp
            try with_reducible rfl
          try simp only [Act.put, List.setIfInBounds_toArray, List.set_cons_zero, List.set_cons_succ]
          refine held_take (v := ?vv704) 3 rfl (by kernel_rfl) (by kernel_rfl) (by kernel_rfl) (fun _ _ _ h => h) (by rfl) ?yy704 (by assumption) ?nn704
          case yy704 =>
            intro w hSw
            (try dsimp only at hSw)
            go_simp
            try with_reducible rfl
          try simp only [Act.put, List.setIfInBounds_toArray, List.set_cons_zero, List.set_cons_succ]
          refine held_take (v := ?vv705) 4 rfl (by kernel_rfl) (by kernel_rfl) (by kernel_rfl) (fun _ _ _ h => h) (by rfl) ?yy705 (by assumption) ?nn705
          case yy705 =>
            intro w hSw
            (try dsimp only at hSw)
            go_simp
            try with_reducible rfl
          try simp only [Act.put, List.setIfInBounds_toArray, List.set_cons_zero, List.set_cons_succ]
          refine held_take (v := ?vv706) 5 rfl (by kernel_rfl) (by kernel_rfl) (by kernel_rfl) (fun _ _ _ h => h) (by rfl) ?yy706 (by assumption) ?nn706
          case yy706 =>
            intro w hSw
            (try dsimp only at hSw)
            go_simp
            try with_reducible rfl
          try simp only [Act.put, List.setIfInBounds_toArray, List.set_cons_zero, List.set_cons_succ]
          refine held_take (v := ?vv707) 6 rfl (by kernel_rfl) (by kernel_rfl) (by kernel_rfl) (fun _ _ _ h => h) (by rfl) ?yy707 (by assumption) ?nn707
          case yy707 =>
            intro w hSw
            (try dsimp only at hSw)
            go_simp
            try with_reducible rfl
          try simp only [Act.put, List.setIfInBounds_toArray, List.set_cons_zero, List.set_cons_succ]
          refine held_take (v := ?vv708) 7 rfl (by kernel_rfl) (by kernel_rfl) (by kernel_rfl) (fun _ _ _ h => h) (by rfl) ?yy708 (by assumption) ?nn708
          case yy708 =>
            intro w hSw
            (try dsimp only at hSw)
            go_simp
            try with_reducible rfl
          try simp only [Act.put, List.setIfInBounds_toArray, List.set_cons_zero, List.set_cons_succ]
          refine held_take (v := ?vv709) 8 rfl (by kernel_rfl) (by kernel_rfl) (by kernel_rfl) (fun _ _ _ h => h) (by rfl) ?yy709 (by assumption) ?nn709
          case yy709 =>
            intro w hSw
            (try dsimp only at hSw)
            go_simp
            try with_reducible rfl
          try simp only [Act.put, List.setIfInBounds_toArray, List.set_cons_zero, List.set_cons_succ]
          refine held_take (v := ?vv710) 9 rfl (by kernel_rfl) (by kernel_rfl) (by kernel_rfl) (fun _ _ _ h => h) (by rfl) ?yy710 (by assumption) ?nn710
          case yy710 =>
            intro w hSw
            (try dsimp only at hSw)
            go_simp
            try with_reducible rfl
          try simp only [Act.put, List.setIfInBounds_toArray, List.set_cons_zero, List.set_cons_succ]
          refine held_take (v := ?vv711) 10 rfl (by kernel_rfl) (by kernel_rfl) (by kernel_rfl) (fun _ _ _ h => h) (by rfl) ?yy711 (by assumption) ?nn711
          case yy711 =>
            intro w hSw
            (try dsimp only at hSw)
            go_simp
            try with_reducible rfl
          try simp only [Act.put, List.setIfInBounds_toArray, List.set_cons_zero, List.set_cons_succ]
          refine held_take (v := ?vv712) 11 rfl (by kernel_rfl) (by kernel_rfl) (by kernel_rfl) (fun _ _ _ h => h) (by rfl) ?yy712 (by assumption) ?nn712
          case yy712 =>
            intro w hSw
            (try dsimp only at hSw)
            go_simp
            try with_reducible rfl
          try simp only [Act.put, List.setIfInBounds_toArray, List.set_cons_zero, List.set_cons_succ]
          refine held_take (v := ?vv713) 12 rfl (by kernel_rfl) (by kernel_rfl) (by kernel_rfl) (fun _ _ _ h => h) (by rfl) ?yy713 (by assumption) ?nn713
          case yy713 =>
            intro w hSw
            (try dsimp only at hSw)
            go_simp
            try with_reducible rfl
          try simp only [Act.put, List.setIfInBounds_toArray, List.set_cons_zero, List.set_cons_succ]
          refine held_take (v := ?vv714) 13 rfl (by kernel_rfl) (by kernel_rfl) (by kernel_rfl) (fun _ _ _ h => h) (by rfl) ?yy714 (by assumption) ?nn714
          case yy714 =>
            intro w hSw
            (try dsimp only at hSw)
            go_simp
            try with_reducible rfl
          try simp only [Act.put, List.setIfInBounds_toArray, List.set_cons_zero, List.set_cons_succ]
          refine held_take (v := ?vv715) 14 rfl (by kernel_rfl) (by kernel_rfl) (by kernel_rfl) (fun _ _ _ h => h) (by rfl) ?yy715 (by assumption) ?nn715
          case yy715 =>
            intro w hSw
            (try dsimp only at hSw)
            go_simp
            try with_reducible rfl
          try simp only [Act.put, List.setIfInBounds_toArray, List.set_cons_zero, List.set_cons_succ]
          refine held_take (v := ?vv716) 15 rfl (by kernel_rfl) (by kernel_rfl) (by kernel_rfl) (fun _ _ _ h => h) (by rfl) ?yy716 (by assumption) ?nn716
          case yy716 =>
            intro w hSw
            (try dsimp only at hSw)
            go_simp
            try with_reducible rfl
          try simp only [Act.put, List.setIfInBounds_toArray, List.set_cons_zero, List.set_cons_succ]
          refine held_take (v := ?vv717) 16 rfl (by kernel_rfl) (by kernel_rfl) (by kernel_rfl) (fun _ _ _ h => h) (by rfl) ?yy717 (by assumption) ?nn717
          case yy717 =>
            intro w hSw
            (try dsimp only at hSw)
            go_simp
            try with_reducible rfl
          try simp only [Act.put, List.setIfInBounds_toArray, List.set_cons_zero, List.set_cons_succ]
          refine held_take (v := ?vv718) 17 rfl (by kernel_rfl) (by kernel_rfl) (by kernel_rfl) (fun _ _ _ h => h) (by rfl) ?yy718 (by assumption) ?nn718
          case yy718 =>
            intro w hSw
            (try dsimp only at hSw)
            go_simp
            try with_reducible rfl
          try simp only [Act.put, List.setIfInBounds_toArray, List.set_cons_zero, List.set_cons_succ]
          refine held_take (v := ?vv719) 18 rfl (by kernel_rfl) (by kernel_rfl) (by kernel_rfl) (fun _ _ _ h => h) (by rfl) ?yy719 (by assumption) ?nn719
          case yy719 =>
            intro w hSw
            (try dsimp only at hSw)
            go_simp
            try with_reducible rfl
          try simp only [Act.put, List.setIfInBounds_toArray, List.set_cons_zero, List.set_cons_succ]
          refine held_take (v := ?vv720) 19 rfl (by kernel_rfl) (by kernel_rfl) (by kernel_rfl) (fun _ _ _ h => h) (by rfl) ?yy720 (by assumption) ?nn720
          case yy720 =>
            intro w hSw
            (try dsimp only at hSw)
            go_simp
            try with_reducible rfl
          try simp only [Act.put, List.setIfInBounds_toArray, List.set_cons_zero, List.set_cons_succ]
          refine held_do 20 rfl (by kernel_rfl) (by rfl) (fun K hK => ?_)
          go_wp2_with (go_at_call 34; refine (CL.out _ (below_drewN' (Below.refl _ _) 1) HSZ.out (show OwnS (wr.drewN 1) w.heap.size u5 o from KO.out)).mono ?_; rintro e w5 ⟨v5, rfl, hown5, hb5, -⟩; have R5 := Lib.hid (And.intro hown5 (KB.out.trans (show Below w.heap.size wr w5 from (Below.refl _ _).drew.trans hb5))); clear hown5 hb5)
          refine hK.out _ _ ?_ (fun hHeld => ?_)
          · exact W4.out _ R5.out.2
          clear hK K
          try simp only [Act.put, List.setIfInBounds_toArray, List.set_cons_zero, List.set_cons_succ]
          refine held_take (v := ?vv722) 21 rfl (by kernel_rfl) (by kernel_rfl) (by kernel_rfl) (fun _ _ _ h => h) (by rfl) ?yy722 (by assumption) ?nn722
          case yy722 =>
            intro w hSw
            (try dsimp only at hSw)
            go_simp
            try with_reducible rfl
          try simp only [Act.put, List.setIfInBounds_toArray, List.set_cons_zero, List.set_cons_succ]
          refine wpAnyH_done (by kernel_rfl) ?_ _
          obtain ⟨hown5, hb5⟩ := R5.out
          have m := W4.out _ hb5
          obtain ⟨y0, y1, y2, y3⟩ := m
          have O5 := Lib.hid hown5
          have B5 := Lib.hid hb5
          clear hown5 hb5 e0 e1
          obtain ⟨n1, hn1⟩ : ∃ n1, n1 = n - 1 := ⟨_, rfl⟩
          obtain ⟨c1, hc1⟩ : ∃ c1, c1 = c - 1 := ⟨_, rfl⟩
          have HN1 := Lib.hid (And.intro hn1 hc1)
          clear hn1 hc1
          go_wp2_with fail
          go_quiet (fail)
          go_wp2_with (refine wpList_run rfl (run_sl_l (f := 1) rfl rfl rfl RST.out.2.2.2.2.1 n1 c1 HN1.out.1 HN1.out.2) ?_)
          go_roundw
          case rel => exact ⟨xr, (q0, q1) :: yr, o ++ Wig.slay (z0, z1), _, _, n1, m, c1, d, rfl, rfl, by rw [HN1.out.1]; exact RST.out.1, RST.out.2.2.2.2.2.1, by have := RST.out; have := HN1.out; omega, RST.out.2.2.2.2.2.2.1, by have := RST.out; have := HN1.out; omega, RST.out.2.2.2.2.2.2.2.1, RR.out, RST.out.2.2.2.2.2.2.2.2.1, RST.out.2.2.2.1, RST.out.2.2.2.2.2.2.2.2.2, NXT.out, O5.out, below_drewN' B5.out _⟩
          case measure => have := RST.out.2.2.2.2.1; have := HN1.out.1; simp [lenV]; omega
        · have hlt' : decide (p1 < q1) = false := decide_eq_false hlt
          have NXT := Lib.hid (show (o ++ Wig.slay (z0, z1)) ++ Wig.sboth ((p0, p1) :: xr) yr = all by rw [← hall, Wig.sboth_right ho (by simp only; omega), hmt, List.append_assoc])
          have RR := Lib.hid (show RdS w w.heap.size (slA (some ⟨b2, o2, none⟩) d 1) yr from by have := hq.from_ (c := d) (f := 1) (by rw [← hm]; exact hd); simpa using this)
          have RST := Lib.hid (show m - 1 = yr.length ∧ m - 1 ≤ 10000 ∧ m - 1 ≤ d - 1 ∧ Wig.SOwn yr ∧ 1 ≤ m ∧ n = ((p0, p1) :: xr).length ∧ n ≤ 10000 ∧ n ≤ c ∧ RdS w w.heap.size (some ⟨b1, o1, none⟩) ((p0, p1) :: xr) ∧ Wig.SOwn ((p0, p1) :: xr) from
            ⟨by rw [hm]; rfl, by omega, by omega, (Wig.own_cons.1 hp).2.2, by omega, hn, hn1, hc, hr, ho⟩)
          clear hn hm hn1 hm1 hc hd hr hq ho hp hall hown hbel x0 x1 y0 y1 lb1 lb2 hx hy hz0 hz1 hmt hol hsz hlt
          go_wp2_with fail
          refine wp_region_held_drew (S := (fun w' => (w'.cell? ⟨b1, o1, none⟩ = some (.int .u64 (p0 : Int)) ∧ w'.cell? ⟨b1, o1 + 1, none⟩ = some (.int .u64 (p1 : Int)) ∧ w'.cell? ⟨b2, o2, none⟩ = some (.int .u64 (q0 : Int)) ∧ w'.cell? ⟨b2, o2 + 1, none⟩ = some (.int .u64 (q1 : Int))))) (by kernel_rfl) ?_ (fun hHeld => ?_)
          · exact W4.out _ KB.out.drew
          refine held_take (v := ?vv724) 0 rfl (by kernel_rfl) (by kernel_rfl) (by kernel_rfl) (fun _ _ _ h => h) (by rfl) ?yy724 (by assumption) ?nn724
          case yy724 =>
            intro w hSw
            (try dsimp only at hSw)
            go_simp
            try with_reducible rfl
          try simp only [Act.put, List.setIfInBounds_toArray, List.set_cons_zero, List.set_cons_succ]
          refine held_take (v := ?vv725) 1 rfl (by kernel_rfl) (by kernel_rfl) (by kernel_rfl) (fun _ _ _ h => h) (by rfl) ?yy725 (by assumption) ?nn725
          case yy725 =>
            intro w hSw
            (try dsimp only at hSw)
            go_simp
            try with_reducible rfl
          try simp only [Act.put, List.setIfInBounds_toArray, List.set_cons_zero, List.set_cons_succ]
          refine held_take (v := ?vv726) 2 rfl (by kernel_rfl) (by kernel_rfl) (by kernel_rfl) (fun _ _ _ h => h) (by rfl) ?yy726 (by assumption) ?nn726
          case yy726 =>
            intro w hSw
            (try dsimp only at hSw)
            go_simp
            try with_reducible rfl
          try simp only [Act.put, List.setIfInBounds_toArray, List.set_cons_zero, List.set_cons_succ]
          refine held_take (v := ?vv727) 3 rfl (by kernel_rfl) (by kernel_rfl) (by kernel_rfl) (fun _ _ _ h => h) (by rfl) ?yy727 (by assumption) ?nn727
          case yy727 =>
            intro w hSw
            (try dsimp only at hSw)
            go_simp
            try with_reducible rfl
          try simp only [Act.put, List.setIfInBounds_toArray, List.set_cons_zero, List.set_cons_succ]
          refine held_take (v := ?vv728) 4 rfl (by kernel_rfl) (by kernel_rfl) (by kernel_rfl) (fun _ _ _ h => h) (by rfl) ?yy728 (by assumption) ?nn728
          case yy728 =>
            intro w hSw
            (try dsimp only at hSw)
            go_simp
            try with_reducible rfl
          try simp only [Act.put, List.setIfInBounds_toArray, List.set_cons_zero, List.set_cons_succ]
          refine held_take (v := ?vv729) 5 rfl (by kernel_rfl) (by kernel_rfl) (by kernel_rfl) (fun _ _ _ h => h) (by rfl) ?yy729 (by assumption) ?nn729
          case yy729 =>
            intro w hSw
            (try dsimp only at hSw)
            go_simp
            try with_reducible rfl
          try simp only [Act.put, List.setIfInBounds_toArray, List.set_cons_zero, List.set_cons_succ]
          refine held_take (v := ?vv730) 6 rfl (by kernel_rfl) (by kernel_rfl) (by kernel_rfl) (fun _ _ _ h => h) (by rfl) ?yy730 (by assumption) ?nn730
          case yy730 =>
            intro w hSw
            (try dsimp only at hSw)
            go_simp
            try with_reducible rfl
          try simp only [Act.put, List.setIfInBounds_toArray, List.set_cons_zero, List.set_cons_succ]
          refine held_take (v := ?vv731) 7 rfl (by kernel_rfl) (by kernel_rfl) (by kernel_rfl) (fun _ _ _ h => h) (by rfl) ?yy731 (by assumption) ?nn731
          case yy731 =>
            intro w hSw
            (try dsimp only at hSw)
            go_simp
            try with_reducible rfl
          try simp only [Act.put, List.setIfInBounds_toArray, List.set_cons_zero, List.set_cons_succ]
          refine held_take (v := ?vv732) 8 rfl (by kernel_rfl) (by kernel_rfl) (by kernel_rfl) (fun _ _ _ h => h) (by rfl) ?yy732 (by assumption) ?nn732
          case yy732 =>
            intro w hSw
            (try dsimp only at hSw)
            go_simp
            try with_reducible rfl
          try simp only [Act.put, List.setIfInBounds_toArray, List.set_cons_zero, List.set_cons_succ]
          refine held_take (v := ?vv733) 9 rfl (by kernel_rfl) (by kernel_rfl) (by kernel_rfl) (fun _ _ _ h => h) (by rfl) ?yy733 (by assumption) ?nn733
          case yy733 =>
            intro w hSw
            (try dsimp only at hSw)
            go_simp
            try with_reducible rfl
          try simp only [Act.put, List.setIfInBounds_toArray, List.set_cons_zero, List.set_cons_succ]
          refine held_take (v := ?vv734) 10 rfl (by kernel_rfl) (by kernel_rfl) (by kernel_rfl) (fun _ _ _ h => h) (by rfl) ?yy734 (by assumption) ?nn734
          case yy734 =>
            intro w hSw
            (try dsimp only at hSw)
            go_simp
            try with_reducible rfl
          try simp only [Act.put, List.setIfInBounds_toArray, List.set_cons_zero, List.set_cons_succ]
          refine held_take (v := ?vv735) 11 rfl (by kernel_rfl) (by kernel_rfl) (by kernel_rfl) (fun _ _ _ h => h) (by rfl) ?yy735 (by assumption) ?nn735
          case yy735 =>
            intro w hSw
            (try dsimp only at hSw)
            go_simp
            try with_reducible rfl
          try simp only [Act.put, List.setIfInBounds_toArray, List.set_cons_zero, List.set_cons_succ]
          refine held_take (v := ?vv736) 12 rfl (by kernel_rfl) (by kernel_rfl) (by kernel_rfl) (fun _ _ _ h => h) (by rfl) ?yy736 (by assumption) ?nn736
          case yy736 =>
            intro w hSw
            (try dsimp only at hSw)
            go_simp
            try with_reducible rfl
          try simp only [Act.put, List.setIfInBounds_toArray, List.set_cons_zero, List.set_cons_succ]
          refine held_take (v := ?vv737) 13 rfl (by kernel_rfl) (by kernel_rfl) (by kernel_rfl) (fun _ _ _ h => h) (by rfl) ?yy737 (by assumption) ?nn737
          case yy737 =>
            intro w hSw
            (try dsimp only at hSw)
            go_simp
            try with_reducible rfl
          try simp only [Act.put, List.setIfInBounds_toArray, List.set_cons_zero, List.set_cons_succ]
          refine held_take (v := ?vv738) 14 rfl (by kernel_rfl) (by kernel_rfl) (by kernel_rfl) (fun _ _ _ h => h) (by rfl) ?yy738 (by assumption) ?nn738
          case yy738 =>
            intro w hSw
            (try dsimp only at hSw)
            go_simp
            try with_reducible rfl
          try simp only [Act.put, List.setIfInBounds_toArray, List.set_cons_zero, List.set_cons_succ]
          refine held_take (v := ?vv739) 15 rfl (by kernel_rfl) (by kernel_rfl) (by kernel_rfl) (fun _ _ _ h => h) (by rfl) ?yy739 (by assumption) ?nn739
          case yy739 =>
            intro w hSw
            (try dsimp only at hSw)
            go_simp
            try with_reducible rfl
          try simp only [Act.put, List.setIfInBounds_toArray, List.set_cons_zero, List.set_cons_succ]
          refine held_take (v := ?vv740) 16 rfl (by kernel_rfl) (by kernel_rfl) (by kernel_rfl) (fun _ _ _ h => h) (by rfl) ?yy740 (by assumption) ?nn740
          case yy740 =>
            intro w hSw
            (try dsimp only at hSw)
            go_simp
            try with_reducible rfl
          try simp only [Act.put, List.setIfInBounds_toArray, List.set_cons_zero, List.set_cons_succ]
          refine held_take (v := ?vv741) 17 rfl (by kernel_rfl) (by kernel_rfl) (by kernel_rfl) (fun _ _ _ h => h) (by rfl) ?yy741 (by assumption) ?nn741
          case yy741 =>
            intro w hSw
            (try dsimp only at hSw)
            go_simp
            try with_reducible rfl
          try simp only [Act.put, List.setIfInBounds_toArray, List.set_cons_zero, List.set_cons_succ]
          refine held_take (v := ?vv742) 18 rfl (by kernel_rfl) (by kernel_rfl) (by kernel_rfl) (fun _ _ _ h => h) (by rfl) ?yy742 (by assumption) ?nn742
          case yy742 =>
            intro w hSw
            (try dsimp only at hSw)
            go_simp
            try with_reducible rfl
          try simp only [Act.put, List.setIfInBounds_toArray, List.set_cons_zero, List.set_cons_succ]
          refine held_take (v := ?vv743) 19 rfl (by kernel_rfl) (by kernel_rfl) (by kernel_rfl) (fun _ _ _ h => h) (by rfl) ?yy743 (by assumption) ?nn743
          case yy743 =>
            intro w hSw
            (try dsimp only at hSw)
            go_simp
            try with_reducible rfl
          try simp only [Act.put, List.setIfInBounds_toArray, List.set_cons_zero, List.set_cons_succ]
          refine held_do 20 rfl (by kernel_rfl) (by rfl) (fun K hK => ?_)
          go_wp2_with (go_at_call 34; refine (CL.out _ (below_drewN' (Below.refl _ _) 1) HSZ.out (show OwnS (wr.drewN 1) w.heap.size u5 o from KO.out)).mono ?_; rintro e w5 ⟨v5, rfl, hown5, hb5, -⟩; have R5 := Lib.hid (And.intro hown5 (KB.out.trans (show Below w.heap.size wr w5 from (Below.refl _ _).drew.trans hb5))); clear hown5 hb5)
          refine hK.out _ _ ?_ (fun hHeld => ?_)
          · exact W4.out _ R5.out.2
          clear hK K
          try simp only [Act.put, List.setIfInBounds_toArray, List.set_cons_zero, List.set_cons_succ]
          refine held_take (v := ?vv745) 21 rfl (by kernel_rfl) (by kernel_rfl) (by kernel_rfl) (fun _ _ _ h => h) (by rfl) ?yy745 (by assumption) ?nn745
          case yy745 =>
            intro w hSw
            (try dsimp only at hSw)
            go_simp
            try with_reducible rfl
          try simp only [Act.put, List.setIfInBounds_toArray, List.set_cons_zero, List.set_cons_succ]
          refine wpAnyH_done (by kernel_rfl) ?_ _
          obtain ⟨hown5, hb5⟩ := R5.out
          have m := W4.out _ hb5
          obtain ⟨y0, y1, y2, y3⟩ := m
          have O5 := Lib.hid hown5
          have B5 := Lib.hid hb5
          clear hown5 hb5 e0 e1
          obtain ⟨n1, hn1⟩ : ∃ n1, n1 = m - 1 := ⟨_, rfl⟩
          obtain ⟨c1, hc1⟩ : ∃ c1, c1 = d - 1 := ⟨_, rfl⟩
          have HN1 := Lib.hid (And.intro hn1 hc1)
          clear hn1 hc1
          go_wp2_with fail
          go_quiet (fail)
          go_wp2_with (refine wpList_run rfl (run_sl_l (f := 1) rfl rfl rfl RST.out.2.2.2.2.1 n1 c1 HN1.out.1 HN1.out.2) ?_)
          go_roundw
          case rel => exact ⟨(p0, p1) :: xr, yr, o ++ Wig.slay (z0, z1), _, _, n, n1, c, c1, rfl, rfl, RST.out.2.2.2.2.2.1, by rw [HN1.out.1]; exact RST.out.1, RST.out.2.2.2.2.2.2.1, by have := RST.out; have := HN1.out; omega, RST.out.2.2.2.2.2.2.2.1, by have := RST.out; have := HN1.out; omega, RST.out.2.2.2.2.2.2.2.2.1, RR.out, RST.out.2.2.2.2.2.2.2.2.2, RST.out.2.2.2.1, NXT.out, O5.out, below_drewN' B5.out _⟩
          case measure => have := RST.out.2.2.2.2.1; have := HN1.out.1; simp [lenV]; omega

end Go.Proofs.Ytfibbohccaknjaa
