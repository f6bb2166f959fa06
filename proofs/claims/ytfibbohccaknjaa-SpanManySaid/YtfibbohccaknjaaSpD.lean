/-
  What package span's Add returns: the set's spans and what was added, in memory of the call's own. Conditions: the list reads as a set's own spans.
-/
import Derived.Test.YtfibbohccaknjaaSpC
import Derived.RegionTactic
import Derived.BigRegion
import Derived.ChangeAlike
namespace Go.Proofs.Ytfibbohccaknjaa
open Go.ChangeShapes Go.WideShapes Go.ChangeAt Go.RowKit Go.Deep
set_option linter.unusedVariables false

/-- The box of a span that is turned: its cells, at a world. -/
structure Bx (b s0 s1 : Nat) (w : World) : Prop where
  c0 : w.cell? ⟨b, 0, none⟩ = some (.int .u64 (s0 : Int))
  c1 : w.cell? ⟨b, 1, none⟩ = some (.int .u64 (s1 : Int))
  f0 : w.frozen? ⟨b, 0, none⟩ = false
  f1 : w.frozen? ⟨b, 1, none⟩ = false
theorem Bx.new (w : World) (s0 s1 : Nat) {t : TypeId} : Bx w.heap.size s0 s1 (w.alloc (.cells #[.int .u64 (s0 : Int), .int .u64 (s1 : Int)] t)) :=
  ⟨(new_sp w s0 s1).1, (new_sp w s0 s1).2, World.frozen?_alloc_at _ _ _ _ rfl, World.frozen?_alloc_at _ _ _ _ rfl⟩
theorem Bx.below {b s0 s1 B : Nat} {w w' : World} (h : Bx b s0 s1 w) (hb : Below B w w') (hB : b < B) : Bx b s0 s1 w' :=
  ⟨(hb.cell hB).trans h.c0, (hb.cell hB).trans h.c1, (hb.frozen hB).trans h.f0, (hb.frozen hB).trans h.f1⟩
theorem Bx.stored {b s0 s1 : Nat} {w : World} (h : Bx b s0 s1 w) (t0 t1 : Nat) : Bx b t0 t1 ((w.setCell ⟨b, 0, none⟩ (.int .u64 (t0 : Int))).setCell ⟨b, 1, none⟩ (.int .u64 (t1 : Int))).drew := by
  have k1 : (w.setCell ⟨b, 0, none⟩ (.int .u64 (t0 : Int))).cell? ⟨b, 1, none⟩ = some (.int .u64 (s1 : Int)) := by rw [World.cell?_setCell_other _ _ _ _ (by simp)]; exact h.c1
  refine ⟨?_, ?_, ?_, ?_⟩
  · show ((w.setCell _ _).setCell _ _).cell? _ = _
    rw [World.cell?_setCell_other _ _ _ _ (by simp), World.cell?_setCell_same _ _ _ h.c0]
  · show ((w.setCell _ _).setCell _ _).cell? _ = _
    rw [World.cell?_setCell_same _ _ _ k1]
  · show ((w.setCell _ _).setCell _ _).frozen? _ = _
    rw [World.frozen?_setCell, World.frozen?_setCell]; exact h.f0
  · show ((w.setCell _ _).setCell _ _).frozen? _ = _
    rw [World.frozen?_setCell, World.frozen?_setCell]; exact h.f1
def AdRel (l : List Wig.Spn) (s : Wig.Spn) (w : World) (i : Value) (wr : World) : Prop :=
  ∃ k : Nat, k ≤ (Wig.sm l s).length ∧ i = .int .i64 (k : Int) ∧ Bx w.heap.size (Wig.hull s ((Wig.sm l s).take k)).1 (Wig.hull s ((Wig.sm l s).take k)).2 wr ∧ Below w.heap.size w wr ∧ w.heap.size < wr.heap.size
theorem hull_next {s p : Wig.Spn} {m : List Wig.Spn} {k : Nat} (h : m[k]? = some p) : Wig.hull s (m.take (k + 1)) = (min (Wig.hull s (m.take k)).1 p.1, max (Wig.hull s (m.take k)).2 p.2) := by
  rw [Wig.take_next h]; unfold Wig.hull; rw [List.foldl_append]; rfl

set_option maxHeartbeats 4000000 in
theorem add_any (l : List Wig.Spn) (s0 s1 : Nat) (A : Option Addr) (n c : Nat) (w : World) (hn : n = l.length) (hm : n ≤ 10000) (hc : n ≤ c) (hr : RdS w w.heap.size A l) (ho : Wig.SOwn l) :
    Calls Try.prog 17 #[.slice A n c, .agg #[.int .u64 (s0 : Int), .int .u64 (s1 : Int)]] w fun e w' => ∃ v, e = .returned v ∧ OwnS w' w.heap.size v (Wig.sadd l (s0, s1)) ∧ Below w.heap.size w w' := by
  obtain ⟨w1, hw1⟩ : ∃ w1, w1 = w.alloc (.cells #[.int .u64 (s0 : Int), .int .u64 (s1 : Int)] 25) := ⟨_, rfl⟩
  have hsz : w1.heap.size = w.heap.size + 1 := by rw [hw1]; simp
  have hbx : Bx w.heap.size s0 s1 w1 := by rw [hw1]; exact Bx.new w s0 s1
  have hB1 : Below w.heap.size w w1 := by rw [hw1]; exact (Below.refl _ _).alloc (Nat.le_refl _) _
  have HX := Lib.hid hbx
  have HB1 := Lib.hid hB1
  have HS := Lib.hid hsz
  have HR := Lib.hid hr
  have HN := Lib.hid hn
  have HC := Lib.hid hc
  have HO := Lib.hid ho
  have k0 := hbx.c0
  have k1 := hbx.c1
  by_cases he : s1 ≤ s0
  · have CE := Lib.hid (fun w => empty_any s0 s1 true w (decide_eq_true he))
    have R := Lib.hid (show Wig.sadd l (s0, s1) = l by unfold Wig.sadd; rw [if_pos he])
    have CC := Lib.hid (fun w' (h : Below w.heap.size w w') => copied_any l A n c w' hn (by omega) ((hr.below h).wide h.size))
    clear hr hn hc ho he hbx hB1 hsz
    go_enter Try.func17, Try.ntmps17
    go_wp2_with fail
    rw [← hw1]
    clear hw1
    go_wp2_with fail
    refine (CE.out _).mono ?_
    rintro e w2 ⟨rfl, hb2⟩
    have B2 := Lib.hid (HB1.out.trans (hb2.mono (by have := HS.out; omega)))
    clear hb2 k0 k1
    go_wp2_with fail
    refine (CC.out _ B2.out).mono ?_
    rintro e w3 ⟨v, rfl, hown, hb3⟩
    have R1 := Lib.hid (hown.base_le B2.out.size)
    have R2 := Lib.hid (B2.out.trans (hb3.mono B2.out.size))
    clear hown hb3
    go_wp2_with fail
    go_ret
    exact ⟨v, rfl, by rw [R.out]; exact R1.out, R2.out⟩
  · have hs : s0 < s1 := by omega
    have CE := Lib.hid (fun w => empty_any s0 s1 false w (decide_eq_false he))
    obtain ⟨f, hf⟩ : ∃ f, f = Wig.nfrom l (s0, s1) := ⟨_, rfl⟩
    obtain ⟨g, hg⟩ : ∃ g, g = Wig.nto l (s0, s1) := ⟨_, rfl⟩
    have hfg : f ≤ g := by rw [hf, hg]; exact Wig.from_le ho hs
    have hgn : g ≤ n := by rw [hg, hn]; exact Wig.to_le _ _
    have CM := Lib.hid (fun w' (h : Below w.heap.size w w') => met_any l s0 s1 A n c f g w' hn (by omega) ((hr.below h).wide h.size) ho hs hf hg)
    obtain ⟨m, hm2⟩ : ∃ m, m = g - f := ⟨_, rfl⟩
    obtain ⟨cf, hcf⟩ : ∃ cf, cf = c - f := ⟨_, rfl⟩
    have HSM := Lib.hid (show Wig.sm l (s0, s1) = (l.take g).drop f by unfold Wig.sm; rw [hf, hg])
    have HML := Lib.hid (show m = (Wig.sm l (s0, s1)).length by rw [HSM.out, List.length_drop, List.length_take]; omega)
    have HG := Lib.hid (And.intro hf (And.intro hg (And.intro hfg (And.intro hgn (And.intro hm2 hcf)))))
    obtain ⟨A', hA'⟩ : ∃ A', A' = slA A c f := ⟨_, rfl⟩
    have HRM := Lib.hid (show RdS w w.heap.size A' (Wig.sm l (s0, s1)) by rw [HSM.out, hA']; exact hr.part (by omega))
    have HA := Lib.hid hA'
    have HE := Lib.hid hs
    have b1 : m ≤ 10000 := by omega
    clear hr hn hc ho he hbx hB1 hsz hf hg hfg hgn hm2 hcf hA' hs
    go_enter Try.func17, Try.ntmps17
    go_wp2_with fail
    rw [← hw1]
    clear hw1
    go_wp2_with fail
    refine (CE.out _).mono ?_
    rintro e w2 ⟨rfl, hb2⟩
    have X2 := Lib.hid (HX.out.below hb2 (by have := HS.out; omega))
    have S2 := Lib.hid (show w.heap.size < w2.heap.size by have := HS.out; have := hb2.size; omega)
    have B2 := Lib.hid (HB1.out.trans (hb2.mono (by have := HS.out; omega)))
    have m0 := X2.out.c0
    have m1 := X2.out.c1
    clear hb2 k0 k1
    go_wp2_with fail
    refine (CM.out _ B2.out).mono ?_
    rintro e w3 ⟨rfl, hb3⟩
    have X3 := Lib.hid (X2.out.below hb3 S2.out)
    have S3 := Lib.hid (show w.heap.size < w3.heap.size by have := S2.out; have := hb3.size; omega)
    have B3 := Lib.hid (B2.out.trans (hb3.mono B2.out.size))
    clear hb3 m0 m1
    go_wp2_with (refine wpList_run rfl (run_sl_lh rfl rfl rfl rfl HG.out.2.2.1 (by have := HG.out; have := HC.out; omega) m cf HG.out.2.2.2.2.1 HG.out.2.2.2.2.2) ?_; rw [← HA.out])
    go_loopw [24] (fun i wr => AdRel l (s0, s1) w i wr) (fun i _ => m - (intOf i).toNat)
    case atStart => exact ⟨0, Nat.zero_le _, rfl, X3.out, B3.out, S3.out⟩
    case round =>
      obtain ⟨k, hk, rfl, hX, hbel, hlt2⟩ := hrel
      rw [← HML.out] at hk
      obtain ⟨h0, hh0⟩ : ∃ h0, h0 = (Wig.hull (s0, s1) ((Wig.sm l (s0, s1)).take k)).1 := ⟨_, rfl⟩
      obtain ⟨h1, hh1⟩ : ∃ h1, h1 = (Wig.hull (s0, s1) ((Wig.sm l (s0, s1)).take k)).2 := ⟨_, rfl⟩
      rw [← hh0, ← hh1] at hX
      have KB := Lib.hid hbel
      have KL := Lib.hid hlt2
      by_cases hlt : k < m
      · obtain ⟨⟨p0, p1⟩, hp⟩ : ∃ p, (Wig.sm l (s0, s1))[k]? = some p := ⟨_, List.getElem?_eq_getElem (by have := HML.out; omega)⟩
        obtain ⟨b, off, e, _, c0, c1⟩ := (HRM.out.below hbel).at_ hp
        simp only [] at c0 c1
        have i0 : (0 : Int) ≤ (k : Int) := by omega
        have i1 : (k : Int) < (m : Int) := by omega
        obtain ⟨wb, hwb⟩ : ∃ wb, wb = wr.alloc (.cells #[.int .u64 (p0 : Int), .int .u64 (p1 : Int)] 25) := ⟨_, rfl⟩
        have hbB : Below wr.heap.size wr wb := by rw [hwb]; exact (Below.refl _ _).alloc (Nat.le_refl _) _
        have hXb := hX.below hbB hlt2
        have q0 := hXb.c0
        have q1 := hXb.c1
        have q2 := hXb.f0
        have q3 := hXb.f1
        have r0 : wb.cell? ⟨wr.heap.size, 0, none⟩ = some (.int .u64 (p0 : Int)) := by rw [hwb]; exact (new_sp wr p0 p1).1
        have r1 : wb.cell? ⟨wr.heap.size, 1, none⟩ = some (.int .u64 (p1 : Int)) := by rw [hwb]; exact (new_sp wr p0 p1).2
        obtain ⟨x0, hx0⟩ : ∃ x0, x0 = min h0 p0 := ⟨_, rfl⟩
        obtain ⟨x1, hx1⟩ : ∃ x1, x1 = max h1 p1 := ⟨_, rfl⟩
        have e0 : (if p0 < h0 then (p0 : Int) else (h0 : Int)) = (x0 : Int) := by split <;> omega
        have e1 : (if h1 < p1 then (p1 : Int) else (h1 : Int)) = (x1 : Int) := by split <;> omega
        have HN2 := Lib.hid (show Wig.hull (s0, s1) ((Wig.sm l (s0, s1)).take (k + 1)) = (x0, x1) by rw [hull_next hp, hx0, hx1, hh0, hh1])
        have XB := Lib.hid (show Bx w.heap.size x0 x1 ((wb.setCell ⟨w.heap.size, 0, none⟩ (.int .u64 (x0 : Int))).setCell ⟨w.heap.size, 1, none⟩ (.int .u64 (x1 : Int))).drew from hXb.stored x0 x1)
        have BB := Lib.hid (show Below w.heap.size w ((wb.setCell ⟨w.heap.size, 0, none⟩ (.int .u64 (x0 : Int))).setCell ⟨w.heap.size, 1, none⟩ (.int .u64 (x1 : Int))).drew from (((KB.out.trans (hbB.mono KB.out.size)).setCell (Nat.le_refl _) _).setCell (Nat.le_refl _) _).drew)
        have SB := Lib.hid (show w.heap.size < (((wb.setCell ⟨w.heap.size, 0, none⟩ (.int .u64 (x0 : Int))).setCell ⟨w.heap.size, 1, none⟩ (.int .u64 (x1 : Int))).drew).heap.size by have := hbB.size; have := KL.out; simp [World.setCell]; omega)
        subst e
        clear hX hXb hbel hbB hp hx0 hx1 hh0 hh1 hlt2
        go_wp2_with fail
        rw [← hwb]
        clear hwb
        go_region
        go_wp2_with fail
        go_roundw
        case rel => exact ⟨k + 1, by rw [← HML.out]; omega, rfl, by rw [HN2.out]; exact XB.out, BB.out, SB.out⟩
        case measure => simp [intOf]; omega
      · have hkm : k = m := by omega
        have htk : (Wig.sm l (s0, s1)).take k = Wig.sm l (s0, s1) := by rw [hkm, HML.out, List.take_length]
        rw [htk] at hh0 hh1
        have RES := Lib.hid (show Wig.sadd l (s0, s1) = l.take f ++ [(h0, h1)] ++ l.drop g by
          have := HE.out
          unfold Wig.sadd Wig.sa Wig.sb
          rw [if_neg (by simp only; omega), hh0, hh1, ← HG.out.1, ← HG.out.2.1])
        have q0 := hX.c0
        have q1 := hX.c1
        obtain ⟨q, hq⟩ : ∃ q, q = n - g := ⟨_, rfl⟩
        obtain ⟨cg, hcg⟩ : ∃ cg, cg = c - g := ⟨_, rfl⟩
        have hRd : RdS wr wr.heap.size A l := (HR.out.below hbel).wide hbel.size
        have hB4 : Below wr.heap.size wr (wr.alloc (.cells #[.int .u64 (h0 : Int), .int .u64 (h1 : Int)] 25)) := (Below.refl _ _).alloc (Nat.le_refl _) _
        have hnn := HN.out
        have hcc := HC.out
        have CC := Lib.hid (cat3 (wr.alloc (.cells #[.int .u64 (h0 : Int), .int .u64 (h1 : Int)] 25)) (wr.heap.size + 1) (slA A c 0) (some ⟨wr.heap.size, 0, none⟩) (slA A c g) c 1 cg f 1 q (l.take f) [(h0, h1)] (l.drop g) 22
          (by simp) (by rw [List.length_take]; have := HG.out; omega) rfl (by rw [List.length_drop]; omega) (by have := HG.out; omega)
          (((hRd.upto (by omega)).below hB4).wide hB4.size) (fun _ => ⟨wr.heap.size, 0, rfl, by simp, fun j p hj => by
            cases j with
            | zero => simp at hj; subst hj; exact new_sp wr h0 h1
            | succ j => simp at hj⟩) (((hRd.from_ (by omega)).below hB4).wide hB4.size))
        have Q0 := Lib.hid q0
        have Q1 := Lib.hid q1
        have g1 : f ≤ c := by have := HG.out; omega
        have g2 : g ≤ n := HG.out.2.2.2.1
        have G1 := Lib.hid g1
        have G2 := Lib.hid (And.intro g2 (And.intro hq hcg))
        have HB4 := Lib.hid hB4
        clear hX hbel hlt2 hh0 hh1 htk hRd hB4 hnn hcc hq hcg g1 g2 hk hlt
        subst hkm
        go_wp2_with fail
        refine wp_region_held_drew (S := (fun w' => w'.cell? ⟨w.heap.size, 0, none⟩ = some (.int .u64 (h0 : Int)) ∧ w'.cell? ⟨w.heap.size, 1, none⟩ = some (.int .u64 (h1 : Int)) ∧ Below wr.heap.size wr w')) (by kernel_rfl) ?_ (fun hHeld => ?_)
        · exact box_sp KL.out Q0.out Q1.out (Below.refl _ _).drew
        refine held_take (v := ?vv501) 0 rfl (by kernel_rfl) (by kernel_rfl) (by kernel_rfl) (fun _ _ _ h => h) (by rfl) ?yy501 (by assumption) ?nn501
        case yy501 =>
          intro w hSw
          (try dsimp only at hSw)
          go_simp
          try with_reducible rfl
        try simp only [Act.put, List.setIfInBounds_toArray, List.set_cons_zero, List.set_cons_succ]
        refine held_take (v := ?vv502) 1 rfl (by kernel_rfl) (by kernel_rfl) (by kernel_rfl) (fun _ _ _ h => h) (by rfl) ?yy502 (by assumption) ?nn502
        case yy502 =>
          intro w hSw
          (try dsimp only at hSw)
          go_simp
          try with_reducible rfl
        try simp only [Act.put, List.setIfInBounds_toArray, List.set_cons_zero, List.set_cons_succ]
        refine held_take (v := .slice (slA A c 0) f c) 2 rfl (by kernel_rfl) (by kernel_rfl) (by kernel_rfl) (fun _ _ _ h => h) (by rfl) (fun w hSw => run_sl_h (by rfl) (by rfl) (by rfl) G1.out) (by assumption) ?_
        try simp only [Act.put, List.setIfInBounds_toArray, List.set_cons_zero, List.set_cons_succ]
        refine held_take (v := ?vv504) 3 rfl (by kernel_rfl) (by kernel_rfl) (by kernel_rfl) (fun _ _ _ h => h) (by rfl) ?yy504 (by assumption) ?nn504
        case yy504 =>
          intro w hSw
          (try dsimp only at hSw)
          go_simp
          try with_reducible rfl
        try simp only [Act.put, List.setIfInBounds_toArray, List.set_cons_zero, List.set_cons_succ]
        refine held_take (v := ?vv506) 5 rfl (by kernel_rfl) (by kernel_rfl) (by kernel_rfl) (fun _ _ _ h => h) (by rfl) ?yy506 (by assumption) ?nn506
        case yy506 =>
          intro w hSw
          (try dsimp only at hSw)
          go_simp
          try with_reducible rfl
        try simp only [Act.put, List.setIfInBounds_toArray, List.set_cons_zero, List.set_cons_succ]
        refine held_take (v := ?vv507) 6 rfl (by kernel_rfl) (by kernel_rfl) (by kernel_rfl) (fun _ _ _ h => h) (by rfl) ?yy507 (by assumption) ?nn507
        case yy507 =>
          intro w hSw
          (try dsimp only at hSw)
          go_simp
          try with_reducible rfl
        try simp only [Act.put, List.setIfInBounds_toArray, List.set_cons_zero, List.set_cons_succ]
        refine held_take (v := .slice (slA A c g) q cg) 7 rfl (by kernel_rfl) (by kernel_rfl) (by kernel_rfl) (fun _ _ _ h => h) (by rfl) (fun w hSw => run_sl_l (by rfl) (by rfl) (by rfl) G2.out.1 q cg G2.out.2.1 G2.out.2.2) (by assumption) ?_
        try simp only [Act.put, List.setIfInBounds_toArray, List.set_cons_zero, List.set_cons_succ]
        refine held_do 4 rfl (by kernel_rfl) (by rfl) (fun K hK => ?_)
        go_simp
        refine hK.out _ _ ?_ (fun hHeld => ?_)
        · exact box_sp KL.out Q0.out Q1.out HB4.out.drew
        clear hK K
        try simp only [Act.put, List.setIfInBounds_toArray, List.set_cons_zero, List.set_cons_succ]
        refine held_do 8 rfl (by kernel_rfl) (by rfl) (fun K hK => ?_)
        go_simp
        refine hK.out _ _ ?_ (fun hHeld => ?_)
        · exact box_sp KL.out Q0.out Q1.out (HB4.out.alloc (by simp) _).drew
        clear hK K
        try simp only [Act.put, List.setIfInBounds_toArray, List.set_cons_zero, List.set_cons_succ]
        refine held_do 9 rfl (by kernel_rfl) (by rfl) (fun K hK => ?_)
        go_wp2_with (go_at_call 32; refine (CC.out).mono ?_; rintro e w5 ⟨v5, rfl, hown5, hb5⟩; have R1 := Lib.hid (hown5.base_le (base' := w.heap.size) (by have := KL.out; simp; omega)); have R3 := Lib.hid (HB4.out.trans (hb5.mono (by simp))); have R2 := Lib.hid (KB.out.trans (R3.out.mono KB.out.size)); clear hown5 hb5)
        refine hK.out _ _ ?_ (fun hHeld => ?_)
        · exact box_sp KL.out Q0.out Q1.out R3.out
        clear hK K
        try simp only [Act.put, List.setIfInBounds_toArray, List.set_cons_zero, List.set_cons_succ]
        refine held_take (v := ?vv511) 10 rfl (by kernel_rfl) (by kernel_rfl) (by kernel_rfl) (fun _ _ _ h => h) (by rfl) ?yy511 (by assumption) ?nn511
        case yy511 =>
          intro w hSw
          (try dsimp only at hSw)
          go_simp
          try with_reducible rfl
        try simp only [Act.put, List.setIfInBounds_toArray, List.set_cons_zero, List.set_cons_succ]
        refine wpAnyH_done (by kernel_rfl) ?_ _
        go_wp2_with fail
        go_ret
        exact ⟨v5, rfl, by rw [RES.out]; exact R1.out, R2.out⟩
end Go.Proofs.Ytfibbohccaknjaa
