/-
  What package span's Cut, Both and Last return, in memory of the call's own. Conditions: the lists read as a set's own spans (Last: any).
-/
import Derived.Test.YtfibbohccaknjaaSpD
namespace Go.Proofs.Ytfibbohccaknjaa
open Go.ChangeShapes Go.WideShapes Go.ChangeAt Go.RowKit Go.Deep
set_option linter.unusedVariables false

def CuRel (l : List Wig.Spn) (s : Wig.Spn) (w1 : World) (v i : Value) (wr : World) : Prop :=
  ∃ k : Nat, k ≤ (Wig.sm l s).length ∧ OwnS wr w1.heap.size v (((Wig.sm l s).take k).flatMap (Wig.piece2 s)) ∧ i = .int .i64 (k : Int) ∧ Below w1.heap.size w1 wr
theorem piece_next {s p : Wig.Spn} {m : List Wig.Spn} {k : Nat} (h : m[k]? = some p) : (m.take (k + 1)).flatMap (Wig.piece2 s) = (m.take k).flatMap (Wig.piece2 s) ++ Wig.slay (p.1, s.1) ++ Wig.slay (s.2, p.2) := by
  rw [Wig.take_next h, List.flatMap_append, List.append_assoc]
  congr 1
  simp [Wig.piece2]
theorem piece_le (s : Wig.Spn) (m : List Wig.Spn) (k : Nat) : ((m.take k).flatMap (Wig.piece2 s)).length ≤ 2 * m.length := by
  have := Wig.flat_len (l := m.take k) (f := Wig.piece2 s) (c := 2) fun p _ => Wig.piece2_len s p
  have := List.length_take_le k m
  have : (m.take k).length ≤ m.length := by rw [List.length_take]; omega
  omega

set_option maxHeartbeats 4000000 in
theorem cut_any (l : List Wig.Spn) (s0 s1 : Nat) (A : Option Addr) (n c : Nat) (w : World) (hn : n = l.length) (hm : n ≤ 10000) (hc : n ≤ c) (hr : RdS w w.heap.size A l) (ho : Wig.SOwn l) :
    Calls Try.prog 19 #[.slice A n c, .agg #[.int .u64 (s0 : Int), .int .u64 (s1 : Int)]] w fun e w' => ∃ v, e = .returned v ∧ OwnS w' w.heap.size v (Wig.scut l (s0, s1)) ∧ Below w.heap.size w w' := by
  obtain ⟨w1, hw1⟩ : ∃ w1, w1 = w.alloc (.cells #[.int .u64 (s0 : Int), .int .u64 (s1 : Int)] 25) := ⟨_, rfl⟩
  have hsz : w1.heap.size = w.heap.size + 1 := by rw [hw1]; simp
  have hbx : Bx w.heap.size s0 s1 w1 := by rw [hw1]; exact Bx.new w s0 s1
  have hB1 : Below w.heap.size w w1 := by rw [hw1]; exact (Below.refl _ _).alloc (Nat.le_refl _) _
  have HX := Lib.hid hbx
  have HB1 := Lib.hid hB1
  have HS := Lib.hid hsz
  have HR := Lib.hid hr
  have HN := Lib.hid hn
  have HC := Lib.hid hc
  have HO := Lib.hid ho
  have k0 := hbx.c0
  have k1 := hbx.c1
  by_cases he : s1 ≤ s0
  · have CE := Lib.hid (fun w => empty_any s0 s1 true w (decide_eq_true he))
    have R := Lib.hid (show Wig.scut l (s0, s1) = l by unfold Wig.scut; rw [if_pos he])
    have CC := Lib.hid (fun w' (h : Below w.heap.size w w') => copied_any l A n c w' hn (by omega) ((hr.below h).wide h.size))
    clear hr hn hc ho he hbx hB1 hsz
    go_enter Try.func19, Try.ntmps19
    go_wp2_with fail
    rw [← hw1]
    clear hw1
    go_wp2_with fail
    refine (CE.out _).mono ?_
    rintro e w2 ⟨rfl, hb2⟩
    have B2 := Lib.hid (HB1.out.trans (hb2.mono (by have := HS.out; omega)))
    clear hb2 k0 k1
    go_wp2_with fail
    refine (CC.out _ B2.out).mono ?_
    rintro e w3 ⟨v, rfl, hown, hb3⟩
    have R1 := Lib.hid (hown.base_le B2.out.size)
    have R2 := Lib.hid (B2.out.trans (hb3.mono B2.out.size))
    clear hown hb3
    go_wp2_with fail
    go_ret
    exact ⟨v, rfl, by rw [R.out]; exact R1.out, R2.out⟩
  · have hs : s0 < s1 := by omega
    have CE := Lib.hid (fun w => empty_any s0 s1 false w (decide_eq_false he))
    obtain ⟨f, hf⟩ : ∃ f, f = Wig.nfrom l (s0, s1) := ⟨_, rfl⟩
    obtain ⟨g, hg⟩ : ∃ g, g = Wig.nto l (s0, s1) := ⟨_, rfl⟩
    have hfg : f ≤ g := by rw [hf, hg]; exact Wig.from_le ho hs
    have hgn : g ≤ n := by rw [hg, hn]; exact Wig.to_le _ _
    have CM := Lib.hid (fun w' (h : Below w.heap.size w w') => met_any l s0 s1 A n c f g w' hn (by omega) ((hr.below h).wide h.size) ho hs hf hg)
    obtain ⟨m, hm2⟩ : ∃ m, m = g - f := ⟨_, rfl⟩
    obtain ⟨cf, hcf⟩ : ∃ cf, cf = c - f := ⟨_, rfl⟩
    have HSM := Lib.hid (show Wig.sm l (s0, s1) = (l.take g).drop f by unfold Wig.sm; rw [hf, hg])
    have HML := Lib.hid (show m = (Wig.sm l (s0, s1)).length by rw [HSM.out, List.length_drop, List.length_take]; omega)
    have HG := Lib.hid (And.intro hf (And.intro hg (And.intro hfg (And.intro hgn (And.intro hm2 hcf)))))
    obtain ⟨A', hA'⟩ : ∃ A', A' = slA A c f := ⟨_, rfl⟩
    have HRM := Lib.hid (show RdS w w.heap.size A' (Wig.sm l (s0, s1)) by rw [HSM.out, hA']; exact hr.part (by omega))
    have HA := Lib.hid hA'
    have HE := Lib.hid hs
    have b1 : m ≤ 10000 := by omega
    clear hr hn hc ho he hbx hB1 hsz hf hg hfg hgn hm2 hcf hA' hs
    go_enter Try.func19, Try.ntmps19
    go_wp2_with fail
    rw [← hw1]
    clear hw1
    go_wp2_with fail
    refine (CE.out _).mono ?_
    rintro e w2 ⟨rfl, hb2⟩
    have X2 := Lib.hid (HX.out.below hb2 (by have := HS.out; omega))
    have B2 := Lib.hid hb2
    have m0 := X2.out.c0
    have m1 := X2.out.c1
    clear hb2 k0 k1
    go_wp2_with fail
    refine (CM.out _ (HB1.out.trans (B2.out.mono (by have := HS.out; omega)))).mono ?_
    rintro e w3 ⟨rfl, hb3⟩
    have B3 := Lib.hid (B2.out.trans (hb3.mono B2.out.size))
    clear hb3 m0 m1
    go_wp2_with (refine wpList_run rfl (run_sl_lh rfl rfl rfl rfl HG.out.2.2.1 (by have := HG.out; have := HC.out; omega) m cf HG.out.2.2.2.2.1 HG.out.2.2.2.2.2) ?_; rw [← HA.out])
    go_loopw [7, 25] (fun v i wr => CuRel l (s0, s1) w1 v i wr) (fun _ i _ => m - (intOf i).toNat)
    case atStart => exact ⟨0, Nat.zero_le _, World.ownsRow_nil _ _ _ _, rfl, B3.out⟩
    case round =>
      obtain ⟨k, hk, hown, rfl, hbel⟩ := hrel
      rw [← HML.out] at hk
      have KB := Lib.hid hbel
      have KO := Lib.hid hown
      have HLE := Lib.hid (piece_le (s0, s1) (Wig.sm l (s0, s1)) k)
      have XR := Lib.hid (HX.out.below hbel (by have := HS.out; omega))
      have hlt2 : w.heap.size < wr.heap.size := by have := HS.out; have := hbel.size; omega
      have KL := Lib.hid hlt2
      by_cases hlt : k < m
      · obtain ⟨⟨p0, p1⟩, hp⟩ : ∃ p, (Wig.sm l (s0, s1))[k]? = some p := ⟨_, List.getElem?_eq_getElem (by have := HML.out; omega)⟩
        obtain ⟨b, off, e, _, c0, c1⟩ := (HRM.out.below (HB1.out.trans (hbel.mono (by have := HS.out; omega)))).at_ hp
        simp only [] at c0 c1
        have i0 : (0 : Int) ≤ (k : Int) := by omega
        have i1 : (k : Int) < (m : Int) := by omega
        obtain ⟨wb, hwb⟩ : ∃ wb, wb = wr.alloc (.cells #[.int .u64 (p0 : Int), .int .u64 (p1 : Int)] 25) := ⟨_, rfl⟩
        have hbB : Below wr.heap.size wr wb := by rw [hwb]; exact (Below.refl _ _).alloc (Nat.le_refl _) _
        have hXb := XR.out.below hbB hlt2
        have q0 := XR.out.c0
        have q1 := XR.out.c1
        have r0 : wb.cell? ⟨wr.heap.size, 0, none⟩ = some (.int .u64 (p0 : Int)) := by rw [hwb]; exact (new_sp wr p0 p1).1
        have r1 : wb.cell? ⟨wr.heap.size, 1, none⟩ = some (.int .u64 (p1 : Int)) := by rw [hwb]; exact (new_sp wr p0 p1).2
        have bsz : wb.heap.size = wr.heap.size + 1 := by rw [hwb]; simp
        have BS := Lib.hid bsz
        have CL := Lib.hid (lay_any u7 _ p0 s0 w1.heap.size wb (by have := HLE.out; rw [← HML.out] at this; omega) (hown.below hbB (Nat.le_refl _)) (by have := hbel.size; omega))
        have HNX := Lib.hid (piece_next (s := (s0, s1)) hp)
        have BB := Lib.hid (hbel.trans (hbB.mono hbel.size))
        have XB := Lib.hid (And.intro hXb r1)
        subst e
        clear hXb hbel hbB hp hown r0 r1 bsz
        go_wp2_with fail
        rw [← hwb]
        clear hwb
        go_wp2_with fail
        refine (CL.out).mono ?_
        rintro e w4 ⟨v4, rfl, hown4, hb4, hk4⟩
        have L4 := Lib.hid (show w4.heap.size ≥ wb.heap.size from hb4.size)
        have B4 := Lib.hid (BB.out.trans hb4)
        have X4 := HX.out.below B4.out (by have := HS.out; omega)
        have q40 := X4.c1
        have q42 : w4.cell? ⟨wr.heap.size, 1, none⟩ = some (.int .u64 (p1 : Int)) := (hk4.cell (by have := BS.out; simp; omega) (fun e => by have := (KO.out.block _ e).2; simp at this)).trans XB.out.2
        have CL2 := Lib.hid (lay_any v4 _ s1 p1 w1.heap.size w4 (by have := HLE.out; rw [← HML.out] at this; have := Wig.lay_len (p0, s0); rw [List.length_append]; omega) hown4 B4.out.size)
        have B4' := Lib.hid B4.out
        clear X4 hown4 q0 q1 hb4 hk4 hlt2 CL
        go_wp2_with fail
        refine (CL2.out).mono ?_
        rintro e w5 ⟨v5, rfl, hown5, hb5, -⟩
        have R1 := Lib.hid (show OwnS w5 w1.heap.size v5 (((Wig.sm l (s0, s1)).take (k + 1)).flatMap (Wig.piece2 (s0, s1))) by rw [HNX.out]; exact hown5)
        have R2 := Lib.hid (B4'.out.trans hb5)
        clear hown5 hb5 q40 q42
        go_wp2_with fail
        go_roundw
        case rel => exact ⟨k + 1, by rw [← HML.out]; omega, R1.out, rfl, R2.out⟩
        case measure => simp [intOf]; omega
      · have hkm : k = m := by omega
        have htk : (Wig.sm l (s0, s1)).take k = Wig.sm l (s0, s1) := by rw [hkm, HML.out, List.take_length]
        rw [htk] at hown
        obtain ⟨Al, cl, hv, hlc, hrl, -⟩ := hown.rd
        obtain ⟨nl, hnl⟩ : ∃ nl, nl = ((Wig.sm l (s0, s1)).flatMap (Wig.piece2 (s0, s1))).length := ⟨_, rfl⟩
        rw [← hnl] at hv
        subst hv
        have hnl2 : nl ≤ 20000 := by have := piece_le (s0, s1) (Wig.sm l (s0, s1)) k; rw [htk, ← hnl] at this; have := HML.out; omega
        have hB0 : Below w.heap.size w wr := HB1.out.trans (hbel.mono (by have := HS.out; omega))
        have RES := Lib.hid (show Wig.scut l (s0, s1) = l.take f ++ (Wig.sm l (s0, s1)).flatMap (Wig.piece2 (s0, s1)) ++ l.drop g by
          rw [Wig.scut_three HO.out HE.out]
          unfold Wig.sa Wig.sb
          rw [← HG.out.1, ← HG.out.2.1])
        obtain ⟨q, hq⟩ : ∃ q, q = n - g := ⟨_, rfl⟩
        obtain ⟨cg, hcg⟩ : ∃ cg, cg = c - g := ⟨_, rfl⟩
        have hRd : RdS wr wr.heap.size A l := (HR.out.below hB0).wide hB0.size
        have hnn := HN.out
        have hcc := HC.out
        have CC := Lib.hid (cat3 wr wr.heap.size (slA A c 0) Al (slA A c g) c cl cg f nl q (l.take f) ((Wig.sm l (s0, s1)).flatMap (Wig.piece2 (s0, s1))) (l.drop g) 22
          rfl (by rw [List.length_take]; have := HG.out; omega) hnl (by rw [List.length_drop]; omega) (by have := HG.out; omega)
          (hRd.upto (by omega)) hrl (hRd.from_ (by omega)))
        have G1 := Lib.hid (show f ≤ c by have := HG.out; omega)
        have G2 := Lib.hid (show g ≤ n ∧ q = n - g ∧ cg = c - g from ⟨HG.out.2.2.2.1, hq, hcg⟩)
        have HB0 := Lib.hid hB0
        clear hown hbel hlt2 htk hRd hnn hcc hq hcg hk hlt hlc hrl hnl hnl2 hB0
        subst hkm
        go_wp2_with fail
        refine wp_region_held_drew (S := (fun w' => Below wr.heap.size wr w')) (by kernel_rfl) ?_ (fun hHeld => ?_)
        · exact (Below.refl _ _).drew
        refine held_take (v := ?vv601) 0 rfl (by kernel_rfl) (by kernel_rfl) (by kernel_rfl) (fun _ _ _ h => h) (by rfl) ?yy601 (by assumption) ?nn601
        case yy601 =>
          intro w hSw
          (try dsimp only at hSw)
          go_simp
          try with_reducible rfl
        try simp only [Act.put, List.setIfInBounds_toArray, List.set_cons_zero, List.set_cons_succ]
        refine held_take (v := ?vv602) 1 rfl (by kernel_rfl) (by kernel_rfl) (by kernel_rfl) (fun _ _ _ h => h) (by rfl) ?yy602 (by assumption) ?nn602
        case yy602 =>
          intro w hSw
          (try dsimp only at hSw)
          go_simp
          try with_reducible rfl
        try simp only [Act.put, List.setIfInBounds_toArray, List.set_cons_zero, List.set_cons_succ]
        refine held_take (v := .slice (slA A c 0) f c) 2 rfl (by kernel_rfl) (by kernel_rfl) (by kernel_rfl) (fun _ _ _ h => h) (by rfl) (fun w hSw => run_sl_h (by rfl) (by rfl) (by rfl) G1.out) (by assumption) ?_
        try simp only [Act.put, List.setIfInBounds_toArray, List.set_cons_zero, List.set_cons_succ]
        refine held_take (v := ?vv604) 3 rfl (by kernel_rfl) (by kernel_rfl) (by kernel_rfl) (fun _ _ _ h => h) (by rfl) ?yy604 (by assumption) ?nn604
        case yy604 =>
          intro w hSw
          (try dsimp only at hSw)
          go_simp
          try with_reducible rfl
        try simp only [Act.put, List.setIfInBounds_toArray, List.set_cons_zero, List.set_cons_succ]
        refine held_take (v := ?vv605) 4 rfl (by kernel_rfl) (by kernel_rfl) (by kernel_rfl) (fun _ _ _ h => h) (by rfl) ?yy605 (by assumption) ?nn605
        case yy605 =>
          intro w hSw
          (try dsimp only at hSw)
          go_simp
          try with_reducible rfl
        try simp only [Act.put, List.setIfInBounds_toArray, List.set_cons_zero, List.set_cons_succ]
        refine held_take (v := ?vv606) 5 rfl (by kernel_rfl) (by kernel_rfl) (by kernel_rfl) (fun _ _ _ h => h) (by rfl) ?yy606 (by assumption) ?nn606
        case yy606 =>
          intro w hSw
          (try dsimp only at hSw)
          go_simp
          try with_reducible rfl
        try simp only [Act.put, List.setIfInBounds_toArray, List.set_cons_zero, List.set_cons_succ]
        refine held_take (v := .slice (slA A c g) q cg) 6 rfl (by kernel_rfl) (by kernel_rfl) (by kernel_rfl) (fun _ _ _ h => h) (by rfl) (fun w hSw => run_sl_l (by rfl) (by rfl) (by rfl) G2.out.1 q cg G2.out.2.1 G2.out.2.2) (by assumption) ?_
        try simp only [Act.put, List.setIfInBounds_toArray, List.set_cons_zero, List.set_cons_succ]
        refine held_do 7 rfl (by kernel_rfl) (by rfl) (fun K hK => ?_)
        go_simp
        refine hK.out _ _ ?_ (fun hHeld => ?_)
        · exact ((Below.refl _ _).alloc (Nat.le_refl _) _).drew
        clear hK K
        try simp only [Act.put, List.setIfInBounds_toArray, List.set_cons_zero, List.set_cons_succ]
        refine held_do 8 rfl (by kernel_rfl) (by rfl) (fun K hK => ?_)
        go_wp2_with (go_at_call 32; refine (CC.out).mono ?_; rintro e w5 ⟨v5, rfl, hown5, hb5⟩; have R1 := Lib.hid (hown5.base_le (base' := w.heap.size) HB0.out.size); have R3 := Lib.hid hb5; have R2 := Lib.hid (HB0.out.trans (R3.out.mono HB0.out.size)); clear hown5 hb5)
        refine hK.out _ _ ?_ (fun hHeld => ?_)
        · exact R3.out
        clear hK K
        try simp only [Act.put, List.setIfInBounds_toArray, List.set_cons_zero, List.set_cons_succ]
        refine held_take (v := ?vv610) 9 rfl (by kernel_rfl) (by kernel_rfl) (by kernel_rfl) (fun _ _ _ h => h) (by rfl) ?yy610 (by assumption) ?nn610
        case yy610 =>
          intro w hSw
          (try dsimp only at hSw)
          go_simp
          try with_reducible rfl
        try simp only [Act.put, List.setIfInBounds_toArray, List.set_cons_zero, List.set_cons_succ]
        refine wpAnyH_done (by kernel_rfl) ?_ _
        go_wp2_with fail
        go_ret
        exact ⟨v5, rfl, by rw [RES.out]; exact R1.out, R2.out⟩
end Go.Proofs.Ytfibbohccaknjaa
