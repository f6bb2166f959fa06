/-
  What the document's Add, Cut and Both of spans return: the same lists. Conditions: the lists read as a set's own spans (Cut: of 64 bits).
-/
import Derived.Test.YtfibbohccaknjaaSpI
namespace Go.Proofs.Ytfibbohccaknjaa
open Go.ChangeShapes Go.WideShapes Go.ChangeAt Go.RowKit Go.Deep
set_option linter.unusedVariables false

/-- Four cells and the world below, from one world to the next. -/
theorem five_sp {w1 w' : World} {b1 o1 b2 o2 x0 x1 y0 y1 : Nat} (h1 : b1 < w1.heap.size) (h2 : b2 < w1.heap.size) (k0 : w1.cell? ⟨b1, o1, none⟩ = some (.int .u64 (x0 : Int))) (k1 : w1.cell? ⟨b1, o1 + 1, none⟩ = some (.int .u64 (x1 : Int)))
    (m0 : w1.cell? ⟨b2, o2, none⟩ = some (.int .u64 (y0 : Int))) (m1 : w1.cell? ⟨b2, o2 + 1, none⟩ = some (.int .u64 (y1 : Int))) (h : Below w1.heap.size w1 w') :
    w'.cell? ⟨b1, o1, none⟩ = some (.int .u64 (x0 : Int)) ∧ w'.cell? ⟨b1, o1 + 1, none⟩ = some (.int .u64 (x1 : Int)) ∧ w'.cell? ⟨b2, o2, none⟩ = some (.int .u64 (y0 : Int)) ∧ w'.cell? ⟨b2, o2 + 1, none⟩ = some (.int .u64 (y1 : Int)) ∧ Below w1.heap.size w1 w' :=
  ⟨(h.cell h1).trans k0, (h.cell h1).trans k1, (h.cell h2).trans m0, (h.cell h2).trans m1, h⟩

def RaRel (l : List Wig.Spn) (s : Wig.Spn) (w1 : World) (vo vd vi : Value) (wr : World) : Prop :=
  ∃ (k : Nat) (o : List Wig.Spn) (d : Bool), k ≤ l.length ∧ Wig.RInv l s k o d ∧ OwnS wr w1.heap.size vo o ∧ vd = .bool d ∧ vi = .int .i64 (k : Int) ∧ Below w1.heap.size w1 wr
set_option maxHeartbeats 4000000 in
theorem radd_any (l : List Wig.Spn) (s0 s1 : Nat) (A : Option Addr) (n c : Nat) (w : World) (hn : n = l.length) (hm : n ≤ 10000) (hr : RdS w w.heap.size A l) (ho : Wig.SOwn l) :
    Calls Try.prog 18 #[.slice A n c, .agg #[.int .u64 (s0 : Int), .int .u64 (s1 : Int)]] w fun e w' => ∃ v, e = .returned v ∧ OwnS w' w.heap.size v (Wig.sadd l (s0, s1)) ∧ Below w.heap.size w w' := by
  obtain ⟨w1, hw1⟩ : ∃ w1, w1 = w.alloc (.cells #[.int .u64 (s0 : Int), .int .u64 (s1 : Int)] 25) := ⟨_, rfl⟩
  have hsz : w1.heap.size = w.heap.size + 1 := by rw [hw1]; simp
  have k0 : w1.cell? ⟨w.heap.size, 0, none⟩ = some (.int .u64 (s0 : Int)) := by rw [hw1]; exact (new_sp w s0 s1).1
  have k1 : w1.cell? ⟨w.heap.size, 1, none⟩ = some (.int .u64 (s1 : Int)) := by rw [hw1]; exact (new_sp w s0 s1).2
  have hB1 : Below w.heap.size w w1 := by rw [hw1]; exact (Below.refl _ _).alloc (Nat.le_refl _) _
  have HB1 := Lib.hid hB1
  have HS := Lib.hid hsz
  have K0 := Lib.hid k0
  have K1 := Lib.hid k1
  have HR := Lib.hid hr
  have HN := Lib.hid hn
  have HM := Lib.hid hm
  have HO := Lib.hid ho
  clear hr hn ho hB1 hsz k0 k1
  go_enter Try.func18, Try.ntmps18
  go_wp2_with fail
  rw [← hw1]
  clear hw1
  go_loopw [5, 6, 7] (fun vo vd vi wr => RaRel l (s0, s1) w1 vo vd vi wr) (fun _ _ i _ => n - (intOf i).toNat)
  case atStart => exact ⟨0, [], false, Nat.zero_le _, Wig.rinv_nil _ _, World.ownsRow_nil _ _ _ _, rfl, rfl, Below.refl _ _⟩
  case round =>
    obtain ⟨k, o, d, hk, hinv, hown, rfl, rfl, hbel⟩ := hrel
    rw [← HN.out] at hk
    have KB := Lib.hid hbel
    have KI := Lib.hid hinv
    have KO := Lib.hid hown
    have HLEN := Lib.hid (show o.length ≤ 30000 by have := hinv.len; omega)
    have XB := Lib.hid (show w.heap.size < wr.heap.size by have := HS.out; have := hbel.size; omega)
    have q0 := (hbel.cell (p := ⟨w.heap.size, 0, none⟩) (by have := HS.out; simp; omega)).trans K0.out
    have q1 := (hbel.cell (p := ⟨w.heap.size, 1, none⟩) (by have := HS.out; simp; omega)).trans K1.out
    by_cases hlt : k < n
    · obtain ⟨⟨p0, p1⟩, hp⟩ : ∃ p, l[k]? = some p := ⟨_, List.getElem?_eq_getElem (by have := HN.out; omega)⟩
      have hrw := HR.out.below (HB1.out.trans (hbel.mono (by have := HS.out; omega)))
      obtain ⟨b, off, rfl, lb, c0, c1⟩ := hrw.at_ hp
      simp only [] at c0 c1
      have i0 : (0 : Int) ≤ (k : Int) := by omega
      have i1 : (k : Int) < (n : Int) := by omega
      have FV := Lib.hid (fun wx (h : Below wr.heap.size wr wx) => five_sp (w' := wx) (by have := XB.out; omega) XB.out c0 c1 q0 q1 h)
      have CJ := Lib.hid (fun v (oo : List Wig.Spn) (x0 x1 : Nat) wx (hh : oo.length ≤ 30001) (hz : w1.heap.size ≤ wx.heap.size) (hoo : OwnS wx w1.heap.size v oo) => joined_any v oo x0 x1 w1.heap.size wx (by omega) hoo hz)
      have SZ := Lib.hid hbel.size
      cases d with
      | true =>
        have NX := Lib.hid (Wig.rinv_skip HO.out hp hinv (.inl rfl))
        clear hp hbel hinv hown hrw
        go_wp2_with fail
        go_quiet (fail)
        go_wp2_with fail
        generalize hw2 : wr.drewN _ = w2
        have B2 := Lib.hid (show Below wr.heap.size wr w2 by rw [← hw2]; exact below_drewN' (Below.refl _ _) _)
        have O2 := Lib.hid (show OwnS w2 w1.heap.size u5 o by rw [← hw2]; exact KO.out)
        clear hw2 q0 q1 c0 c1
        refine (CJ.out _ o p0 p1 w2 (by have := HLEN.out; omega) (Nat.le_trans SZ.out B2.out.size) O2.out).mono ?_
        rintro e w3 ⟨v3, rfl, hown3, hb3⟩
        have R1 := Lib.hid hown3
        have R2 := Lib.hid (KB.out.trans ((B2.out.trans (hb3.mono B2.out.size)).mono SZ.out))
        clear hown3 hb3
        go_wp2_with fail
        go_roundw
        case rel => exact ⟨k + 1, _, true, by have := HN.out; omega, NX.out, R1.out, rfl, rfl, R2.out⟩
        case measure => simp [intOf]; omega
      | false =>
        by_cases hs : s0 ≤ p0
        · have ds : decide (s0 ≤ p0) = true := decide_eq_true hs
          have NX := Lib.hid (Wig.rinv_join HO.out hp hinv hs)
          have HJL := Lib.hid (Wig.rjoin_len o (s0, s1))
          clear hp hbel hinv hown hrw hs
          go_wp2_with fail
          go_quiet (fail)
          go_wp2_with fail
          generalize hw2 : wr.drewN _ = w2
          have B2 := Lib.hid (show Below wr.heap.size wr w2 by rw [← hw2]; exact below_drewN' (Below.refl _ _) _)
          have O2 := Lib.hid (show OwnS w2 w1.heap.size u5 o by rw [← hw2]; exact KO.out)
          clear hw2 q0 q1 c0 c1
          refine (CJ.out _ o s0 s1 w2 (by have := HLEN.out; omega) (Nat.le_trans SZ.out B2.out.size) O2.out).mono ?_
          rintro e w3 ⟨v3, rfl, hown3, hb3⟩
          have B3 := Lib.hid (B2.out.trans (hb3.mono B2.out.size))
          have O3 := Lib.hid hown3
          obtain ⟨c0, c1, q0, q1, -⟩ := FV.out w3 B3.out
          clear hown3 hb3
          go_wp2_with fail
          refine (CJ.out _ _ p0 p1 w3 (by have := HLEN.out; have := HJL.out; omega) (Nat.le_trans SZ.out B3.out.size) O3.out).mono ?_
          rintro e w4 ⟨v4, rfl, hown4, hb4⟩
          have R1 := Lib.hid hown4
          have R2 := Lib.hid (KB.out.trans ((B3.out.trans (hb4.mono B3.out.size)).mono SZ.out))
          clear hown4 hb4 c0 c1 q0 q1
          go_wp2_with fail
          go_roundw
          case rel => exact ⟨k + 1, _, true, by have := HN.out; omega, NX.out, R1.out, rfl, rfl, R2.out⟩
          case measure => simp [intOf]; omega
        · have ds : decide (s0 ≤ p0) = false := decide_eq_false hs
          have NX := Lib.hid (Wig.rinv_skip HO.out hp hinv (.inr (by simp only; omega)))
          clear hp hbel hinv hown hrw hs
          go_wp2_with fail
          go_quiet (fail)
          go_wp2_with fail
          generalize hw2 : wr.drewN _ = w2
          have B2 := Lib.hid (show Below wr.heap.size wr w2 by rw [← hw2]; exact below_drewN' (Below.refl _ _) _)
          have O2 := Lib.hid (show OwnS w2 w1.heap.size u5 o by rw [← hw2]; exact KO.out)
          clear hw2 q0 q1 c0 c1
          refine (CJ.out _ o p0 p1 w2 (by have := HLEN.out; omega) (Nat.le_trans SZ.out B2.out.size) O2.out).mono ?_
          rintro e w3 ⟨v3, rfl, hown3, hb3⟩
          have R1 := Lib.hid hown3
          have R2 := Lib.hid (KB.out.trans ((B2.out.trans (hb3.mono B2.out.size)).mono SZ.out))
          clear hown3 hb3
          go_wp2_with fail
          go_roundw
          case rel => exact ⟨k + 1, _, false, by have := HN.out; omega, NX.out, R1.out, rfl, rfl, R2.out⟩
          case measure => simp [intOf]; omega
    · have hkn : k = n := by omega
      have BW := Lib.hid (show Below w.heap.size w wr from HB1.out.trans (hbel.mono (by have := HS.out; omega)))
      have SZ1 := Lib.hid (show w.heap.size ≤ w1.heap.size by have := HS.out; omega)
      cases d with
      | true =>
        have RES := Lib.hid (Wig.rinv_done HO.out (hkn.trans HN.out) hinv)
        clear hbel hinv hown q0 q1 hk
        subst hkn
        go_wp2_with fail
        go_ret
        exact ⟨_, rfl, by rw [← RES.out]; exact KO.out.base_le SZ1.out, BW.out⟩
      | false =>
        have RES := Lib.hid (Wig.rinv_end HO.out (hkn.trans HN.out) hinv)
        have CJ := Lib.hid (joined_any u5 o s0 s1 w1.heap.size wr (by have := HLEN.out; omega) hown hbel.size)
        clear hbel hinv hown hk
        subst hkn
        go_wp2_with fail
        refine (CJ.out).mono ?_
        rintro e w3 ⟨v3, rfl, hown3, hb3⟩
        have R1 := Lib.hid (show OwnS w3 w.heap.size v3 (Wig.sadd l (s0, s1)) by rw [← RES.out]; exact hown3.base_le SZ1.out)
        have R2 := Lib.hid (BW.out.trans (hb3.mono BW.out.size))
        clear hown3 hb3 q0 q1
        go_wp2_with fail
        go_ret
        exact ⟨_, rfl, R1.out, R2.out⟩

def RuRel (l : List Wig.Spn) (s : Wig.Spn) (w1 : World) (vo vi : Value) (wr : World) : Prop :=
  ∃ k : Nat, k ≤ l.length ∧ OwnS wr w1.heap.size vo ((l.take k).flatMap (Wig.piece s)) ∧ vi = .int .i64 (k : Int) ∧ Below w1.heap.size w1 wr
set_option maxHeartbeats 8000000 in
theorem rcut_any (l : List Wig.Spn) (s0 s1 : Nat) (A : Option Addr) (n c : Nat) (w : World) (hn : n = l.length) (hm : n ≤ 10000) (hr : RdS w w.heap.size A l) (ho : Wig.SOwn l) (hf : Wig.SFits l) :
    Calls Try.prog 20 #[.slice A n c, .agg #[.int .u64 (s0 : Int), .int .u64 (s1 : Int)]] w fun e w' => ∃ v, e = .returned v ∧ OwnS w' w.heap.size v (Wig.scut l (s0, s1)) ∧ Below w.heap.size w w' := by
  obtain ⟨w1, hw1⟩ : ∃ w1, w1 = w.alloc (.cells #[.int .u64 (s0 : Int), .int .u64 (s1 : Int)] 25) := ⟨_, rfl⟩
  have hsz : w1.heap.size = w.heap.size + 1 := by rw [hw1]; simp
  have k0 : w1.cell? ⟨w.heap.size, 0, none⟩ = some (.int .u64 (s0 : Int)) := by rw [hw1]; exact (new_sp w s0 s1).1
  have k1 : w1.cell? ⟨w.heap.size, 1, none⟩ = some (.int .u64 (s1 : Int)) := by rw [hw1]; exact (new_sp w s0 s1).2
  have hB1 : Below w.heap.size w w1 := by rw [hw1]; exact (Below.refl _ _).alloc (Nat.le_refl _) _
  have HB1 := Lib.hid hB1
  have HS := Lib.hid hsz
  have K0 := Lib.hid k0
  have K1 := Lib.hid k1
  have HR := Lib.hid hr
  have HN := Lib.hid hn
  have HM := Lib.hid hm
  have HO := Lib.hid ho
  have HF := Lib.hid hf
  by_cases he : s1 ≤ s0
  · have de : decide (s1 ≤ s0) = true := decide_eq_true he
    have R := Lib.hid (show Wig.scut l (s0, s1) = l by unfold Wig.scut; rw [if_pos he])
    have BE := Lib.hid (show Below w1.heap.size w1 (w1.alloc (.cells #[] 25)) from (Below.refl _ _).alloc (Nat.le_refl _) _)
    have RL := Lib.hid (((hr.below (hB1.trans (BE.out.mono (by omega)))).wide (B' := (w1.alloc (.cells #[] 25)).heap.size) (by have := BE.out.size; omega)))
    have OL := Lib.hid (show OwnS (w1.alloc (.cells #[] 25)) (w.heap.size + 1) (.slice (some ⟨w.heap.size + 1, 0, none⟩) 0 0) [] by have h := own_lit0 w1; rw [hsz] at h; exact h)
    have KW := Lib.hid hw1
    clear hr hn ho hf hB1 hsz he hw1
    go_enter Try.func20, Try.ntmps20
    go_wp2_with (at_builtin; rw [← KW.out]; refine wpList_append_spans rfl _ _ rfl (w.heap.size + 1) _ [] l rfl OL.out _ A c n HN.out.symm rfl RL.out (by have := HM.out; simp; omega) (by have := HS.out; have := BE.out.size; omega) ?_)
    intro v3 w3 hown3 hg3
    have hown3 : OwnS w3 (w.heap.size + 1) v3 l := hown3
    have R1 := Lib.hid (hown3.base_le (base' := w.heap.size) (by omega))
    have R2 := Lib.hid (HB1.out.trans ((BE.out.grown hg3 BE.out.size (fun q hq => by simp [Value.ownBlock] at hq; have := HS.out; omega)).mono (by have := HS.out; omega)))
    clear hown3 hg3 k0 k1
    go_wp2_with fail
    go_ret
    exact ⟨_, rfl, by rw [R.out]; exact R1.out, R2.out⟩
  · have de : decide (s1 ≤ s0) = false := decide_eq_false he
    have HE := Lib.hid (show s0 < s1 by omega)
    clear hr hn ho hf hB1 hsz he
    go_enter Try.func20, Try.ntmps20
    go_wp2_with fail
    rw [← hw1]
    clear hw1
    go_wp2_with fail
    clear k0 k1
    go_loopw [5, 6] (fun vo vi wr => RuRel l (s0, s1) w1 vo vi wr) (fun _ i _ => n - (intOf i).toNat)
    case atStart => exact ⟨0, Nat.zero_le _, World.ownsRow_nil _ _ _ _, rfl, Below.refl _ _⟩
    case round =>
      obtain ⟨k, hk, hown, rfl, hbel⟩ := hrel
      rw [← HN.out] at hk
      have KB := Lib.hid hbel
      have KO := Lib.hid hown
      have HLEN := Lib.hid (Wig.rcut_len l (s0, s1) k)
      have XB := Lib.hid (show w.heap.size < wr.heap.size by have := HS.out; have := hbel.size; omega)
      have q0 := (hbel.cell (p := ⟨w.heap.size, 0, none⟩) (by have := HS.out; simp; omega)).trans K0.out
      have q1 := (hbel.cell (p := ⟨w.heap.size, 1, none⟩) (by have := HS.out; simp; omega)).trans K1.out
      have SZ := Lib.hid hbel.size
      by_cases hlt : k < n
      · obtain ⟨⟨p0, p1⟩, hp⟩ : ∃ p, l[k]? = some p := ⟨_, List.getElem?_eq_getElem (by have := HN.out; omega)⟩
        have hrw := HR.out.below (HB1.out.trans (hbel.mono (by have := HS.out; omega)))
        obtain ⟨b, off, rfl, lb, c0, c1⟩ := hrw.at_ hp
        simp only [] at c0 c1
        have i0 : (0 : Int) ≤ (k : Int) := by omega
        have i1 : (k : Int) < (n : Int) := by omega
        have FV := Lib.hid (fun wx (h : Below wr.heap.size wr wx) => five_sp (w' := wx) (by have := XB.out; omega) XB.out c0 c1 q0 q1 h)
        obtain ⟨y1, hy1⟩ : ∃ y1, y1 = min p1 s0 := ⟨_, rfl⟩
        obtain ⟨z0, hz0⟩ : ∃ z0, z0 = max p0 s1 := ⟨_, rfl⟩
        have hp2 := (HF.out _ (List.mem_of_getElem? hp)).2
        simp only at hp2
        have CM1 := Lib.hid (fun wx => (show Calls Try.prog 35 #[.agg #[.int .u64 (p0 : Int), .int .u64 (p1 : Int)], .agg #[.int .u64 0, .int .u64 (s0 : Int)]] wx fun e w' => e = .returned (.agg #[.int .u64 (p0 : Int), .int .u64 (y1 : Int)]) ∧ Below wx.heap.size wx w' from meet_any p0 p1 0 s0 p0 y1 wx (by omega) hy1.symm))
        have CM2 := Lib.hid (fun wx => (show Calls Try.prog 35 #[.agg #[.int .u64 (p0 : Int), .int .u64 (p1 : Int)], .agg #[.int .u64 (s1 : Int), .int .u64 18446744073709551615]] wx fun e w' => e = .returned (.agg #[.int .u64 (z0 : Int), .int .u64 (p1 : Int)]) ∧ Below wx.heap.size wx w' from meet_any p0 p1 s1 18446744073709551615 z0 p1 wx hz0.symm (by omega)))
        obtain ⟨o, hoe⟩ : ∃ o, o = (l.take k).flatMap (Wig.piece (s0, s1)) := ⟨_, rfl⟩
        have NX := Lib.hid (show Wig.rjoin (Wig.rjoin o (p0, y1)) (z0, p1) = (l.take (k + 1)).flatMap (Wig.piece (s0, s1)) by
          have h := Wig.rcut_step (s := (s0, s1)) HO.out HF.out HE.out hp
          rw [← hoe] at h
          have e1 : Wig.smeet (p0, p1) (0, s0) = (p0, y1) := by unfold Wig.smeet; simp only; rw [hy1, show max p0 0 = p0 by omega]
          have e2 : Wig.smeet (p0, p1) (s1, 18446744073709551615) = (z0, p1) := by unfold Wig.smeet; simp only; rw [hz0, show min p1 18446744073709551615 = p1 by omega]
          rw [e1, e2] at h
          exact h)
        have OL := Lib.hid (show o.length ≤ 20000 by have := HLEN.out; rw [hoe]; have := HM.out; have := HN.out; omega)
        have HJL := Lib.hid (Wig.rjoin_len o (p0, y1))
        have KO2 := Lib.hid (show OwnS wr w1.heap.size u5 o by rw [hoe]; exact hown)
        have CJ1 := Lib.hid (fun wx (h : Below wr.heap.size wr wx) => joined_any u5 o p0 y1 w1.heap.size wx (by have := OL.out; omega) (KO2.out.below h (Nat.le_refl _)) (Nat.le_trans SZ.out h.size))
        clear hp hbel hown hrw hy1 hz0 hp2 hoe
        go_wp2_with fail
        refine wp_region_held_drew (S := (fun w' => w'.cell? ⟨b, off + k * 2, none⟩ = some (.int .u64 (p0 : Int)) ∧ w'.cell? ⟨b, off + k * 2 + 1, none⟩ = some (.int .u64 (p1 : Int)) ∧ w'.cell? ⟨w.heap.size, 0, none⟩ = some (.int .u64 (s0 : Int)) ∧ w'.cell? ⟨w.heap.size, 1, none⟩ = some (.int .u64 (s1 : Int)) ∧ Below wr.heap.size wr w')) (by kernel_rfl) ?_ (fun hHeld => ?_)
        · exact FV.out _ (Below.refl _ _).drew
        refine held_take (v := ?vv1101) 0 rfl (by kernel_rfl) (by kernel_rfl) (by kernel_rfl) (fun _ _ _ h => h) (by rfl) ?yy1101 (by assumption) ?nn1101
        case yy1101 =>
          intro w hSw
          (try dsimp only at hSw)
          go_simp
          try with_reducible rfl
        try simp only [Act.put, List.setIfInBounds_toArray, List.set_cons_zero, List.set_cons_succ]
        refine held_take (v := ?vv1102) 1 rfl (by kernel_rfl) (by kernel_rfl) (by kernel_rfl) (fun _ _ _ h => h) (by rfl) ?yy1102 (by assumption) ?nn1102
        case yy1102 =>
          intro w hSw
          (try dsimp only at hSw)
          go_simp
          try with_reducible rfl
        try simp only [Act.put, List.setIfInBounds_toArray, List.set_cons_zero, List.set_cons_succ]
        refine held_take (v := ?vv1103) 2 rfl (by kernel_rfl) (by kernel_rfl) (by kernel_rfl) (fun _ _ _ h => h) (by rfl) ?yy1103 (by assumption) ?nn1103
        case yy1103 =>
          intro w hSw
          (try dsimp only at hSw)
          go_simp
          try with_reducible rfl
        try simp only [Act.put, List.setIfInBounds_toArray, List.set_cons_zero, List.set_cons_succ]
        refine held_take (v := ?vv1104) 3 rfl (by kernel_rfl) (by kernel_rfl) (by kernel_rfl) (fun _ _ _ h => h) (by rfl) ?yy1104 (by assumption) ?nn1104
        case yy1104 =>
          intro w hSw
          (try dsimp only at hSw)
          go_simp
          try with_reducible rfl
        try simp only [Act.put, List.setIfInBounds_toArray, List.set_cons_zero, List.set_cons_succ]
        refine held_take (v := ?vv1105) 4 rfl (by kernel_rfl) (by kernel_rfl) (by kernel_rfl) (fun _ _ _ h => h) (by rfl) ?yy1105 (by assumption) ?nn1105
        case yy1105 =>
          intro w hSw
          (try dsimp only at hSw)
          go_simp
          try with_reducible rfl
        try simp only [Act.put, List.setIfInBounds_toArray, List.set_cons_zero, List.set_cons_succ]
        refine held_take (v := ?vv1106) 5 rfl (by kernel_rfl) (by kernel_rfl) (by kernel_rfl) (fun _ _ _ h => h) (by rfl) ?yy1106 (by assumption) ?nn1106
        case yy1106 =>
          intro w hSw
          (try dsimp only at hSw)
          go_simp
          try with_reducible rfl
        try simp only [Act.put, List.setIfInBounds_toArray, List.set_cons_zero, List.set_cons_succ]
        refine held_take (v := ?vv1107) 6 rfl (by kernel_rfl) (by kernel_rfl) (by kernel_rfl) (fun _ _ _ h => h) (by rfl) ?yy1107 (by assumption) ?nn1107
        case yy1107 =>
          intro w hSw
          (try dsimp only at hSw)
          go_simp
          try with_reducible rfl
        try simp only [Act.put, List.setIfInBounds_toArray, List.set_cons_zero, List.set_cons_succ]
        refine held_take (v := ?vv1108) 7 rfl (by kernel_rfl) (by kernel_rfl) (by kernel_rfl) (fun _ _ _ h => h) (by rfl) ?yy1108 (by assumption) ?nn1108
        case yy1108 =>
          intro w hSw
          (try dsimp only at hSw)
          go_simp
          try with_reducible rfl
        try simp only [Act.put, List.setIfInBounds_toArray, List.set_cons_zero, List.set_cons_succ]
        refine held_do 8 rfl (by kernel_rfl) (by rfl) (fun K hK => ?_)
        go_wp2_with (go_at_call 35; refine (CM1.out _).mono ?_; rintro e w5 ⟨rfl, hb5⟩; have R5 := Lib.hid ((hHeld.2.2.2.2).trans (hb5.mono (hHeld.2.2.2.2).size)); clear hb5)
        refine hK.out _ _ ?_ (fun hHeld => ?_)
        · exact FV.out _ R5.out
        clear hK K
        try simp only [Act.put, List.setIfInBounds_toArray, List.set_cons_zero, List.set_cons_succ]
        refine held_do 9 rfl (by kernel_rfl) (by rfl) (fun K hK => ?_)
        go_wp2_with (go_at_call 33; refine (CJ1.out _ R5.out).mono ?_; rintro e w6 ⟨v6, rfl, hown6, hb6⟩; have R6 := Lib.hid (And.intro hown6 (R5.out.trans (hb6.mono R5.out.size))); clear hown6 hb6)
        refine hK.out _ _ ?_ (fun hHeld => ?_)
        · exact FV.out _ R6.out.2
        clear hK K
        try simp only [Act.put, List.setIfInBounds_toArray, List.set_cons_zero, List.set_cons_succ]
        refine held_take (v := ?vv1111) 10 rfl (by kernel_rfl) (by kernel_rfl) (by kernel_rfl) (fun _ _ _ h => h) (by rfl) ?yy1111 (by assumption) ?nn1111
        case yy1111 =>
          intro w hSw
          (try dsimp only at hSw)
          go_simp
          try with_reducible rfl
        try simp only [Act.put, List.setIfInBounds_toArray, List.set_cons_zero, List.set_cons_succ]
        refine wpAnyH_done (by kernel_rfl) ?_ _
        obtain ⟨h6a, h6b⟩ := R6.out
        obtain ⟨c0, c1, q0, q1, -⟩ := FV.out _ h6b
        have FV2 := Lib.hid (fun wx (h : Below w6.heap.size w6 wx) => five_sp (w' := wx) (by have := XB.out; have := h6b.size; omega) (by have := XB.out; have := h6b.size; omega) c0 c1 q0 q1 h)
        have CJ2 := Lib.hid (fun wx (h : Below w6.heap.size w6 wx) => joined_any v6 _ z0 p1 w1.heap.size wx (by have := OL.out; have := HJL.out; omega) (h6a.below h (Nat.le_refl _)) (Nat.le_trans SZ.out (Nat.le_trans h6b.size h.size)))
        have B6 := Lib.hid h6b
        clear h6a h6b R5 R6
        go_wp2_with fail
        refine wp_region_held_drew (S := (fun w' => w'.cell? ⟨b, off + k * 2, none⟩ = some (.int .u64 (p0 : Int)) ∧ w'.cell? ⟨b, off + k * 2 + 1, none⟩ = some (.int .u64 (p1 : Int)) ∧ w'.cell? ⟨w.heap.size, 0, none⟩ = some (.int .u64 (s0 : Int)) ∧ w'.cell? ⟨w.heap.size, 1, none⟩ = some (.int .u64 (s1 : Int)) ∧ Below w6.heap.size w6 w')) (by kernel_rfl) ?_ (fun hHeld => ?_)
        · exact FV2.out _ (Below.refl _ _).drew
        refine held_take (v := ?vv1113) 0 rfl (by kernel_rfl) (by kernel_rfl) (by kernel_rfl) (fun _ _ _ h => h) (by rfl) ?yy1113 (by assumption) ?nn1113
        case yy1113 =>
          intro w hSw
          (try dsimp only at hSw)
          go_simp
          try with_reducible rfl
        try simp only [Act.put, List.setIfInBounds_toArray, List.set_cons_zero, List.set_cons_succ]
        refine held_take (v := ?vv1114) 1 rfl (by kernel_rfl) (by kernel_rfl) (by kernel_rfl) (fun _ _ _ h => h) (by rfl) ?yy1114 (by assumption) ?nn1114
        case yy1114 =>
          intro w hSw
          (try dsimp only at hSw)
          go_simp
          try with_reducible rfl
        try simp only [Act.put, List.setIfInBounds_toArray, List.set_cons_zero, List.set_cons_succ]
        refine held_take (v := ?vv1115) 2 rfl (by kernel_rfl) (by kernel_rfl) (by kernel_rfl) (fun _ _ _ h => h) (by rfl) ?yy1115 (by assumption) ?nn1115
        case yy1115 =>
          intro w hSw
          (try dsimp only at hSw)
          go_simp
          try with_reducible rfl
        try simp only [Act.put, List.setIfInBounds_toArray, List.set_cons_zero, List.set_cons_succ]
        refine held_take (v := ?vv1116) 3 rfl (by kernel_rfl) (by kernel_rfl) (by kernel_rfl) (fun _ _ _ h => h) (by rfl) ?yy1116 (by assumption) ?nn1116
        case yy1116 =>
          intro w hSw
          (try dsimp only at hSw)
          go_simp
          try with_reducible rfl
        try simp only [Act.put, List.setIfInBounds_toArray, List.set_cons_zero, List.set_cons_succ]
        refine held_take (v := ?vv1117) 4 rfl (by kernel_rfl) (by kernel_rfl) (by kernel_rfl) (fun _ _ _ h => h) (by rfl) ?yy1117 (by assumption) ?nn1117
        case yy1117 =>
          intro w hSw
          (try dsimp only at hSw)
          go_simp
          try with_reducible rfl
        try simp only [Act.put, List.setIfInBounds_toArray, List.set_cons_zero, List.set_cons_succ]
        refine held_take (v := ?vv1118) 5 rfl (by kernel_rfl) (by kernel_rfl) (by kernel_rfl) (fun _ _ _ h => h) (by rfl) ?yy1118 (by assumption) ?nn1118
        case yy1118 =>
          intro w hSw
          (try dsimp only at hSw)
          go_simp
          try with_reducible rfl
        try simp only [Act.put, List.setIfInBounds_toArray, List.set_cons_zero, List.set_cons_succ]
        refine held_take (v := ?vv1119) 6 rfl (by kernel_rfl) (by kernel_rfl) (by kernel_rfl) (fun _ _ _ h => h) (by rfl) ?yy1119 (by assumption) ?nn1119
        case yy1119 =>
          intro w hSw
          (try dsimp only at hSw)
          go_simp
          try with_reducible rfl
        try simp only [Act.put, List.setIfInBounds_toArray, List.set_cons_zero, List.set_cons_succ]
        refine held_take (v := ?vv1120) 7 rfl (by kernel_rfl) (by kernel_rfl) (by kernel_rfl) (fun _ _ _ h => h) (by rfl) ?yy1120 (by assumption) ?nn1120
        case yy1120 =>
          intro w hSw
          (try dsimp only at hSw)
          go_simp
          try with_reducible rfl
        try simp only [Act.put, List.setIfInBounds_toArray, List.set_cons_zero, List.set_cons_succ]
        refine held_do 8 rfl (by kernel_rfl) (by rfl) (fun K hK => ?_)
        go_wp2_with (go_at_call 35; refine (CM2.out _).mono ?_; rintro e w5' ⟨rfl, hb5⟩; have R5' := Lib.hid ((hHeld.2.2.2.2).trans (hb5.mono (hHeld.2.2.2.2).size)); clear hb5)
        refine hK.out _ _ ?_ (fun hHeld => ?_)
        · exact FV2.out _ R5'.out
        clear hK K
        try simp only [Act.put, List.setIfInBounds_toArray, List.set_cons_zero, List.set_cons_succ]
        refine held_do 9 rfl (by kernel_rfl) (by rfl) (fun K hK => ?_)
        go_wp2_with (go_at_call 33; refine (CJ2.out _ R5'.out).mono ?_; rintro e w6' ⟨v6', rfl, hown6, hb6⟩; have R6' := Lib.hid (And.intro hown6 (R5'.out.trans (hb6.mono R5'.out.size))); clear hown6 hb6)
        refine hK.out _ _ ?_ (fun hHeld => ?_)
        · exact FV2.out _ R6'.out.2
        clear hK K
        try simp only [Act.put, List.setIfInBounds_toArray, List.set_cons_zero, List.set_cons_succ]
        refine held_take (v := ?vv1123) 10 rfl (by kernel_rfl) (by kernel_rfl) (by kernel_rfl) (fun _ _ _ h => h) (by rfl) ?yy1123 (by assumption) ?nn1123
        case yy1123 =>
          intro w hSw
          (try dsimp only at hSw)
          go_simp
          try with_reducible rfl
        try simp only [Act.put, List.setIfInBounds_toArray, List.set_cons_zero, List.set_cons_succ]
        refine wpAnyH_done (by kernel_rfl) ?_ _
        have R1 := Lib.hid (show OwnS w6' w1.heap.size v6' ((l.take (k + 1)).flatMap (Wig.piece (s0, s1))) by rw [← NX.out]; exact R6'.out.1)
        have R2 := Lib.hid (KB.out.trans ((B6.out.trans (R6'.out.2.mono B6.out.size)).mono SZ.out))
        clear R6' R5' c0 c1 q0 q1
        go_wp2_with fail
        go_roundw
        case rel => exact ⟨k + 1, by have := HN.out; omega, R1.out, rfl, R2.out⟩
        case measure => simp [intOf]; omega
      · have hkn : k = n := by omega
        have R1 := Lib.hid (show OwnS wr w.heap.size u5 (Wig.scut l (s0, s1)) by
          have := HE.out
          rw [hkn, HN.out, List.take_length] at hown
          unfold Wig.scut
          rw [if_neg (by simp only; omega)]
          exact hown.base_le (by have := HS.out; omega))
        have R2 := Lib.hid (show Below w.heap.size w wr from HB1.out.trans (hbel.mono (by have := HS.out; omega)))
        clear hbel hown q0 q1 hk
        subst hkn
        go_wp2_with fail
        go_ret
        exact ⟨_, rfl, R1.out, R2.out⟩
end Go.Proofs.Ytfibbohccaknjaa
