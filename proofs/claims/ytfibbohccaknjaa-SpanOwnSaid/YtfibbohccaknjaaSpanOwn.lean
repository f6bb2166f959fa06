/-
  SpanOwn: any set of at most fifty spans of its own that is given stays as it was, whatever is done to answers. No condition.
-/
import Derived.Test.YtfibbohccaknjaaSpW
namespace Go.Proofs.Ytfibbohccaknjaa.spanOwn
open Go.ChangeShapes Go.WideShapes Go.ChangeAt Go.RowKit Go.Deep
set_option linter.unusedVariables false

theorem grown_trans {a b c : World} {row : Option Nat} (h : a.grownBy b row) (k : b.grownBy c row) : a.grownBy c row :=
  ⟨k.os.trans h.os, k.tape.trans h.tape, k.output.trans h.output, Nat.le_trans h.size k.size, fun i hi hr => (k.block i (Nat.lt_of_lt_of_le hi h.size) hr).trans (h.block i hi hr)⟩
theorem flat_put (l : List Wig.Spn) (k : Nat) (p : Wig.Spn) (x : Nat) (h : l[k]? = some p) : (flat l).set (k * 2) (.int .u64 (x : Int)) = flat (l.set k (x, p.2)) := by
  induction l generalizing k with
  | nil => simp at h
  | cons q l ih =>
    have e : ∀ (r : Wig.Spn) (m : List Wig.Spn), flat (r :: m) = two r ++ flat m := fun r m => by simp [flat]
    cases k with
    | zero =>
      simp at h
      subst h
      rw [List.set_cons_zero, e, e]
      rfl
    | succ k =>
      have h' : l[k]? = some p := by simpa using h
      have h2 : (two q).length = 2 := rfl
      rw [List.set_cons_succ, e, e, ← ih k h', List.set_append_right _ _ (by rw [h2]; omega), h2, show (k + 1) * 2 - 2 = k * 2 by omega]
/-- At a round's head of a loop that writes to an answer. -/
def StRel (v : Value) (n base : Nat) (w0 : World) (i : Value) (wr : World) : Prop := ∃ (k : Nat) (l : List Wig.Spn), k ≤ n ∧ l.length = n ∧ i = .int .i64 (k : Int) ∧ OwnS wr base v l ∧ w0.grownBy wr v.ownBlock
theorem apart_rows {v v' : Value} {B : Nat} (h : ∀ g, v.ownBlock = some g → g < B) (h' : ∀ g, v'.ownBlock = some g → B ≤ g) : v'.ownBlock = none ∨ v'.ownBlock ≠ v.ownBlock := by
  cases e : v'.ownBlock with
  | none => exact .inl rfl
  | some g =>
    right
    intro h2
    have := h g h2.symm
    have := h' g e
    omega
theorem apart_rows' {v v' : Value} {B : Nat} (h : ∀ g, v.ownBlock = some g → g < B) (h' : ∀ g, v'.ownBlock = some g → B ≤ g) : v.ownBlock = none ∨ v.ownBlock ≠ v'.ownBlock := by
  cases e : v.ownBlock with
  | none => exact .inl rfl
  | some g =>
    right
    intro h2
    have := h g e
    have := h' g h2.symm
    omega
set_option maxHeartbeats 8000000 in
theorem walk (A : Option Addr) (c : Nat) (ss : List Wig.Spn) (s0 s1 : Nat) (k : Int) (hf : Wig.SFits ss) (hl : ss.length ≤ maxLen) (hc : ss.length ≤ c)
    (hs0 : s0 < 18446744073709551616) (hs1 : s1 < 18446744073709551616) (hk0 : -9223372036854775808 ≤ k) (hk1 : k ≤ 9223372036854775807) (w : World) (hr : RdS w w.heap.size A ss) :
    Calls Try.prog 7 #[.slice A ss.length c, .agg #[.int .u64 (s0 : Int), .int .u64 (s1 : Int)], .int .i64 k] w fun e w' => e = .returned (.bool true) ∧ Below w.heap.size w w' := by
  obtain ⟨w1, hw1⟩ : ∃ w1, w1 = w.alloc (.cells #[.int .u64 (s0 : Int), .int .u64 (s1 : Int)] 25) := ⟨_, rfl⟩
  have hB1 : Below w.heap.size w w1 := by rw [hw1]; exact (Below.refl _ _).alloc (Nat.le_refl _) _
  have HX := Lib.hid (show Bx w.heap.size s0 s1 w1 by rw [hw1]; exact Bx.new w s0 s1)
  have LT := Lib.hid (show w.heap.size < w1.heap.size by rw [hw1]; simp)
  have HB1 := Lib.hid hB1
  have B0 := Lib.hid (Below.refl w1.heap.size w1)
  obtain ⟨n, hn⟩ : ∃ n, n = ss.length := ⟨_, rfl⟩
  rw [← hn] at hl hc ⊢
  have RA := Lib.hid ((hr.below hB1).wide hB1.size)
  have C0 := Lib.hid (fun w => awake_any w)
  clear hB1 hr hl hs0 hs1 hf hc
  by_cases h1 : n ≤ 50
  · have CF := Lib.hid (fun A c w => few_any A n c true w (decide_eq_true h1))
    obtain ⟨ra, hra⟩ : ∃ ra, Wig.sown ss = ra := ⟨_, rfl⟩
    have K1 := Lib.hid (fun A c w h => check_any ss ra A n c w hn (by omega) h hra)
    cases ra with
    | false =>
      clear hn hk0 hk1 h1 hra
      go_enter Try.func7, Try.ntmps7
      go_wp2_with fail
      rw [← hw1]
      clear hw1
      refine (C0.out _).mono ?_
      rintro e x415 ⟨rfl, hb⟩
      have RA_416 := Lib.hid (RA.out.step hb)
      have B_416 := Lib.hid (B0.out.trans (hb.mono B0.out.size))
      have X_416 := Lib.hid (HX.out.below hb (by have := LT.out; have := B0.out.size; omega))
      clear hb RA HX B0
      have k0 := X_416.out.c0
      have k1 := X_416.out.c1
      go_wp2_with fail
      clear k0 k1
      refine (CF.out _ _ _).mono ?_
      rintro e _ ⟨rfl, rfl⟩
      have k0 := X_416.out.c0
      have k1 := X_416.out.c1
      go_wp2_with fail
      clear k0 k1
      refine (K1.out _ _ _ RA_416.out).mono ?_
      rintro e x418 ⟨rfl, hb⟩
      have RA_419 := Lib.hid (RA_416.out.step hb)
      have B_419 := Lib.hid (B_416.out.trans (hb.mono B_416.out.size))
      have X_419 := Lib.hid (X_416.out.below hb (by have := LT.out; have := B_416.out.size; omega))
      clear hb RA_416 X_416 B_416
      have k0 := X_419.out.c0
      have k1 := X_419.out.c1
      go_wp2_with fail
      clear k0 k1
      go_ret
      exact ⟨rfl, HB1.out.trans (B_419.out.mono (Nat.le_of_lt LT.out))⟩
    | true =>
      have oa := Wig.sown_iff.1 hra
      obtain ⟨rx, hrx⟩ : ∃ r, r = Wig.sadd ss (s0, s1) := ⟨_, rfl⟩
      obtain ⟨ry, hry⟩ : ∃ r, r = Wig.scut ss (s0, s1) := ⟨_, rfl⟩
      obtain ⟨rz, hrz⟩ : ∃ r, r = Wig.slast ss (Wig.scnt k n) := ⟨_, rfl⟩
      obtain ⟨mx, hmx⟩ : ∃ m, m = rx.length := ⟨_, rfl⟩
      obtain ⟨my, hmy⟩ : ∃ m, m = ry.length := ⟨_, rfl⟩
      obtain ⟨mz, hmz⟩ : ∃ m, m = rz.length := ⟨_, rfl⟩
      have b1 : mx ≤ 51 := by rcases Wig.sadd_len ss (s0, s1) with h | h; (rw [hmx, hrx]; omega); exact absurd oa h
      have b2 : my ≤ 100 := by have := Wig.scut_len ss (s0, s1); rw [hmy, hry]; omega
      have b3 : mz ≤ 50 := by rw [hmz, hrz]; unfold Wig.slast; rw [List.length_drop]; omega
      have D1 := Lib.hid (fun w A c h hc => add_gives ss rx s0 s1 n mx A c w hn hmx.symm (by omega) h oa hc hrx.symm)
      have E1 := Lib.hid (fun w A c h hc => cut_gives ss ry s0 s1 n my A c w hn hmy.symm (by omega) h oa hc hry.symm)
      have L1 := Lib.hid (fun w A c h hc => last_gives ss rz k n mz A c w hk0 hk1 hn hmz.symm (by omega) h hc hrz.symm)
      have S3 := Lib.hid (fun A B c d w h k => same_any ss A B n c d w hn (by omega) h k)
      have HN := Lib.hid hn
      have HM := Lib.hid (show n ≤ 50 from h1)
      have HMX := Lib.hid hmx
      have HMY := Lib.hid hmy
      have HMZ := Lib.hid hmz
      clear hn hk0 hk1 h1 hra oa hrx hry hrz hmx hmy hmz
      go_enter Try.func7, Try.ntmps7
      go_wp2_with fail
      rw [← hw1]
      clear hw1
      refine (C0.out _).mono ?_
      rintro e x420 ⟨rfl, hb⟩
      have RA_421 := Lib.hid (RA.out.step hb)
      have B_421 := Lib.hid (B0.out.trans (hb.mono B0.out.size))
      have X_421 := Lib.hid (HX.out.below hb (by have := LT.out; have := B0.out.size; omega))
      clear hb RA HX B0
      have k0 := X_421.out.c0
      have k1 := X_421.out.c1
      go_wp2_with fail
      clear k0 k1
      refine (CF.out _ _ _).mono ?_
      rintro e _ ⟨rfl, rfl⟩
      have k0 := X_421.out.c0
      have k1 := X_421.out.c1
      go_wp2_with fail
      clear k0 k1
      refine (K1.out _ _ _ RA_421.out).mono ?_
      rintro e x423 ⟨rfl, hb⟩
      have RA_424 := Lib.hid (RA_421.out.step hb)
      have B_424 := Lib.hid (B_421.out.trans (hb.mono B_421.out.size))
      have X_424 := Lib.hid (X_421.out.below hb (by have := LT.out; have := B_421.out.size; omega))
      clear hb RA_421 X_421 B_421
      have BE := Lib.hid (show Below x423.heap.size x423 (x423.alloc (.cells #[] 25)) from (Below.refl _ _).alloc (Nat.le_refl _) _)
      go_wp2_with (at_builtin; refine wpList_append_spans rfl _ _ rfl x423.heap.size _ [] ss rfl (own_lit0 x423) _ A c n HN.out.symm rfl (RA_424.out.step BE.out) (by have := HM.out; simp; omega) BE.out.size ?_)
      intro vm wm hm1 hm2
      have hb : Below x423.heap.size x423 wm := BE.out.grown hm2 BE.out.size (fun q hq => by simp [Value.ownBlock] at hq; omega)
      have hown : OwnS wm x423.heap.size vm ss := hm1
      obtain ⟨Am, cm, hv, hcm, hrm, -⟩ := hown.rd
      rw [← HN.out] at hv hcm
      subst hv
      have RM := Lib.hid hrm
      have HCM := Lib.hid (show n ≤ cm by omega)
      have RA_425 := Lib.hid (RA_424.out.step hb)
      have B_425 := Lib.hid (B_424.out.trans (hb.mono B_424.out.size))
      have X_425 := Lib.hid (X_424.out.below hb (by have := LT.out; have := B_424.out.size; omega))
      have HB5 := Lib.hid (HB1.out.trans (B_425.out.mono (Nat.le_of_lt LT.out)))
      have LT5 := Lib.hid (show w.heap.size < wm.heap.size by have := LT.out; have := B_425.out.size; omega)
      have B5 := Lib.hid (Below.refl wm.heap.size wm)
      clear hb hm1 hm2 hown hrm BE hcm LT RA_424 X_424 B_424
      have LT := Lib.hid LT5.out
      clear LT5
      have RA5 := Lib.hid RA_425.out
      have RM5 := Lib.hid RM.out
      have k0 := X_425.out.c0
      have k1 := X_425.out.c1
      go_wp2_with fail
      clear k0 k1
      refine (D1.out _ _ _ RM.out HCM.out).mono ?_
      rintro e x426 ⟨Ax, cx, rfl, hc, hr, hb, ho⟩
      have BXM := Lib.hid hb.size
      have RA_427 := Lib.hid (RA_425.out.step hb)
      have RM_427 := Lib.hid (RM.out.step hb)
      have B_427 := Lib.hid (B5.out.trans (hb.mono B5.out.size))
      have X_427 := Lib.hid (X_425.out.below hb (by have := LT.out; have := B5.out.size; omega))
      have Rx := Lib.hid hr
      have HCx := Lib.hid hc
      have HOx := Lib.hid ho
      clear hr hc ho
      clear hb RA_425 RM X_425 B5
      have k0 := X_427.out.c0
      have k1 := X_427.out.c1
      go_wp2_with fail
      clear k0 k1
      have WX := Lib.hid (show ∀ q, (Value.slice Ax mx cx).ownBlock = some q → q < x426.heap.size from fun q hq => (HOx.out.block q hq).2)
      refine (E1.out _ _ _ RM_427.out HCM.out).mono ?_
      rintro e x428 ⟨Ay, cy, rfl, hc, hr, hb, ho⟩
      have BXY := Lib.hid hb.size
      have RA_429 := Lib.hid (RA_427.out.step hb)
      have RM_429 := Lib.hid (RM_427.out.step hb)
      have B_429 := Lib.hid (B_427.out.trans (hb.mono B_427.out.size))
      have X_429 := Lib.hid (X_427.out.below hb (by have := LT.out; have := B_427.out.size; omega))
      have OX_429 := Lib.hid (HOx.out.below hb (Nat.le_refl _))
      have Ry := Lib.hid hr
      have HCy := Lib.hid hc
      have HOy := Lib.hid ho
      clear hr hc ho
      clear hb RA_427 RM_427 X_427 B_427 HOx
      have k0 := X_429.out.c0
      have k1 := X_429.out.c1
      go_wp2_with fail
      clear k0 k1
      have WY := Lib.hid (show ∀ q, (Value.slice Ay my cy).ownBlock = some q → x426.heap.size ≤ q ∧ q < x428.heap.size from fun q hq => ⟨(HOy.out.block q hq).1, (HOy.out.block q hq).2⟩)
      refine (L1.out _ _ _ RM_429.out HCM.out).mono ?_
      rintro e x430 ⟨Az, cz, rfl, hc, hr, hb, ho⟩
      have RA_431 := Lib.hid (RA_429.out.step hb)
      have RM_431 := Lib.hid (RM_429.out.step hb)
      have B_431 := Lib.hid (B_429.out.trans (hb.mono B_429.out.size))
      have X_431 := Lib.hid (X_429.out.below hb (by have := LT.out; have := B_429.out.size; omega))
      have OX_431 := Lib.hid (OX_429.out.below hb (Nat.le_refl _))
      have OY_431 := Lib.hid (HOy.out.below hb (Nat.le_refl _))
      have Rz := Lib.hid hr
      have HCz := Lib.hid hc
      have HOz := Lib.hid ho
      clear hr hc ho
      clear hb RA_429 RM_429 X_429 B_429 OX_429 HOy
      have WZ := Lib.hid (show ∀ q, (Value.slice Az mz cz).ownBlock = some q → x428.heap.size ≤ q from fun q hq => (HOz.out.block q hq).1)
      have SZX := Lib.hid (show wm.heap.size ≤ x426.heap.size from BXM.out)
      have SZY := Lib.hid (show x426.heap.size ≤ x428.heap.size from BXY.out)
      have k0 := X_431.out.c0
      have k1 := X_431.out.c1
      go_wp2_with fail
      clear k0 k1
      go_loopw [12] (fun i wr => StRel (.slice Ax mx cx) mx wm.heap.size x430 i wr) (fun i _ => mx - (intOf i).toNat)
      case atStart => exact ⟨0, _, Nat.zero_le _, HMX.out.symm, rfl, OX_431.out, World.grownBy.refl _ _⟩
      case round =>
        obtain ⟨j, l, hj, hl, rfl, hown, hgr⟩ := hrel
        have KO := Lib.hid hown
        have KG := Lib.hid hgr
        have KL := Lib.hid hl
        by_cases hlt : j < mx
        · obtain ⟨⟨p0, p1⟩, hp⟩ : ∃ p, l[j]? = some p := ⟨_, List.getElem?_eq_getElem (by omega)⟩
          obtain ⟨g, cc, hv, hgb, hgl, hgc, hgz⟩ := hown.form (by intro e; rw [e] at hp; simp at hp)
          injection hv with hv1 hv2 hv3
          subst hv1
          obtain ⟨c0, -⟩ := hgc j _ hp
          simp only [] at c0
          have c1 := hgz (j * 2)
          have i0 : (0 : Int) ≤ (j : Int) := by omega
          have i1 : (j : Int) < (mx : Int) := by omega
          have NX := Lib.hid (show OwnS (wr.setCell ⟨g, j * 2, none⟩ (.int .u64 77)) wm.heap.size (.slice (some ⟨g, 0, none⟩) mx cx) (l.set j (77, p1)) from by
            have h := KO.out
            rw [← hl] at h ⊢
            have h2 := (World.ownsRow.stored h (j * 2) (.int .u64 77)).1
            unfold OwnS
            rw [← flat_put l j (p0, p1) 77 hp, List.length_set]
            exact h2)
          have NG := Lib.hid (show x430.grownBy (wr.setCell ⟨g, j * 2, none⟩ (.int .u64 77)) (some g) from grown_trans KG.out (by
            have h := KO.out
            rw [← hl] at h
            exact (World.ownsRow.stored h (j * 2) (.int .u64 77)).2))
          clear hp hown hgr hgb hgl hgc hgz hv2 hv3 hl
          go_wp2_with fail
          go_roundw
          case rel => exact ⟨j + 1, _, by omega, by rw [List.length_set]; exact KL.out, rfl, NX.out, NG.out⟩
          case measure => simp [intOf]; omega
        · have hjn : j = mx := by omega
          have Y1 := Lib.hid (show OwnS wr x426.heap.size (.slice Ay my cy) ry from World.ownsRow.kept OY_431.out hgr (apart_rows WX.out (fun q hq => (WY.out q hq).1)))
          have Z1 := Lib.hid (show OwnS wr x428.heap.size (.slice Az mz cz) rz from World.ownsRow.kept HOz.out hgr (apart_rows (B := x428.heap.size) (fun q hq => Nat.lt_of_lt_of_le (WX.out q hq) SZY.out) WZ.out))
          have BX := Lib.hid (show Below wm.heap.size wm wr from B_431.out.grown hgr B_431.out.size (fun q hq => (OX_431.out.block q hq).1))
          obtain ⟨w7, hw7⟩ : ∃ w7 : World, w7 = wr := ⟨_, rfl⟩
          rw [← hw7] at Y1 Z1 BX ⊢
          clear hown hgr hl hj hlt KO KG KL hw7
          subst hjn
          go_wp2_with fail
          go_loopw [13] (fun i wr => StRel (.slice Ay my cy) my x426.heap.size w7 i wr) (fun i _ => my - (intOf i).toNat)
          case atStart => exact ⟨0, _, Nat.zero_le _, HMY.out.symm, rfl, Y1.out, World.grownBy.refl _ _⟩
          case round =>
            obtain ⟨j, l, hj, hl, rfl, hown, hgr⟩ := hrel
            have KO := Lib.hid hown
            have KG := Lib.hid hgr
            have KL := Lib.hid hl
            by_cases hlt : j < my
            · obtain ⟨⟨p0, p1⟩, hp⟩ : ∃ p, l[j]? = some p := ⟨_, List.getElem?_eq_getElem (by omega)⟩
              obtain ⟨g, cc, hv, hgb, hgl, hgc, hgz⟩ := hown.form (by intro e; rw [e] at hp; simp at hp)
              injection hv with hv1 hv2 hv3
              subst hv1
              obtain ⟨c0, -⟩ := hgc j _ hp
              simp only [] at c0
              have c1 := hgz (j * 2)
              have i0 : (0 : Int) ≤ (j : Int) := by omega
              have i1 : (j : Int) < (my : Int) := by omega
              have NX := Lib.hid (show OwnS (wr.setCell ⟨g, j * 2, none⟩ (.int .u64 77)) x426.heap.size (.slice (some ⟨g, 0, none⟩) my cy) (l.set j (77, p1)) from by
                have h := KO.out
                rw [← hl] at h ⊢
                have h2 := (World.ownsRow.stored h (j * 2) (.int .u64 77)).1
                unfold OwnS
                rw [← flat_put l j (p0, p1) 77 hp, List.length_set]
                exact h2)
              have NG := Lib.hid (show w7.grownBy (wr.setCell ⟨g, j * 2, none⟩ (.int .u64 77)) (some g) from grown_trans KG.out (by
                have h := KO.out
                rw [← hl] at h
                exact (World.ownsRow.stored h (j * 2) (.int .u64 77)).2))
              clear hp hown hgr hgb hgl hgc hgz hv2 hv3 hl
              go_wp2_with fail
              go_roundw
              case rel => exact ⟨j + 1, _, by omega, by rw [List.length_set]; exact KL.out, rfl, NX.out, NG.out⟩
              case measure => simp [intOf]; omega
            · have hjn : j = my := by omega
              have Z2 := Lib.hid (show OwnS wr x428.heap.size (.slice Az mz cz) rz from World.ownsRow.kept Z1.out hgr (apart_rows (B := x428.heap.size) (fun q hq => (WY.out q hq).2) WZ.out))
              have BY := Lib.hid (show Below wm.heap.size wm wr from BX.out.grown hgr BX.out.size (fun q hq => Nat.le_trans SZX.out (WY.out q hq).1))
              obtain ⟨w8, hw8⟩ : ∃ w8 : World, w8 = wr := ⟨_, rfl⟩
              rw [← hw8] at Z2 BY ⊢
              clear hown hgr hl hj hlt KO KG KL hw8
              subst hjn
              go_wp2_with fail
              go_loopw [14] (fun i wr => StRel (.slice Az mz cz) mz x428.heap.size w8 i wr) (fun i _ => mz - (intOf i).toNat)
              case atStart => exact ⟨0, _, Nat.zero_le _, HMZ.out.symm, rfl, Z2.out, World.grownBy.refl _ _⟩
              case round =>
                obtain ⟨j, l, hj, hl, rfl, hown, hgr⟩ := hrel
                have KO := Lib.hid hown
                have KG := Lib.hid hgr
                have KL := Lib.hid hl
                by_cases hlt : j < mz
                · obtain ⟨⟨p0, p1⟩, hp⟩ : ∃ p, l[j]? = some p := ⟨_, List.getElem?_eq_getElem (by omega)⟩
                  obtain ⟨g, cc, hv, hgb, hgl, hgc, hgz⟩ := hown.form (by intro e; rw [e] at hp; simp at hp)
                  injection hv with hv1 hv2 hv3
                  subst hv1
                  obtain ⟨c0, -⟩ := hgc j _ hp
                  simp only [] at c0
                  have c1 := hgz (j * 2)
                  have i0 : (0 : Int) ≤ (j : Int) := by omega
                  have i1 : (j : Int) < (mz : Int) := by omega
                  have NX := Lib.hid (show OwnS (wr.setCell ⟨g, j * 2, none⟩ (.int .u64 77)) x428.heap.size (.slice (some ⟨g, 0, none⟩) mz cz) (l.set j (77, p1)) from by
                    have h := KO.out
                    rw [← hl] at h ⊢
                    have h2 := (World.ownsRow.stored h (j * 2) (.int .u64 77)).1
                    unfold OwnS
                    rw [← flat_put l j (p0, p1) 77 hp, List.length_set]
                    exact h2)
                  have NG := Lib.hid (show w8.grownBy (wr.setCell ⟨g, j * 2, none⟩ (.int .u64 77)) (some g) from grown_trans KG.out (by
                    have h := KO.out
                    rw [← hl] at h
                    exact (World.ownsRow.stored h (j * 2) (.int .u64 77)).2))
                  clear hp hown hgr hgb hgl hgc hgz hv2 hv3 hl
                  go_wp2_with fail
                  go_roundw
                  case rel => exact ⟨j + 1, _, by omega, by rw [List.length_set]; exact KL.out, rfl, NX.out, NG.out⟩
                  case measure => simp [intOf]; omega
                · have hjn : j = mz := by omega
                  have BZ := Lib.hid (show Below wm.heap.size wm wr from BY.out.grown hgr BY.out.size (fun q hq => Nat.le_trans (Nat.le_trans SZX.out SZY.out) (WZ.out q hq)))
                  obtain ⟨w9, hw9⟩ : ∃ w9 : World, w9 = wr := ⟨_, rfl⟩
                  rw [← hw9] at BZ ⊢
                  clear hown hgr hl hj hlt KO KG KL hw9
                  subst hjn
                  go_wp2_with fail
                  refine (S3.out _ _ _ _ _ (RM5.out.step BZ.out) (RA5.out.step BZ.out)).mono ?_
                  rintro e wa ⟨rfl, hb⟩
                  have BB := Lib.hid (BZ.out.trans (hb.mono BZ.out.size))
                  clear hb
                  go_wp2_with fail
                  go_ret
                  exact ⟨rfl, HB5.out.trans (BB.out.mono (Nat.le_of_lt LT.out))⟩
  · have CF := Lib.hid (fun A c w => few_any A n c false w (decide_eq_false h1))
    clear hn hk0 hk1 h1
    go_enter Try.func7, Try.ntmps7
    go_wp2_with fail
    rw [← hw1]
    clear hw1
    refine (C0.out _).mono ?_
    rintro e x432 ⟨rfl, hb⟩
    have RA_433 := Lib.hid (RA.out.step hb)
    have B_433 := Lib.hid (B0.out.trans (hb.mono B0.out.size))
    have X_433 := Lib.hid (HX.out.below hb (by have := LT.out; have := B0.out.size; omega))
    clear hb RA HX B0
    have k0 := X_433.out.c0
    have k1 := X_433.out.c1
    go_wp2_with fail
    clear k0 k1
    refine (CF.out _ _ _).mono ?_
    rintro e _ ⟨rfl, rfl⟩
    have k0 := X_433.out.c0
    have k1 := X_433.out.c1
    go_wp2_with fail
    clear k0 k1
    go_ret
    exact ⟨rfl, HB1.out.trans (B_433.out.mono (Nat.le_of_lt LT.out))⟩

set_option maxRecDepth 100000 in
theorem lifted (os : Os) (started : os.Started) (H : Type) (enc : TypeId × Value → H) :
    ReturnsInHanded {} Try.checked os 7 .any (Rows.spanOwnSpec.pre6 enc Try.prog Try.f7 Rows.spanOwnRow.domain false) (Rows.spanOwnSpec.post enc Try.prog Try.f7 false true false false) := by
  refine returnsInHanded_of_change (C := Try.checked) own started (by kernel_rfl) Try.func7
    (ChangeSpec.witness6 (enc := enc) (C := Try.checked) false ⟨#[], #[.slice none 0 0, .agg #[.int .u64 0, .int .u64 0], .int .i64 0], []⟩ 8 (by kernel_rfl) (by kernel_rfl) (by kernel_rfl) (by kernel_rfl)) ?_
  intro W base args ds gs before hval0 hW hcnd _
  have hval : ∀ (j : Nat) t v, Try.f7.params[j]? = some t → args[j]? = some v → Value.okWide Try.prog W .any base t v := hval0
  have hW' := hW
  obtain ⟨p, q, hA0, hV, rfl, hfz, hnd⟩ := hW
  have hA : DataW.TrodAll enc Try.prog W 0 (fun _ => true) true Try.f7.params.toList args.toList ds p := hA0
  obtain ⟨rfl, rfl⟩ := trodVars_none hV
  simp only [List.append_nil] at hW'
  have hlow : ∀ x ∈ p, x.block < W.heap.size := fun x hx => hW'.lt x hx
  have hA2 := hA
  rw [Try.params7] at hval hA2
  obtain ⟨v0, vs0, d0, ds0, p0, q0, hargs, rfl, rfl, h0, r0⟩ := trodAll_cons hA2
  obtain ⟨v1, vs1, d1, ds1, p1, q1, rfl, rfl, rfl, h1, r1⟩ := trodAll_cons r0
  obtain ⟨v2, vs2, d2, ds2, p2, q2, rfl, rfl, rfl, h2, r2⟩ := trodAll_cons r1
  obtain ⟨rfl, rfl, rfl⟩ := trodAll_nil r2
  obtain rfl : args = #[v0, v1, v2] := by cases args; simp_all
  obtain ⟨A0, c0, ss0, rfl, hf0, hr0, hl0, hc0⟩ := open_spansc Try.underlying22 Try.underlying25 (by kernel_rfl) (by kernel_rfl) rfl rfl Try.underlying23 (hval 0 22 v0 rfl rfl) h0 (fun x hx => hlow x (by simp [hx]))
  obtain ⟨a1, b1, rfl, ha1, hb1⟩ := open_two Try.underlying25 (by kernel_rfl) (by kernel_rfl) rfl rfl Try.underlying23 (hval 1 25 v1 rfl rfl) h1
  obtain ⟨i2, rfl, hi2, hj2⟩ := open_i64 Try.underlying3 (hval 2 3 v2 rfl rfl) h2
  refine (walk A0 c0 ss0 a1 b1 i2 hf0 hl0 hc0 ha1 hb1 hi2 hj2 W hr0).mono fun e W' ⟨he, hg⟩ => ?_
  subst he
  exact ⟨_, rfl, law_true laid_out (by kernel_rfl) rfl Try.underlying4 (by kernel_rfl) hW' hA rfl rfl rfl hg⟩

theorem over : Rows.spanOwnRow.holds Try.pinned (OpenSpec.ofChange Rows.spanOwnSpec) :=
  OpenClaim.holds_of_wide 7 Try.f7 rfl rfl rfl rfl rfl rfl rfl ⟨rfl, rfl, rfl, rfl, rfl⟩ rfl rfl rfl rfl rfl (by kernel_rfl) Try.func7 (by kernel_rfl)
    (of_decide_eq_true (by kernel_rfl)) (by unfold Func.isWrapper; first | (rw [if_pos (by decide +kernel)]; kernel_rfl) | (rw [if_neg (by decide +kernel)]; exact ⟨rfl, rfl⟩))
    (fun os started H enc _ => lifted os started H enc)

/-- The statement. -/
theorem proved : Rows.SpanOwnSaid := over
end Go.Proofs.Ytfibbohccaknjaa.spanOwn
