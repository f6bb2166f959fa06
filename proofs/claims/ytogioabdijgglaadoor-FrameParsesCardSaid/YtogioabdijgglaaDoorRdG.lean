/-
  What package frame's reader does with a whole frame. Condition: the tables hold what their texts lay; at most 100000 bytes.
-/
import Derived.Test.YtogioabdijgglaaDoorRdF
namespace Wig
theorem rdKind_none {k : Nat} {xs : List Nat} (h : flds (kbase k) = none) : rdKind k xs = none := by
  unfold rdKind
  rw [h]
  rfl
theorem rdKind_some {k : Nat} {has xs : List Nat} (h : flds (kbase k) = some has) : rdKind k xs = pbind (rdAll has (fbase k)) rdEnd xs := by
  unfold rdKind
  rw [h]
theorem rdAll_stop {k : Nat} {ks : List Nat} {f : Fr} {xs : List Nat} (h : rdField f k xs = none) : pbind (rdAll (k :: ks) f) rdEnd xs = none := by
  refine pbind_none ?_
  rw [rdAll]
  exact pbind_none h
theorem rdAll_next {k : Nat} {ks : List Nat} {f f' : Fr} {xs r : List Nat} (h : rdField f k xs = some (f', r)) : pbind (rdAll (k :: ks) f) rdEnd xs = pbind (rdAll ks f') rdEnd r := by
  unfold pbind
  rw [rdAll, pbind_of h]
theorem rdField_len2 {f f' : Fr} {k : Nat} {xs r : List Nat} (hx : Bytes xs) (h : rdField f k xs = some (f', r)) : Bytes r ∧ r.length ≤ xs.length := by
  obtain ⟨p, rfl, _⟩ := rdField_local f k xs f' r hx h
  exact ⟨hx.right, by simp⟩
theorem rdField_get {f f' : Fr} {k : Nat} {xs r : List Nat} (hk : k < 8) (hx : Bytes xs) (hf : f.get 1 < 18446744073709551616) (h : rdField f k xs = some (f', r)) : f'.get 1 < 18446744073709551616 := by
  unfold rdField at h
  by_cases h6 : k = 6
  · rw [if_pos h6] at h
    obtain ⟨s, m, _, k1⟩ := pbind_some h
    cases k1
    exact hf
  · rw [if_neg h6] at h
    by_cases h7 : k = 7
    · rw [if_pos h7] at h
      obtain ⟨d, m, _, k1⟩ := pbind_some h
      cases k1
      exact hf
    · rw [if_neg h7] at h
      obtain ⟨v, m, h1, k1⟩ := pbind_some h
      cases k1
      have := num1_facts hx h1
      by_cases h1 : k = 1
      · subst h1; rw [get_put_same (by omega)]; omega
      · rw [get_put (by omega) (by omega) (fun e => h1 e.symm)]; exact hf
theorem rdEnd_ok {f : Fr} {r : List Nat} (h : fine f = true) : rdEnd f r = some (f, r) := by
  unfold rdEnd
  rw [if_pos h]
  rfl
theorem rdEnd_no {f : Fr} {r : List Nat} (h : fine f = false) : rdEnd f r = none := by
  unfold rdEnd
  rw [if_neg (by rw [h]; simp)]
  rfl
end Wig
namespace Go.Proofs.YtogioabdijgglaaDoor
open Go.ChangeShapes Go.WideShapes Go.ChangeAt Go.RowKit Go.Deep
set_option linter.unusedVariables false

theorem Tab.hop {g : Nat} {w w' : World} (h : Tab w ∧ NTab w) (hb : But g w w') (hg : 2 ≤ g) : Tab w' ∧ NTab w' :=
  ⟨h.1.but hb hg, h.2.keeps fun j => hb.cell (World.block_lt_of_cell? w _ h.2.c0 : 0 < _) (by simp only []; omega)⟩
/-- The Kind is stored. -/
theorem Rdr.kind {w : World} {B g : Nat} {xs : List Nat} {f : Wig.Fr} {k : Int} (h : Rdr w B g xs f) (hB : B ≤ g) (hw : B ≤ w.heap.size) : Rdr (w.setCell ⟨g, 1, none⟩ (.int .i64 k)) B g xs { f with kind := k } := by
  obtain ⟨u, D, dc, S, sc, hc, hu, hat, hl, hD, hS, hz⟩ := h
  have hb := But.set w g 1 (.int .i64 k)
  have hl' := hl.hop hD hS hb
  exact ⟨u, D, dc, S, sc, (set_other (by omega)).trans hc, hu.keeps (hb.below hB hw), ⟨World.cell?_setCell_same _ _ _ hat.c0, (set_other (by omega)).trans hat.c1, (set_other (by omega)).trans hat.c2, (set_other (by omega)).trans hat.c3, (set_other (by omega)).trans hat.c4, (set_other (by omega)).trans hat.c5, (set_other (by omega)).trans hat.c6, (set_other (by omega)).trans hat.c7, (set_other (by omega)).trans hat.c8, (set_other (by omega)).trans hat.c9⟩,
    ⟨hl'.dl, hl'.dm, hl'.dr, hl'.sl, hl'.sm, hl'.sr⟩, hD, hS, fun j => (World.frozen?_setCell _ _ _ _).trans (hz j)⟩
/-- Fin is stored. -/
theorem Rdr.fin {w : World} {B g : Nat} {xs : List Nat} {f : Wig.Fr} {b : Bool} (h : Rdr w B g xs f) (hB : B ≤ g) (hw : B ≤ w.heap.size) : Rdr (w.setCell ⟨g, 8, none⟩ (.bool b)) B g xs { f with fin := b } := by
  obtain ⟨u, D, dc, S, sc, hc, hu, hat, hl, hD, hS, hz⟩ := h
  have hb := But.set w g 8 (.bool b)
  have hl' := hl.hop hD hS hb
  exact ⟨u, D, dc, S, sc, (set_other (by omega)).trans hc, hu.keeps (hb.below hB hw), ⟨(set_other (by omega)).trans hat.c0, (set_other (by omega)).trans hat.c1, (set_other (by omega)).trans hat.c2, (set_other (by omega)).trans hat.c3, (set_other (by omega)).trans hat.c4, (set_other (by omega)).trans hat.c5, (set_other (by omega)).trans hat.c6, World.cell?_setCell_same _ _ _ hat.c7, (set_other (by omega)).trans hat.c8, (set_other (by omega)).trans hat.c9⟩,
    ⟨hl'.dl, hl'.dm, hl'.dr, hl'.sl, hl'.sm, hl'.sr⟩, hD, hS, fun j => (World.frozen?_setCell _ _ _ _).trans (hz j)⟩
theorem Rdr.below {w w' : World} {B g : Nat} {xs : List Nat} {f : Wig.Fr} (h : Rdr w B g xs f) (hb : Below w.heap.size w w') (hw : B ≤ w.heap.size) (hgw : g < w.heap.size) : Rdr w' B g xs f := by
  obtain ⟨u, D, dc, S, sc, hc, hu, hat, hl, hD, hS, hz⟩ := h
  exact ⟨u, D, dc, S, sc, (hb.cell hgw).trans hc, hu.keeps (hb.mono hw), hat.below hb, hl.step hb, hD, hS, fun j => (hb.frozen hgw).trans (hz j)⟩
/-- The loop over a Kind's fields, at a round's head: those that are left read what is left. -/
def ReadRel (B g : Nat) (has : List Nat) (res : Option (Wig.Fr × List Nat)) (w : World) (A : Option Addr) (i : Value) (wr : World) : Prop :=
  ∃ k f r, i = .int .i64 ((k : Nat) : Int) ∧ k ≤ has.length ∧ Rdr wr B g r f ∧ But g w wr ∧ RdN .i64 wr wr.heap.size A has ∧ Wig.pbind (Wig.rdAll (has.drop k) f) Wig.rdEnd r = res ∧ Wig.Bytes r ∧ r.length ≤ 100000 ∧ f.get 1 < 18446744073709551616

set_option maxHeartbeats 4000000 in
theorem read_any (g : Nat) (B : Nat) (xs : List Nat) (w : World) (hr : Rdr w B g xs Wig.Fr.zero) (hx : Wig.Bytes xs) (h5 : xs.length ≤ 100000) (hB : B ≤ w.heap.size) (hg : B ≤ g) (hgw : g < w.heap.size) (hg2 : 2 ≤ g) (hT : Tab w ∧ NTab w) :
    Calls Tryd.prog 30 #[.pointer (some ⟨g, 0, none⟩)] w (ReadRes B g w (Wig.rdFrame xs)) := by
  obtain ⟨res, hres⟩ : ∃ res, res = Wig.rdFrame xs := ⟨_, rfl⟩
  rw [← hres]
  unfold Wig.rdFrame at hres
  have HR := Lib.hid hr
  obtain ⟨u, D, dc, S, sc, hc, hu, hat, hl, hD, hS, hz⟩ := hr
  have HG := Lib.hid (And.intro hB (And.intro hg (And.intro hgw hg2)))
  have HT := Lib.hid hT
  have G := Lib.hid giveUp_any
  have C := Lib.hid (number_step g 0 u B xs w hx hu hc (hz 0) hB hg hT.1)
  unfold NumStep at C
  cases hn : Wig.num1 xs with
  | none =>
    rw [hn] at C
    rw [Wig.pbind_none hn] at hres
    have E := Lib.hid hres
    clear hn hx hu hc hz hat hl hD hS hT h5 hB hg hgw hg2 hres
    go_enter Tryd.func30, Tryd.ntmps30
    go_wp2_with fail
    refine (C.out).mono ?_
    rintro e w1 ⟨rfl, ho⟩
    have R := Lib.hid (readRes_none (B := B) E.out ho.but)
    clear ho
    unfold gaveUp
    go_wp2_with fail
    exact ⟨rfl, R.out⟩
  | some q =>
    obtain ⟨k, r1⟩ := q
    rw [hn] at C
    rw [Wig.pbind_of hn] at hres
    have hf := Wig.num1_facts hx hn
    have hx1 : Wig.Bytes r1 := by
      obtain ⟨p1, hp1, _⟩ := Wig.num1_local xs k r1 hx hn
      rw [hp1] at hx
      exact hx.right
    have h51 : r1.length ≤ 100000 := by omega
    have HX := Lib.hid (And.intro hx1 (And.intro h51 hf.1))
    have z8 := hz 8
    have z1 := hz 1
    have k7 := hat.c7
    have k0 := hat.c0
    have HZ := Lib.hid hz
    have HA := Lib.hid hat
    clear hn hx hu hc hz hat hl hD hS hT h5 hB hg hgw hg2 hf hx1 h51 z8 z1 k7 k0
    by_cases h15 : k = 15
    · subst h15
      have t15 : (15 : Int) == 15 := rfl
      have HRES := Lib.hid hres
      clear hres
      go_enter Tryd.func30, Tryd.ntmps30
      go_wp2_with fail
      refine (C.out).mono ?_
      rintro e w1 ⟨rfl, u1, hc1, hu1, ho⟩
      have R1 := Lib.hid (HR.out.one ho hc1 hu1)
      have R2 := Lib.hid (R1.out.fin (b := true) HG.out.2.1 (Nat.le_trans HG.out.1 ho.but.size))
      have B2 := Lib.hid (ho.but.trans (But.set w1 g 8 (.bool true)))
      have k7 := (ho.cells 8 (by omega)).trans HA.out.c7
      have z7 := (ho.froz 8).trans (HZ.out 8)
      have Q1 := Lib.hid (show Wig.kbase 15 = 14 from rfl)
      have Q2 := Lib.hid (show ({ ({ Wig.Fr.zero with fin := true } : Wig.Fr) with kind := ((14 : Nat) : Int) } : Wig.Fr) = Wig.fbase 15 from rfl)
      obtain ⟨w2, hw2⟩ : ∃ w2, w2 = w1.setCell ⟨g, 8, none⟩ (.bool true) := ⟨_, rfl⟩
      rw [← hw2] at R2 B2
      clear hc1 hu1 ho R1 C HR
      go_wp2_with fail
      rw [← hw2]
      clear hw2 k7 z7
      have C2 := Lib.hid (fieldsOf_any 14 w2)
      unfold FieldsAt at C2
      cases hfl : Wig.flds 14 with
      | none =>
        rw [hfl] at C2
        have e := HRES.out
        rw [Wig.rdKind_none (by rw [Q1.out]; exact hfl)] at e
        have R := Lib.hid (readRes_none (B := B) e B2.out)
        clear hfl e
        refine (C2.out).mono ?_
        rintro e w3 ⟨rfl, rfl⟩
        go_wp2_with fail
        refine (G.out _).mono ?_
        rintro e w3 ⟨rfl, rfl⟩
        unfold gaveUp
        go_wp2_with fail
        exact ⟨rfl, R.out⟩
      | some has =>
        rw [hfl] at C2
        simp only [] at C2
        have e := HRES.out
        rw [Wig.rdKind_some (by rw [Q1.out]; exact hfl)] at e
        have E := Lib.hid e
        have hn8 := flds_len hfl
        have h8 := (Wig.flds_lt hfl).2
        have hk30 := Wig.flds_le hfl
        obtain ⟨n, hn⟩ : ∃ n, n = has.length := ⟨_, rfl⟩
        rw [← hn] at C2 hn8
        have HN := Lib.hid (And.intro hn h8)
        clear hfl e h8 hn hk30
        refine (C2.out).mono ?_
        rintro e w3 ⟨A, rfl, hA, hb3, hA3⟩
        have hg2w : g < w2.heap.size := Nat.lt_of_lt_of_le HG.out.2.2.1 B2.out.size
        have R3 := Lib.hid (R2.out.below hb3 (Nat.le_trans HG.out.1 B2.out.size) hg2w)
        have B3 := Lib.hid (B2.out.trans (But.of_below (g := g) hb3))
        have A3 := Lib.hid hA
        have AG := Lib.hid (show ∀ b o s, A = some ⟨b, o, s⟩ → g < b from fun b o s e => by have := hA3 b o s e; omega)
        obtain ⟨_, _, _, _, _, _, _, hat3, _, _, _, hz3⟩ := R3.out
        have k1 := hat3.c0
        have z1 := hz3 1
        clear hA hb3 hA3 hg2w hat3 hz3 C2
        have R4 := Lib.hid (R3.out.kind (k := ((14 : Nat) : Int)) HG.out.2.1 (Nat.le_trans HG.out.1 B3.out.size))
        have B4 := Lib.hid (B3.out.trans (But.set w3 g 1 (.int .i64 ((14 : Nat) : Int))))
        rw [Q2.out] at R4
        have A4 := Lib.hid (A3.out.hop AG.out (But.set w3 g 1 (.int .i64 ((14 : Nat) : Int))))
        go_wp2_with fail
        go_loopw [33] (fun i wr => ReadRel B g has res w A i wr) (fun i _ => n - (intOf i).toNat)
        case atStart => exact ⟨0, Wig.fbase 15, r1, rfl, Nat.zero_le _, R4.out, B4.out, A4.out, by rw [List.drop_zero]; exact E.out.symm, HX.out.1, HX.out.2.1, by simp [Wig.fbase, Wig.Fr.zero, Wig.Fr.get]⟩
        case round =>
          obtain ⟨j, f, r, rfl, hj, hrd, hbut, hA, heq, hbx, hlen, hge⟩ := hrel
          rw [← HN.out.1] at hj
          have KR := Lib.hid hrd
          have KB := Lib.hid hbut
          have KA := Lib.hid hA
          have HL := fun _ : Unit => hlen
          have HGE := fun _ : Unit => hge
          have hTr := Tab.hop HT.out hbut HG.out.2.2.2
          have KT := Lib.hid hTr
          have hbsz : B ≤ wr.heap.size := Nat.le_trans HG.out.1 hbut.size
          have hgr : g < wr.heap.size := Nat.lt_of_lt_of_le HG.out.2.2.1 hbut.size
          by_cases hlt : j < n
          · obtain ⟨fl, hfl⟩ : ∃ fl, has[j]? = some fl := ⟨_, List.getElem?_eq_getElem (by have := HN.out.1; omega)⟩
            have hfl8 : fl < 8 := HN.out.2 fl (List.mem_of_getElem? hfl)
            have hdrop : has.drop j = fl :: has.drop (j + 1) := by
              obtain ⟨q1, q2⟩ := List.getElem?_eq_some_iff.1 hfl
              rw [List.drop_eq_getElem_cons q1, q2]
            rw [hdrop] at heq
            obtain ⟨ab, ao, rfl, hab, hcell⟩ := hA.at_ hfl
            have i0 : (0 : Int) ≤ (j : Int) := by omega
            have i1 : (j : Int) < (n : Int) := by omega
            have D := Lib.hid (readField_any g fl B r f wr hfl8 hrd hbx hlen hbsz HG.out.2.1 hgr HG.out.2.2.2 hTr.1)
            unfold ReadRes at D
            cases hrf : Wig.rdField f fl r with
            | none =>
              rw [hrf] at D
              rw [Wig.rdAll_stop hrf] at heq
              have E2 := Lib.hid heq.symm
              clear hrd hbut hA heq hbx hlen hge hTr hbsz hgr hfl hfl8 hdrop hab hrf hlt hj
              go_wp2_with fail
              refine (D.out).mono ?_
              rintro e w5 ⟨rfl, ho⟩
              have R := Lib.hid (readRes_none (B := B) E2.out (KB.out.trans ho))
              clear ho
              unfold gaveUp
              go_wp2_with fail
              exact ⟨rfl, R.out⟩
            | some q =>
              obtain ⟨f2, r2⟩ := q
              rw [hrf] at D
              rw [Wig.rdAll_next hrf] at heq
              have hb2 := Wig.rdField_len2 hbx hrf
              have E2 := Lib.hid (And.intro heq (And.intro hb2.1 (Nat.le_trans hb2.2 hlen)))
              have G2 := fun _ : Unit => Wig.rdField_get hfl8 hbx hge hrf
              have HJ := Lib.hid hlt
              clear hrd hbut hA heq hbx hlen hge hTr hbsz hgr hfl hfl8 hdrop hab hrf hlt hj hb2
              go_wp2_with fail
              refine (D.out).mono ?_
              rintro e w5 ⟨rfl, hr5, ho⟩
              have R : ReadRel B g has res w (some ⟨ab, ao, none⟩) (.int .i64 ((j : Int) + 1)) w5 := ⟨j + 1, f2, r2, rfl, by have := HJ.out; have := HN.out.1; omega, hr5, KB.out.trans ho, KA.out.hop AG.out ho, E2.out.1, E2.out.2.1, E2.out.2.2, G2 ()⟩
              have R' := Lib.hid R
              have hjn := HJ.out
              clear hr5 ho R
              go_wp2_with fail
              go_roundw
              case rel => exact R'.out
              case measure => simp [intOf]; omega
          · have t3 : decide (j < n) = false := decide_eq_false hlt
            have hdrop : has.drop j = [] := List.drop_of_length_le (by rw [← HN.out.1]; omega)
            rw [hdrop] at heq
            have heq2 : Wig.rdEnd f r = res := heq
            obtain ⟨_, D, dc, S, sc, _, _, hat, hl, hD, hS, hz⟩ := hrd
            have k0 := hat.c0
            have k1' := hat.c1
            have k2 := hat.c2
            have k3 := hat.c3
            have k4 := hat.c4
            have k5 := hat.c5
            have k6 := hat.c6
            have k7 := hat.c7
            have k8 := hat.c8
            have k9 := hat.c9
            have CK := Lib.hid (check_any (.agg #[.int .i64 f.kind, .int .u64 (f.id : Int), .int .u64 (f.off : Int), .int .u64 (f.max : Int), .int .u64 (f.code : Int), .int .u64 (f.delay : Int), .int .u64 (f.ce : Int), .bool f.fin, .slice D f.data.length dc, .slice S f.spans.length sc]) f wr ⟨D, dc, S, sc, rfl, hl⟩ hge hTr.2)
            cases hfi : Wig.fine f with
            | false =>
              rw [ferr_no hfi] at CK
              rw [Wig.rdEnd_no hfi] at heq2
              have E2 := Lib.hid heq2.symm
              clear hat hl hD hS hz hbut hA heq heq2 hbx hlen hge hTr hbsz hgr hdrop hlt hj hfi
              go_wp2_with fail
              refine (CK.out).mono ?_
              rintro e w6 ⟨rfl, hb6⟩
              have R := Lib.hid (readRes_none (B := B) E2.out (KB.out.trans (But.of_below (g := g) hb6)))
              clear hb6
              go_wp2_with fail
              refine (G.out _).mono ?_
              rintro e w7 ⟨rfl, rfl⟩
              unfold gaveUp
              go_wp2_with fail
              exact ⟨rfl, R.out⟩
            | true =>
              rw [ferr_ok hfi] at CK
              rw [Wig.rdEnd_ok hfi] at heq2
              have E2 := Lib.hid heq2.symm
              have HS2 := Lib.hid (And.intro hbsz hgr)
              clear hat hl hD hS hz hbut hA heq heq2 hbx hlen hge hTr hbsz hgr hdrop hlt hj hfi
              go_wp2_with fail
              refine (CK.out).mono ?_
              rintro e w6 ⟨rfl, hb6⟩
              have R := Lib.hid (readRes_some (B := B) E2.out (KR.out.below hb6 HS2.out.1 HS2.out.2) (KB.out.trans (But.of_below (g := g) hb6)))
              clear hb6
              go_wp2_with fail
              go_end0
              exact R.out
    · have t15 : ((k : Int) == 15) = false := by simp; omega
      have hkb : Wig.kbase k = k := by unfold Wig.kbase; rw [if_neg h15]
      have HRES := Lib.hid hres
      have Q1 := Lib.hid hkb
      have Q2 := Lib.hid (show ({ Wig.Fr.zero with kind := (k : Int) } : Wig.Fr) = Wig.fbase k by unfold Wig.fbase; rw [hkb, decide_eq_false h15]; rfl)
      clear hres h15 hkb
      go_enter Tryd.func30, Tryd.ntmps30
      go_wp2_with fail
      refine (C.out).mono ?_
      rintro e w2 ⟨rfl, u1, hc1, hu1, ho⟩
      have R2 := Lib.hid (HR.out.one ho hc1 hu1)
      have B2 := Lib.hid ho.but
      clear hc1 hu1 ho C HR
      go_wp2_with fail
      have C2 := Lib.hid (fieldsOf_any k w2)
      unfold FieldsAt at C2
      cases hfl : Wig.flds k with
      | none =>
        rw [hfl] at C2
        have e := HRES.out
        rw [Wig.rdKind_none (by rw [Q1.out]; exact hfl)] at e
        have R := Lib.hid (readRes_none (B := B) e B2.out)
        clear hfl e
        refine (C2.out).mono ?_
        rintro e w3 ⟨rfl, rfl⟩
        go_wp2_with fail
        refine (G.out _).mono ?_
        rintro e w3 ⟨rfl, rfl⟩
        unfold gaveUp
        go_wp2_with fail
        exact ⟨rfl, R.out⟩
      | some has =>
        rw [hfl] at C2
        simp only [] at C2
        have e := HRES.out
        rw [Wig.rdKind_some (by rw [Q1.out]; exact hfl)] at e
        have E := Lib.hid e
        have hn8 := flds_len hfl
        have h8 := (Wig.flds_lt hfl).2
        have hk30 := Wig.flds_le hfl
        obtain ⟨n, hn⟩ : ∃ n, n = has.length := ⟨_, rfl⟩
        rw [← hn] at C2 hn8
        have HN := Lib.hid (And.intro hn h8)
        have kwr : IntKind.i64.wrap (k : Int) = (k : Int) := by rw [IntKind.wrap_i64]; omega
        clear hfl e h8 hn hk30
        refine (C2.out).mono ?_
        rintro e w3 ⟨A, rfl, hA, hb3, hA3⟩
        have hg2w : g < w2.heap.size := Nat.lt_of_lt_of_le HG.out.2.2.1 B2.out.size
        have R3 := Lib.hid (R2.out.below hb3 (Nat.le_trans HG.out.1 B2.out.size) hg2w)
        have B3 := Lib.hid (B2.out.trans (But.of_below (g := g) hb3))
        have A3 := Lib.hid hA
        have AG := Lib.hid (show ∀ b o s, A = some ⟨b, o, s⟩ → g < b from fun b o s e => by have := hA3 b o s e; omega)
        obtain ⟨_, _, _, _, _, _, _, hat3, _, _, _, hz3⟩ := R3.out
        have k1 := hat3.c0
        have z1 := hz3 1
        clear hA hb3 hA3 hg2w hat3 hz3 C2
        have R4 := Lib.hid (R3.out.kind (k := ((k : Nat) : Int)) HG.out.2.1 (Nat.le_trans HG.out.1 B3.out.size))
        have B4 := Lib.hid (B3.out.trans (But.set w3 g 1 (.int .i64 ((k : Nat) : Int))))
        rw [Q2.out] at R4
        have A4 := Lib.hid (A3.out.hop AG.out (But.set w3 g 1 (.int .i64 ((k : Nat) : Int))))
        go_wp2_with fail
        go_loopw [33] (fun i wr => ReadRel B g has res w A i wr) (fun i _ => n - (intOf i).toNat)
        case atStart => exact ⟨0, Wig.fbase k, r1, rfl, Nat.zero_le _, R4.out, B4.out, A4.out, by rw [List.drop_zero]; exact E.out.symm, HX.out.1, HX.out.2.1, by simp [Wig.fbase, Wig.Fr.zero, Wig.Fr.get]⟩
        case round =>
          obtain ⟨j, f, r, rfl, hj, hrd, hbut, hA, heq, hbx, hlen, hge⟩ := hrel
          rw [← HN.out.1] at hj
          have KR := Lib.hid hrd
          have KB := Lib.hid hbut
          have KA := Lib.hid hA
          have HL := fun _ : Unit => hlen
          have HGE := fun _ : Unit => hge
          have hTr := Tab.hop HT.out hbut HG.out.2.2.2
          have KT := Lib.hid hTr
          have hbsz : B ≤ wr.heap.size := Nat.le_trans HG.out.1 hbut.size
          have hgr : g < wr.heap.size := Nat.lt_of_lt_of_le HG.out.2.2.1 hbut.size
          by_cases hlt : j < n
          · obtain ⟨fl, hfl⟩ : ∃ fl, has[j]? = some fl := ⟨_, List.getElem?_eq_getElem (by have := HN.out.1; omega)⟩
            have hfl8 : fl < 8 := HN.out.2 fl (List.mem_of_getElem? hfl)
            have hdrop : has.drop j = fl :: has.drop (j + 1) := by
              obtain ⟨q1, q2⟩ := List.getElem?_eq_some_iff.1 hfl
              rw [List.drop_eq_getElem_cons q1, q2]
            rw [hdrop] at heq
            obtain ⟨ab, ao, rfl, hab, hcell⟩ := hA.at_ hfl
            have i0 : (0 : Int) ≤ (j : Int) := by omega
            have i1 : (j : Int) < (n : Int) := by omega
            have D := Lib.hid (readField_any g fl B r f wr hfl8 hrd hbx hlen hbsz HG.out.2.1 hgr HG.out.2.2.2 hTr.1)
            unfold ReadRes at D
            cases hrf : Wig.rdField f fl r with
            | none =>
              rw [hrf] at D
              rw [Wig.rdAll_stop hrf] at heq
              have E2 := Lib.hid heq.symm
              clear hrd hbut hA heq hbx hlen hge hTr hbsz hgr hfl hfl8 hdrop hab hrf hlt hj
              go_wp2_with fail
              refine (D.out).mono ?_
              rintro e w5 ⟨rfl, ho⟩
              have R := Lib.hid (readRes_none (B := B) E2.out (KB.out.trans ho))
              clear ho
              unfold gaveUp
              go_wp2_with fail
              exact ⟨rfl, R.out⟩
            | some q =>
              obtain ⟨f2, r2⟩ := q
              rw [hrf] at D
              rw [Wig.rdAll_next hrf] at heq
              have hb2 := Wig.rdField_len2 hbx hrf
              have E2 := Lib.hid (And.intro heq (And.intro hb2.1 (Nat.le_trans hb2.2 hlen)))
              have G2 := fun _ : Unit => Wig.rdField_get hfl8 hbx hge hrf
              have HJ := Lib.hid hlt
              clear hrd hbut hA heq hbx hlen hge hTr hbsz hgr hfl hfl8 hdrop hab hrf hlt hj hb2
              go_wp2_with fail
              refine (D.out).mono ?_
              rintro e w5 ⟨rfl, hr5, ho⟩
              have R : ReadRel B g has res w (some ⟨ab, ao, none⟩) (.int .i64 ((j : Int) + 1)) w5 := ⟨j + 1, f2, r2, rfl, by have := HJ.out; have := HN.out.1; omega, hr5, KB.out.trans ho, KA.out.hop AG.out ho, E2.out.1, E2.out.2.1, E2.out.2.2, G2 ()⟩
              have R' := Lib.hid R
              have hjn := HJ.out
              clear hr5 ho R
              go_wp2_with fail
              go_roundw
              case rel => exact R'.out
              case measure => simp [intOf]; omega
          · have t3 : decide (j < n) = false := decide_eq_false hlt
            have hdrop : has.drop j = [] := List.drop_of_length_le (by rw [← HN.out.1]; omega)
            rw [hdrop] at heq
            have heq2 : Wig.rdEnd f r = res := heq
            obtain ⟨_, D, dc, S, sc, _, _, hat, hl, hD, hS, hz⟩ := hrd
            have k0 := hat.c0
            have k1' := hat.c1
            have k2 := hat.c2
            have k3 := hat.c3
            have k4 := hat.c4
            have k5 := hat.c5
            have k6 := hat.c6
            have k7 := hat.c7
            have k8 := hat.c8
            have k9 := hat.c9
            have CK := Lib.hid (check_any (.agg #[.int .i64 f.kind, .int .u64 (f.id : Int), .int .u64 (f.off : Int), .int .u64 (f.max : Int), .int .u64 (f.code : Int), .int .u64 (f.delay : Int), .int .u64 (f.ce : Int), .bool f.fin, .slice D f.data.length dc, .slice S f.spans.length sc]) f wr ⟨D, dc, S, sc, rfl, hl⟩ hge hTr.2)
            cases hfi : Wig.fine f with
            | false =>
              rw [ferr_no hfi] at CK
              rw [Wig.rdEnd_no hfi] at heq2
              have E2 := Lib.hid heq2.symm
              clear hat hl hD hS hz hbut hA heq heq2 hbx hlen hge hTr hbsz hgr hdrop hlt hj hfi
              go_wp2_with fail
              refine (CK.out).mono ?_
              rintro e w6 ⟨rfl, hb6⟩
              have R := Lib.hid (readRes_none (B := B) E2.out (KB.out.trans (But.of_below (g := g) hb6)))
              clear hb6
              go_wp2_with fail
              refine (G.out _).mono ?_
              rintro e w7 ⟨rfl, rfl⟩
              unfold gaveUp
              go_wp2_with fail
              exact ⟨rfl, R.out⟩
            | true =>
              rw [ferr_ok hfi] at CK
              rw [Wig.rdEnd_ok hfi] at heq2
              have E2 := Lib.hid heq2.symm
              have HS2 := Lib.hid (And.intro hbsz hgr)
              clear hat hl hD hS hz hbut hA heq heq2 hbx hlen hge hTr hbsz hgr hdrop hlt hj hfi
              go_wp2_with fail
              refine (CK.out).mono ?_
              rintro e w6 ⟨rfl, hb6⟩
              have R := Lib.hid (readRes_some (B := B) E2.out (KR.out.below hb6 HS2.out.1 HS2.out.2) (KB.out.trans (But.of_below (g := g) hb6)))
              clear hb6
              go_wp2_with fail
              go_end0
              exact R.out
end Go.Proofs.YtogioabdijgglaaDoor
