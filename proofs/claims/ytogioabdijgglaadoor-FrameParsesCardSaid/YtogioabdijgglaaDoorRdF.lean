/-
  What package frame's reader does with a field. Condition: the tables hold what their texts lay; at most 100000 bytes.
-/
import Derived.Test.YtogioabdijgglaaDoorRdC
import Derived.Test.YtogioabdijgglaaDoorFrB
namespace Go.Proofs.YtogioabdijgglaaDoor
open Go.ChangeShapes Go.WideShapes Go.ChangeAt Go.RowKit Go.Deep
set_option linter.unusedVariables false

/-- The reader at block g: the bytes that are left, the frame so far. -/
def Rdr (w : World) (B g : Nat) (xs : List Nat) (f : Wig.Fr) : Prop := ∃ u D dc S sc, w.cell? ⟨g, 0, none⟩ = some u ∧ Bs w B u xs ∧ At w g 1 f D dc S sc ∧ Lies w w.heap.size f D dc S sc ∧
  (∀ b o s, D = some ⟨b, o, s⟩ → g < b) ∧ (∀ b o s, S = some ⟨b, o, s⟩ → g < b) ∧ (∀ j, w.frozen? ⟨g, j, none⟩ = false)
/-- What a reader of a part of a frame answers, and what it leaves. -/
def ReadRes (B g : Nat) (w : World) (res : Option (Wig.Fr × List Nat)) (e : Ending) (w' : World) : Prop := match res with
  | none => e = gaveUp ∧ But g w w'
  | some (f, r) => e = .returned (.tuple #[]) ∧ Rdr w' B g r f ∧ But g w w'
theorem readRes_none {B g : Nat} {w w' : World} {res : Option (Wig.Fr × List Nat)} (h : res = none) (ho : But g w w') : ReadRes B g w res gaveUp w' := by
  rw [h]
  exact ⟨rfl, ho⟩
theorem readRes_some {B g : Nat} {w w' : World} {res : Option (Wig.Fr × List Nat)} {f : Wig.Fr} {r : List Nat} (h : res = some (f, r)) (hr : Rdr w' B g r f) (ho : But g w w') : ReadRes B g w res (.returned (.tuple #[])) w' := by
  rw [h]
  exact ⟨rfl, hr, ho⟩
section
variable {k : IntKind} {g B : Nat} {w w' : World} {A : Option Addr}
theorem RdN.hop {xs : List Nat} (h : RdN k w w.heap.size A xs) (hA : ∀ b o s, A = some ⟨b, o, s⟩ → g < b) (hb : But g w w') : RdN k w' w'.heap.size A xs := fun hn => by
  obtain ⟨b, off, rfl, hlt, hc⟩ := h hn
  exact ⟨b, off, rfl, Nat.lt_of_lt_of_le hlt hb.size, fun j x hx => (hb.cell (p := ⟨b, off + j, none⟩) hlt (Nat.ne_of_gt (hA _ _ _ rfl))).trans (hc j x hx)⟩
theorem RdS.hop {ss : List Wig.Spn} (h : RdS w w.heap.size A ss) (hA : ∀ b o s, A = some ⟨b, o, s⟩ → g < b) (hb : But g w w') : RdS w' w'.heap.size A ss := fun hn => by
  obtain ⟨b, off, rfl, hlt, hc⟩ := h hn
  exact ⟨b, off, rfl, Nat.lt_of_lt_of_le hlt hb.size, fun j p hp => ⟨(hb.cell (p := ⟨b, off + j * 2, none⟩) hlt (Nat.ne_of_gt (hA _ _ _ rfl))).trans (hc j p hp).1, (hb.cell (p := ⟨b, off + j * 2 + 1, none⟩) hlt (Nat.ne_of_gt (hA _ _ _ rfl))).trans (hc j p hp).2⟩⟩
end
theorem Lies.above {g : Nat} {w w' : World} {f : Wig.Fr} {D S : Option Addr} {dc sc : Nat} (h : Lies w w.heap.size f D dc S sc) (hD : ∀ b o s, D = some ⟨b, o, s⟩ → g < b) (hS : ∀ b o s, S = some ⟨b, o, s⟩ → g < b) (hs : w.heap.size ≤ w'.heap.size) (hk : ∀ b j, g < b → w'.cell? ⟨b, j, none⟩ = w.cell? ⟨b, j, none⟩) : Lies w' w'.heap.size f D dc S sc := by
  refine ⟨h.dl, h.dm, fun hn => ?_, h.sl, h.sm, fun hn => ?_⟩
  · obtain ⟨b, off, rfl, hlt, hc⟩ := h.dr hn
    exact ⟨b, off, rfl, Nat.lt_of_lt_of_le hlt hs, fun j x hx => (hk _ _ (hD _ _ _ rfl)).trans (hc j x hx)⟩
  · obtain ⟨b, off, rfl, hlt, hc⟩ := h.sr hn
    exact ⟨b, off, rfl, Nat.lt_of_lt_of_le hlt hs, fun j p hp => ⟨(hk _ _ (hS _ _ _ rfl)).trans (hc j p hp).1, (hk _ _ (hS _ _ _ rfl)).trans (hc j p hp).2⟩⟩
theorem Lies.hop {g : Nat} {w w' : World} {f : Wig.Fr} {D S : Option Addr} {dc sc : Nat} (h : Lies w w.heap.size f D dc S sc) (hD : ∀ b o s, D = some ⟨b, o, s⟩ → g < b) (hS : ∀ b o s, S = some ⟨b, o, s⟩ → g < b) (hb : But g w w') : Lies w' w'.heap.size f D dc S sc :=
  ⟨h.dl, h.dm, h.dr.hop hD hb, h.sl, h.sm, h.sr.hop hS hb⟩
/-- One step further: of the reader's cells that of the bytes alone has turned. -/
theorem Rdr.one {w w' : World} {B g : Nat} {xs r : List Nat} {f : Wig.Fr} {u : Value} (h : Rdr w B g xs f) (ho : One g 0 w w') (hc : w'.cell? ⟨g, 0, none⟩ = some u) (hu : Bs w' B u r) : Rdr w' B g r f := by
  obtain ⟨_, D, dc, S, sc, _, _, hat, hl, hD, hS, hz⟩ := h
  refine ⟨u, D, dc, S, sc, hc, hu, ?_, hl.hop hD hS ho.but, hD, hS, fun j => (ho.froz j).trans (hz j)⟩
  have k : ∀ j, j ≠ 0 → w'.cell? ⟨g, j, none⟩ = w.cell? ⟨g, j, none⟩ := ho.cells
  exact ⟨(k _ (by omega)).trans hat.c0, (k _ (by omega)).trans hat.c1, (k _ (by omega)).trans hat.c2, (k _ (by omega)).trans hat.c3, (k _ (by omega)).trans hat.c4, (k _ (by omega)).trans hat.c5, (k _ (by omega)).trans hat.c6, (k _ (by omega)).trans hat.c7, (k _ (by omega)).trans hat.c8, (k _ (by omega)).trans hat.c9⟩
theorem set_other {w : World} {g i j : Nat} {u : Value} (h : i ≠ j) : (w.setCell ⟨g, i, none⟩ u).cell? ⟨g, j, none⟩ = w.cell? ⟨g, j, none⟩ := World.cell?_setCell_other _ _ _ _ (fun e => h (by injection e with _ e2 _))
theorem But.set (w : World) (g i : Nat) (u : Value) : But g w (w.setCell ⟨g, i, none⟩ u) := But.refl.stored ⟨g, i, none⟩ rfl u
/-- A number is stored into its field. -/
theorem Rdr.num {w : World} {B g k v : Nat} {xs : List Nat} {f : Wig.Fr} (h : Rdr w B g xs f) (hk : k < 6) (hB : B ≤ g) (hw : B ≤ w.heap.size) : Rdr (w.setCell ⟨g, k + 2, none⟩ (.int .u64 (v : Int))) B g xs (f.put v k) := by
  obtain ⟨u, D, dc, S, sc, hc, hu, hat, hl, hD, hS, hz⟩ := h
  have hb := But.set w g (k + 2) (.int .u64 (v : Int))
  have hl' := hl.hop hD hS hb
  refine ⟨u, D, dc, S, sc, (set_other (by omega)).trans hc, hu.keeps (hb.below hB hw), ?_, ?_, hD, hS, fun j => (World.frozen?_setCell _ _ _ _).trans (hz j)⟩
  · have : k = 0 ∨ k = 1 ∨ k = 2 ∨ k = 3 ∨ k = 4 ∨ k = 5 := by omega
    rcases this with rfl | rfl | rfl | rfl | rfl | rfl
    · exact ⟨(set_other (by omega)).trans hat.c0, World.cell?_setCell_same _ _ _ hat.c1, (set_other (by omega)).trans hat.c2, (set_other (by omega)).trans hat.c3, (set_other (by omega)).trans hat.c4, (set_other (by omega)).trans hat.c5, (set_other (by omega)).trans hat.c6, (set_other (by omega)).trans hat.c7, (set_other (by omega)).trans hat.c8, (set_other (by omega)).trans hat.c9⟩
    · exact ⟨(set_other (by omega)).trans hat.c0, (set_other (by omega)).trans hat.c1, World.cell?_setCell_same _ _ _ hat.c2, (set_other (by omega)).trans hat.c3, (set_other (by omega)).trans hat.c4, (set_other (by omega)).trans hat.c5, (set_other (by omega)).trans hat.c6, (set_other (by omega)).trans hat.c7, (set_other (by omega)).trans hat.c8, (set_other (by omega)).trans hat.c9⟩
    · exact ⟨(set_other (by omega)).trans hat.c0, (set_other (by omega)).trans hat.c1, (set_other (by omega)).trans hat.c2, World.cell?_setCell_same _ _ _ hat.c3, (set_other (by omega)).trans hat.c4, (set_other (by omega)).trans hat.c5, (set_other (by omega)).trans hat.c6, (set_other (by omega)).trans hat.c7, (set_other (by omega)).trans hat.c8, (set_other (by omega)).trans hat.c9⟩
    · exact ⟨(set_other (by omega)).trans hat.c0, (set_other (by omega)).trans hat.c1, (set_other (by omega)).trans hat.c2, (set_other (by omega)).trans hat.c3, World.cell?_setCell_same _ _ _ hat.c4, (set_other (by omega)).trans hat.c5, (set_other (by omega)).trans hat.c6, (set_other (by omega)).trans hat.c7, (set_other (by omega)).trans hat.c8, (set_other (by omega)).trans hat.c9⟩
    · exact ⟨(set_other (by omega)).trans hat.c0, (set_other (by omega)).trans hat.c1, (set_other (by omega)).trans hat.c2, (set_other (by omega)).trans hat.c3, (set_other (by omega)).trans hat.c4, World.cell?_setCell_same _ _ _ hat.c5, (set_other (by omega)).trans hat.c6, (set_other (by omega)).trans hat.c7, (set_other (by omega)).trans hat.c8, (set_other (by omega)).trans hat.c9⟩
    · exact ⟨(set_other (by omega)).trans hat.c0, (set_other (by omega)).trans hat.c1, (set_other (by omega)).trans hat.c2, (set_other (by omega)).trans hat.c3, (set_other (by omega)).trans hat.c4, (set_other (by omega)).trans hat.c5, World.cell?_setCell_same _ _ _ hat.c6, (set_other (by omega)).trans hat.c7, (set_other (by omega)).trans hat.c8, (set_other (by omega)).trans hat.c9⟩
  · obtain ⟨q1, q2, _, _⟩ := Wig.put_rest (f := f) (v := v) (k := k)
    exact ⟨by rw [q2]; exact hl'.dl, hl'.dm, by rw [q2]; exact hl'.dr, by rw [q1]; exact hl'.sl, hl'.sm, by rw [q1]; exact hl'.sr⟩
/-- Spans are stored. -/
theorem Rdr.spans {w : World} {B g n c : Nat} {A : Option Addr} {xs : List Nat} {f : Wig.Fr} {s : List Wig.Spn} (h : Rdr w B g xs f) (hB : B ≤ g) (hw : B ≤ w.heap.size) (hn : n = s.length) (hnc : n ≤ c) (hm : c ≤ maxLen) (hr : RdS w w.heap.size A s) (hA : ∀ b o s, A = some ⟨b, o, s⟩ → g < b) :
    Rdr (w.setCell ⟨g, 10, none⟩ (.slice A n c)) B g xs { f with spans := s } := by
  subst hn
  obtain ⟨u, D, dc, S, sc, hc, hu, hat, hl, hD, hS, hz⟩ := h
  have hb := But.set w g 10 (.slice A s.length c)
  have hl' := hl.hop hD hS hb
  exact ⟨u, D, dc, A, c, (set_other (by omega)).trans hc, hu.keeps (hb.below hB hw), ⟨(set_other (by omega)).trans hat.c0, (set_other (by omega)).trans hat.c1, (set_other (by omega)).trans hat.c2, (set_other (by omega)).trans hat.c3, (set_other (by omega)).trans hat.c4, (set_other (by omega)).trans hat.c5, (set_other (by omega)).trans hat.c6, (set_other (by omega)).trans hat.c7, (set_other (by omega)).trans hat.c8, World.cell?_setCell_same _ _ _ hat.c9⟩,
    ⟨hl'.dl, hl'.dm, hl'.dr, hnc, hm, hr.hop hA hb⟩, hD, hA, fun j => (World.frozen?_setCell _ _ _ _).trans (hz j)⟩
/-- Bytes are stored. -/
theorem Rdr.data {w : World} {B g n c : Nat} {A : Option Addr} {xs : List Nat} {f : Wig.Fr} {d : List Nat} (h : Rdr w B g xs f) (hB : B ≤ g) (hw : B ≤ w.heap.size) (hn : n = d.length) (hnc : n ≤ c) (hm : c ≤ maxLen) (hr : RdN .u8 w w.heap.size A d) (hA : ∀ b o s, A = some ⟨b, o, s⟩ → g < b) :
    Rdr (w.setCell ⟨g, 9, none⟩ (.slice A n c)) B g xs { f with data := d } := by
  subst hn
  obtain ⟨u, D, dc, S, sc, hc, hu, hat, hl, hD, hS, hz⟩ := h
  have hb := But.set w g 9 (.slice A d.length c)
  have hl' := hl.hop hD hS hb
  exact ⟨u, A, c, S, sc, (set_other (by omega)).trans hc, hu.keeps (hb.below hB hw), ⟨(set_other (by omega)).trans hat.c0, (set_other (by omega)).trans hat.c1, (set_other (by omega)).trans hat.c2, (set_other (by omega)).trans hat.c3, (set_other (by omega)).trans hat.c4, (set_other (by omega)).trans hat.c5, (set_other (by omega)).trans hat.c6, (set_other (by omega)).trans hat.c7, World.cell?_setCell_same _ _ _ hat.c8, (set_other (by omega)).trans hat.c9⟩,
    ⟨hnc, hm, hr.hop hA hb, hl'.sl, hl'.sm, hl'.sr⟩, hA, hS, fun j => (World.frozen?_setCell _ _ _ _).trans (hz j)⟩
theorem OwnS.addr {w : World} {base : Nat} {v : Value} {L : List Wig.Spn} (h : OwnS w base v L) : ∃ A n c, v = .slice A n c ∧ n = L.length ∧ n ≤ c ∧ RdS w w.heap.size A L ∧ (∀ b o s, A = some ⟨b, o, s⟩ → base ≤ b) ∧ (L.length ≤ 100000 → c ≤ maxLen) := by
  have h0 := h
  obtain ⟨A, c, rfl, h1, h2, h3⟩ := h.rd
  refine ⟨A, _, c, rfl, rfl, by omega, h2, fun b o s e => ?_, fun hl => ?_⟩
  · rcases h0.2 with ⟨e', _⟩ | ⟨g, cap, cur, e', hg, _⟩
    · injection e' with e'; rw [e] at e'; cases e'
    · injection e' with e'; rw [e] at e'; injection e' with e'; injection e' with e1; omega
  · rcases h0.2 with ⟨e', _⟩ | ⟨g, cap, cur, e', hg, _, _, hcap, _⟩
    · injection e' with _ _ e3; omega
    · injection e' with _ _ e3; omega

set_option maxHeartbeats 2000000 in
theorem readField_any (g k : Nat) (B : Nat) (xs : List Nat) (f : Wig.Fr) (w : World) (hk : k < 8) (hr : Rdr w B g xs f) (hx : Wig.Bytes xs) (h5 : xs.length ≤ 100000) (hB : B ≤ w.heap.size) (hg : B ≤ g) (hgw : g < w.heap.size) (hg2 : 2 ≤ g) (hT : Tab w) :
    Calls Tryd.prog 41 #[.pointer (some ⟨g, 0, none⟩), .int .i64 (k : Int)] w (ReadRes B g w (Wig.rdField f k xs)) := by
  obtain ⟨res, hres⟩ : ∃ res, res = Wig.rdField f k xs := ⟨_, rfl⟩
  rw [← hres]
  unfold Wig.rdField at hres
  have hr0 := hr
  obtain ⟨u, D, dc, S, sc, hc, hu, hat, hl, hD, hS, hz⟩ := hr
  have HR := Lib.hid hr0
  have HG := Lib.hid (And.intro hB (And.intro hg hgw))
  by_cases h6 : k = 6
  · rw [if_pos h6] at hres
    have C := Lib.hid (spans_any g u B xs w hx h5 hu hc (hz 0) hB hg hgw hg2 hT)
    have k9 := hat.c9
    have z9 := hz 10
    have HZ := Lib.hid z9
    have K9 := Lib.hid k9
    subst h6
    cases hsp : Wig.rdSpans xs with
    | none =>
      rw [Wig.pbind_none hsp] at hres
      rw [hsp] at C
      have E := Lib.hid hres
      clear hr0 hc hu hat hl hD hS hz hB hg hgw hg2 hT hk hx h5 hres hsp k9 z9
      go_enter Tryd.func41, Tryd.ntmps41
      go_wp2_with fail
      refine (C.out).mono ?_
      rintro e w1 ⟨rfl, ho⟩
      have R := Lib.hid (readRes_none (B := B) E.out ho.but)
      clear ho
      unfold gaveUp
      go_wp2_with fail
      exact ⟨rfl, R.out⟩
    | some q =>
      obtain ⟨s, r⟩ := q
      rw [Wig.pbind_of hsp] at hres
      rw [hsp] at C
      have E := Lib.hid hres
      clear hr0 hc hu hat hl hD hS hz hB hg hgw hg2 hT hk hx h5 hres hsp k9 z9
      go_enter Tryd.func41, Tryd.ntmps41
      go_wp2_with fail
      refine (C.out).mono ?_
      rintro e w1 ⟨v, rfl, hown, hsl, u1, hc1, hu1, ho⟩
      obtain ⟨A, n, c, rfl, hn, hnc, hrs, hA, hm⟩ := hown.addr
      have k9 := (ho.cells 10 (by omega)).trans K9.out
      have z9 := (ho.froz 10).trans HZ.out
      have F := Lib.hid ((HR.out.one ho hc1 hu1).spans HG.out.2.1 (Nat.le_trans HG.out.1 ho.but.size) hn hnc (hm hsl) hrs (fun b o s e => by have := hA b o s e; have := HG.out.2.2; omega))
      have BB := Lib.hid (ho.but.trans (But.set w1 g 10 (.slice A n c)))
      clear hown hsl hc1 hu1 ho hn hnc hrs hA hm
      go_wp2_with fail
      go_end0
      exact readRes_some E.out F.out BB.out
  · rw [if_neg h6] at hres
    by_cases h7 : k = 7
    · rw [if_pos h7] at hres
      have C := Lib.hid (data_any g 0 u B xs w hx h5 hu hc (hz 0) hB hg hgw hT)
      have k8 := hat.c8
      have z8 := hz 9
      have HZ := Lib.hid z8
      have K8 := Lib.hid k8
      subst h7
      unfold DataStep at C
      cases hda : Wig.rdData xs with
      | none =>
        rw [Wig.pbind_none hda] at hres
        rw [hda] at C
        have E := Lib.hid hres
        clear hr0 hc hu hat hl hD hS hz hB hg hgw hg2 hT hk hx h5 hres hda k8 z8
        go_enter Tryd.func41, Tryd.ntmps41
        go_wp2_with fail
        refine (C.out).mono ?_
        rintro e w1 ⟨rfl, ho⟩
        have R := Lib.hid (readRes_none (B := B) E.out ho.but)
        clear ho
        unfold gaveUp
        go_wp2_with fail
        exact ⟨rfl, R.out⟩
      | some q =>
        obtain ⟨d, r⟩ := q
        rw [Wig.pbind_of hda] at hres
        rw [hda] at C
        have E := Lib.hid hres
        clear hr0 hc hu hat hl hD hS hz hB hg hgw hg2 hT hk hx h5 hres hda k8 z8
        go_enter Tryd.func41, Tryd.ntmps41
        go_wp2_with fail
        refine (C.out).mono ?_
        rintro e w1 ⟨v, rfl, ⟨A, n, c, rfl, hn, hnc, hm, hrd, hA⟩, u1, hc1, hu1, ho⟩
        have k8 := (ho.cells 9 (by omega)).trans K8.out
        have z8 := (ho.froz 9).trans HZ.out
        have F := Lib.hid ((HR.out.one ho hc1 hu1).data HG.out.2.1 (Nat.le_trans HG.out.1 ho.but.size) hn hnc hm hrd (fun b o s e => by have := (hA b o s e).1; have := HG.out.2.2; omega))
        have BB := Lib.hid (ho.but.trans (But.set w1 g 9 (.slice A n c)))
        clear hc1 hu1 ho hn hnc hrd hA hm
        go_wp2_with fail
        go_end0
        exact readRes_some E.out F.out BB.out
    · rw [if_neg h7] at hres
      have hk6 : k < 6 := by omega
      have C := Lib.hid fun (w' : World) (hw : w' = w.drew) => number_step g 0 u B xs w' hx (by rw [hw]; exact hu.keeps (Below.refl _ _).drew) (by rw [hw]; exact hc) (by rw [hw]; exact hz 0) (by rw [hw]; exact hB) hg (by rw [hw]; exact hT.below (Below.refl _ _).drew)
      have N := Lib.hid fun (w' : World) => numberOf_any g 1 k w' hk6
      have kx := hat.num k hk6
      have zx := hz (k + 2)
      have t6 : ((k : Int) == 6) = false := by simp; omega
      have t7 : ((k : Int) == 7) = false := by simp; omega
      simp only [show ∀ k, 1 + (k + 1) = k + 2 from fun k => by omega] at N kx
      have KX := Lib.hid kx
      have ZX := Lib.hid zx
      unfold NumStep at C
      cases hnu : Wig.num1 xs with
      | none =>
        rw [Wig.pbind_none hnu] at hres
        have C' := Lib.hid (fun (w' : World) (hw : w' = w.drew) => by have := C.out w' hw; rw [hnu] at this; exact this)
        have E := Lib.hid hres
        clear hr0 hc hu hat hl hD hS hz hB hg hgw hg2 hT hk hx h5 hres hnu kx zx C h6 h7 hk6
        go_enter Tryd.func41, Tryd.ntmps41
        go_wp2_with fail
        refine wp_region_any (by kernel_rfl) ?_
        change wpAny _ _ _ _ _ _ _ (World.drew _)
        refine wpAny_take (i := 0) (v := ?v0) rfl (by kernel_rfl) (by kernel_rfl) (by kernel_rfl) (fun _ _ _ h => h) (Or.inl ⟨by rfl, ?y0⟩) ?_
        case y0 => (intro w; go_simp; with_reducible rfl)
        refine wpAny_take (i := 1) (v := ?v1) rfl (by kernel_rfl) (by kernel_rfl) (by kernel_rfl) (fun _ _ _ h => h) (Or.inl ⟨by rfl, ?y1⟩) ?_
        case y1 => (intro w; go_simp; with_reducible rfl)
        refine wpAny_take (i := 2) (v := ?v2) rfl (by kernel_rfl) (by kernel_rfl) (by kernel_rfl) (fun _ _ _ h => h) (Or.inl ⟨by rfl, ?y2⟩) ?_
        case y2 => (intro w; go_simp; with_reducible rfl)
        refine wpAny_take (i := 3) (v := ?v3) rfl (by kernel_rfl) (by kernel_rfl) (by kernel_rfl) (fun _ _ _ h => h) (Or.inl ⟨by rfl, ?y3⟩) ?_
        case y3 => (intro w; go_simp; with_reducible rfl)
        refine wpAny_take (i := 5) (v := ?v5) rfl (by kernel_rfl) (by kernel_rfl) (by kernel_rfl) (fun _ _ _ h => h) (Or.inl ⟨by rfl, ?y5⟩) ?_
        case y5 => (intro w; go_simp; with_reducible rfl)
        refine wpAny_take (i := 6) (v := ?v6) rfl (by kernel_rfl) (by kernel_rfl) (by kernel_rfl) (fun _ _ _ h => h) (Or.inl ⟨by rfl, ?y6⟩) ?_
        case y6 => (intro w; go_simp; with_reducible rfl)
        refine wpAny_take (i := 7) (v := ?v7) rfl (by kernel_rfl) (by kernel_rfl) (by kernel_rfl) (fun _ _ _ h => h) (Or.inl ⟨by rfl, ?y7⟩) ?_
        case y7 => (intro w; go_simp; with_reducible rfl)
        refine wpAny_ready (rs := [4]) (by kernel_rfl) (by simp) ?_
        refine AllReady.cons rfl (fun K hK => ?_) AllReady.nil
        go_simp
        refine (N.out _).mono ?_
        rintro e wa ⟨rfl, rfl⟩
        go_wp2_with fail
        refine wpAny_ready (rs := [8]) (by kernel_rfl) (by simp) ?_
        refine AllReady.cons rfl (fun K hK => ?_) AllReady.nil
        go_simp
        refine (C'.out _ rfl).mono ?_
        rintro e w1 ⟨rfl, ho⟩
        have R := Lib.hid (readRes_none (B := B) E.out ((But.of_below (g := g) (Below.refl w.heap.size w).drew).trans ho.but))
        clear ho
        unfold gaveUp
        go_wp2_with fail
        exact ⟨rfl, R.out⟩
      | some q =>
        obtain ⟨v, r⟩ := q
        rw [Wig.pbind_of hnu] at hres
        have C' := Lib.hid (fun (w' : World) (hw : w' = w.drew) => by have := C.out w' hw; rw [hnu] at this; exact this)
        have E := Lib.hid hres
        have HR1 := Lib.hid (hr0.one (One.of_below (off := 0) (Below.refl w.heap.size w).drew hgw) hc (hu.keeps (Below.refl _ _).drew))
        have HK6 := Lib.hid hk6
        clear hr0 hc hu hat hl hD hS hz hB hg hgw hg2 hT hk hx h5 hres hnu kx zx C h6 h7 hk6
        go_enter Tryd.func41, Tryd.ntmps41
        go_wp2_with fail
        go_region_with (first
          | (go_at_call 36; refine (N.out _).mono ?_; rintro e wa ⟨rfl, rfl⟩)
          | (go_at_call 39; refine (C'.out _ rfl).mono ?_; rintro e w1 ⟨rfl, u1, hc1, hu1, ho⟩; have k8 := (ho.cells (k + 2) (by omega)).trans KX.out; have z8 := (ho.froz (k + 2)).trans ZX.out))
        have F := Lib.hid ((HR1.out.one ho hc1 hu1).num (k := k) (v := v) HK6.out HG.out.2.1 (Nat.le_trans HG.out.1 ho.but.size))
        have BB := Lib.hid (((But.of_below (g := g) (Below.refl w.heap.size w).drew).trans ho.but).trans (But.set w1 g (k + 2) (.int .u64 (v : Int))))
        clear hc1 hu1 ho
        go_wp2_with fail
        go_end0
        exact readRes_some E.out F.out BB.out
end Go.Proofs.YtogioabdijgglaaDoor
