/-
  Rows of frames in the program's memory; what package frame's All returns. Condition: the tables hold what their texts lay; at most 100000 bytes.
-/
import Derived.Test.YtogioabdijgglaaDoorRdP
import Derived.Test.YtogioabdijgglaaDoorEnc
namespace Wig
/-- What All answers. -/
def afr (xs : List Nat) : List Fr := (fall xs).getD []
def aerr (xs : List Nat) : Nat := if (fall xs).isSome then 0 else 50
end Wig
namespace Go.Proofs.YtogioabdijgglaaDoor
open Go.ChangeShapes Go.WideShapes Go.ChangeAt Go.RowKit Go.Deep
set_option linter.unusedVariables false

/-- A frame and where its slices lie. -/
structure FV where
  f : Wig.Fr
  D : Option Addr
  dc : Nat
  S : Option Addr
  sc : Nat
def FV.cells (e : FV) : List Value := (farr e.f e.D e.dc e.S e.sc).toList
def fflat (es : List FV) : List Value := es.flatMap FV.cells
theorem fflat_length (es : List FV) : (fflat es).length = es.length * 10 := by
  induction es with
  | nil => rfl
  | cons e es ih =>
    have : fflat (e :: es) = e.cells ++ fflat es := by simp [fflat]
    rw [this, List.length_append, ih, List.length_cons]
    show 10 + _ = _
    omega
theorem fflat_app (es tt : List FV) : fflat (es ++ tt) = fflat es ++ fflat tt := List.flatMap_append
theorem fflat_one (e : FV) : fflat [e] = e.cells := by simp [fflat]
theorem fflat_at : ∀ (es : List FV) (j : Nat) (e : FV), es[j]? = some e → ∀ i, i < 10 → (fflat es)[j * 10 + i]? = e.cells[i]?
  | [], j, e, h, _, _ => by simp at h
  | q :: es, 0, e, h, i, hi => by
    simp at h
    subst h
    have : fflat (q :: es) = q.cells ++ fflat es := by simp [fflat]
    rw [this, Nat.zero_mul, Nat.zero_add, List.getElem?_append_left (show i < 10 from hi)]
  | q :: es, j + 1, e, h, i, hi => by
    have : fflat (q :: es) = q.cells ++ fflat es := by simp [fflat]
    rw [this, List.getElem?_append_right (show 10 ≤ _ by omega), show (j + 1) * 10 + i - q.cells.length = j * 10 + i from (show (j + 1) * 10 + i - 10 = _ by omega)]
    exact fflat_at es j e (by simpa using h) i hi
theorem fflat_one_cell (es : List FV) : ∀ u ∈ fflat es, u.oneCell' = true := by
  intro u hu
  obtain ⟨e, _, he⟩ := List.mem_flatMap.1 hu
  simp only [FV.cells, farr, List.mem_cons, List.not_mem_nil, or_false] at he
  rcases he with rfl | rfl | rfl | rfl | rfl | rfl | rfl | rfl | rfl | rfl <;> rfl
def LiesAll (w : World) (B : Nat) (es : List FV) : Prop := ∀ e ∈ es, Lies w B e.f e.D e.dc e.S e.sc
/-- A row of the call's own of frames. -/
def OwnF (w : World) (base : Nat) (v : Value) (es : List FV) : Prop := w.ownsRow base 26 10 v es.length (fflat es)
/-- The slice at A reads as frames, from a block below B. -/
def RdF (w : World) (B : Nat) (A : Option Addr) (es : List FV) : Prop :=
  es ≠ [] → ∃ b off, A = some ⟨b, off, none⟩ ∧ b < B ∧ ∀ j e, es[j]? = some e → At w b (off + j * 10) e.f e.D e.dc e.S e.sc
theorem RdF.below {w w' : World} {B : Nat} {A : Option Addr} {es : List FV} (h : RdF w B A es) (hb : Below B w w') : RdF w' B A es := fun hn => by
  obtain ⟨b, off, e, hlt, hc⟩ := h hn
  exact ⟨b, off, e, hlt, fun j e he => (hc j e he).keeps fun i => hb.cell hlt⟩
theorem RdF.wide {w : World} {B B' : Nat} {A : Option Addr} {es : List FV} (h : RdF w B A es) (hB : B ≤ B') : RdF w B' A es := fun hn => by
  obtain ⟨b, off, e, hlt, hc⟩ := h hn
  exact ⟨b, off, e, by omega, hc⟩
theorem LiesAll.step {w w' : World} {es : List FV} (h : LiesAll w w.heap.size es) (hb : Below w.heap.size w w') : LiesAll w' w'.heap.size es := fun e he => (h e he).step hb
theorem OwnF.below {w w' : World} {base B : Nat} {v : Value} {es : List FV} (h : OwnF w base v es) (hb : Below B w w') (hB : w.heap.size ≤ B) : OwnF w' base v es := by
  refine ⟨h.1, ?_⟩
  rcases h.2 with hn | ⟨g, cap, cur, rfl, hg, hh, rest⟩
  · exact .inl hn
  · exact .inr ⟨g, cap, cur, rfl, hg, by rw [hb.block g (by have := (Array.getElem?_eq_some_iff.1 hh).1; omega)]; exact hh, rest⟩
theorem OwnF.block {w : World} {base : Nat} {v : Value} {es : List FV} (h : OwnF w base v es) : ∀ k, v.ownBlock = some k → base ≤ k ∧ k < w.heap.size := World.ownsRow.lt h
theorem OwnF.rd {w : World} {base : Nat} {v : Value} {es : List FV} (h : OwnF w base v es) : ∃ A c, v = .slice A es.length c ∧ RdF w w.heap.size A es ∧ es.length ≤ c ∧ c ≤ maxLen := by
  have h0 := h
  rcases h.2 with ⟨rfl, hn⟩ | ⟨g, cap, cur, rfl, hg, hh, hn, hcap, hsz, htake⟩
  · have : es = [] := List.eq_nil_of_length_eq_zero hn
    subst this
    exact ⟨none, 0, rfl, fun h => absurd rfl h, Nat.le_refl _, Nat.zero_le _⟩
  · refine ⟨some ⟨g, 0, none⟩, cap, rfl, fun _ => ⟨g, 0, rfl, (Array.getElem?_eq_some_iff.1 hh).1, fun j e he => ?_⟩, hn, hcap⟩
    have hj : j < es.length := by rcases Nat.lt_or_ge j es.length with h | h; exact h; rw [List.getElem?_eq_none h] at he; cases he
    have k : ∀ i, i < 10 → w.cell? ⟨g, j * 10 + i, none⟩ = e.cells[i]? := fun i hi => (World.ownsRow.cellAt h0 (j * 10 + i) (by omega)).trans (fflat_at es j e he i hi)
    rw [Nat.zero_add]
    exact ⟨k 0 (by omega), k 1 (by omega), k 2 (by omega), k 3 (by omega), k 4 (by omega), k 5 (by omega), k 6 (by omega), k 7 (by omega), k 8 (by omega), k 9 (by omega)⟩
theorem frame_info : (Tryd.prog.info? 26).map (fun i => (i.zero, i.size, i.bytes)) = some (some (.agg #[.int .i64 0, .int .u64 0, .int .u64 0, .int .u64 0, .int .u64 0, .int .u64 0, .int .u64 0, .bool false, .slice none 0 0, .slice none 0 0]), 10, 112) := by kernel_rfl
theorem cell_frame_new (w : World) (e : FV) : ∀ j u, (fflat [e])[j]? = some u → (w.alloc (.cells (farr e.f e.D e.dc e.S e.sc) 26)).cell? ((⟨w.heap.size, 0, none⟩ : Addr).add j) = some u := by
  intro j u hj
  rw [add_plain, Nat.zero_add, World.cell?_alloc_at _ _ _ _ rfl, ← hj, fflat_one]
  exact (Array.getElem?_toList (xs := farr e.f e.D e.dc e.S e.sc) (i := j)).symm

/-- The row's block is none in which the frame's slices lie. -/
def Ap (row : Option Nat) (e : FV) : Prop := (e.f.data ≠ [] → ∀ b o s, e.D = some ⟨b, o, s⟩ → row ≠ some b) ∧ (e.f.spans ≠ [] → ∀ b o s, e.S = some ⟨b, o, s⟩ → row ≠ some b)
theorem Lies.grown {w w' : World} {e : FV} {row : Option Nat} (h : Lies w w.heap.size e.f e.D e.dc e.S e.sc) (ha : Ap row e) (hg : w.grownBy w' row) : Lies w' w'.heap.size e.f e.D e.dc e.S e.sc := by
  refine ⟨h.dl, h.dm, fun hn => ?_, h.sl, h.sm, fun hn => ?_⟩
  · obtain ⟨b, off, eD, hlt, hc⟩ := h.dr hn
    have q := hg.block b hlt (fun e2 => ha.1 hn b off none eD e2.symm)
    exact ⟨b, off, eD, Nat.lt_of_lt_of_le hlt hg.size, fun j x hx => (World.cell?_of_block (w := w) q).trans (hc j x hx)⟩
  · obtain ⟨b, off, eS, hlt, hc⟩ := h.sr hn
    have q := hg.block b hlt (fun e2 => ha.2 hn b off none eS e2.symm)
    exact ⟨b, off, eS, Nat.lt_of_lt_of_le hlt hg.size, fun j p hp => ⟨(World.cell?_of_block (w := w) q).trans (hc j p hp).1, (World.cell?_of_block (w := w) q).trans (hc j p hp).2⟩⟩
theorem Lies.new {w : World} {e : FV} {g : Nat} (h : Lies w w.heap.size e.f e.D e.dc e.S e.sc) (hg : g = w.heap.size) : Ap (some g) e := by
  refine ⟨fun hn b o s e1 e2 => ?_, fun hn b o s e1 e2 => ?_⟩
  · obtain ⟨b', off, eD, hlt, _⟩ := h.dr hn
    rw [e1] at eD
    injection eD with eD
    injection eD with q1
    injection e2 with e2
    omega
  · obtain ⟨b', off, eS, hlt, _⟩ := h.sr hn
    rw [e1] at eS
    injection eS with eS
    injection eS with q1
    injection e2 with e2
    omega
/-- What All returns and leaves. -/
def AllAt (xs : List Nat) (w : World) (e : Ending) (w' : World) : Prop :=
  ∃ v es, e = .returned (.tuple #[v, .int .i64 ((Wig.aerr xs : Nat) : Int)]) ∧ OwnF w' w.heap.size v es ∧ es.map FV.f = Wig.afr xs ∧ LiesAll w' w'.heap.size es ∧ Below w.heap.size w w'
theorem allAt_no {xs : List Nat} {w w' : World} (h : Wig.fall xs = none) (hb : Below w.heap.size w w') : AllAt xs w (.returned (.tuple #[.slice none 0 0, .int .i64 50])) w' := by
  refine ⟨.slice none 0 0, [], by unfold Wig.aerr; rw [h]; rfl, World.ownsRow_nil _ _ _ _, by unfold Wig.afr; rw [h]; rfl, (fun e he => by cases he), hb⟩
theorem allAt_ok {xs : List Nat} {w w' : World} {v : Value} {es : List FV} (h : Wig.fall xs = some (es.map FV.f)) (ho : OwnF w' w.heap.size v es) (hl : LiesAll w' w'.heap.size es) (hb : Below w.heap.size w w') : AllAt xs w (.returned (.tuple #[v, .int .i64 0])) w' :=
  ⟨v, es, by unfold Wig.aerr; rw [h]; rfl, ho, by unfold Wig.afr; rw [h]; rfl, hl, hb⟩
/-- At All's round's head: these frames are told, these bytes are left. -/
def AllRel (xs : List Nat) (w : World) (vb vo : Value) (wr : World) : Prop :=
  ∃ A n c r es, vb = .slice A n c ∧ n = r.length ∧ n ≤ c ∧ c ≤ maxLen ∧ RdN .u8 wr w.heap.size A r ∧ Wig.Bytes r ∧ OwnF wr w.heap.size vo es ∧ LiesAll wr wr.heap.size es ∧ Below w.heap.size w wr ∧ (Wig.rdFrames r.length r).map (es.map FV.f ++ ·) = Wig.rdFrames xs.length xs ∧ es.length + r.length ≤ 100000 ∧ (es = [] → r = xs) ∧ (∀ e ∈ es, Ap vo.ownBlock e)

set_option maxHeartbeats 4000000 in
theorem all_any (A : Option Addr) (n c : Nat) (xs : List Nat) (w : World) (hx : Wig.Bytes xs) (hn : n = xs.length) (h5 : n ≤ 100000) (hc : n ≤ c) (hm : c ≤ maxLen) (hr : RdN .u8 w w.heap.size A xs) (h2 : 2 ≤ w.heap.size) (hT : Tab w ∧ NTab w) :
    Calls Tryd.prog 13 #[.slice A n c] w (AllAt xs w) := by
  obtain ⟨i0, hi, hz0, hz1, hz2⟩ := info_parts frame_info
  have A0 := Lib.hid (show AllRel xs w (.slice A n c) (.slice none 0 0) w from ⟨A, n, c, xs, [], rfl, hn, hc, hm, hr, hx, World.ownsRow_nil _ _ _ _, fun e he => (by cases he), Below.refl _ _, by cases h : Wig.rdFrames xs.length xs <;> rfl, by simp; omega, fun _ => rfl, fun e he => (by cases he)⟩)
  have HT := Lib.hid hT
  have H2 := Lib.hid h2
  clear hx hn h5 hc hm hr h2 hT
  go_enter Tryd.func13, Tryd.ntmps13
  go_wp2_with fail
  go_loopw [0, 4] (fun vb vo wr => AllRel xs w vb vo wr) (fun vb _ _ => match vb with | .slice _ n _ => n | _ => 0)
  case atStart => exact A0.out
  case round =>
    obtain ⟨A, n, c, r, es, rfl, hn, hc, hm, hr, hx, hown, hlie, hbel, heq, hlen, hes, hap⟩ := hrel
    have HAP := Lib.hid hap
    clear hap
    clear A0
    have hsz := hbel.size
    have KO := Lib.hid hown
    have KL := Lib.hid hlie
    have KB := Lib.hid hbel
    by_cases h0 : n = 0
    · subst h0
      have hr0 : r = [] := List.eq_nil_of_length_eq_zero hn.symm
      subst hr0
      have heq2 : Wig.rdFrames xs.length xs = some (es.map FV.f) := by rw [← heq]; simp [Wig.rdFrames]
      obtain ⟨Ao, co, e, _, _, _⟩ := hown.rd
      by_cases he0 : es = []
      · have hxs := hes he0
        have R := Lib.hid (allAt_no (w := w) (w' := wr) (show Wig.fall xs = none by unfold Wig.fall; rw [if_pos hxs.symm]) hbel)
        subst he0
        simp only [List.length_nil] at e
        have t : decide ((0 : Int) < 0) = false := by decide
        subst e
        clear hn hc hm hr hx hown hlie hbel heq hlen hes heq2 hsz hxs
        go_wp2_with fail
        go_ret2
        exact R.out
      · have hxs : xs ≠ [] := by
          intro h
          rw [h] at heq2
          simp [Wig.rdFrames] at heq2
          exact he0 heq2
        have R := Lib.hid (allAt_ok (w := w) (w' := wr) (v := u4) (show Wig.fall xs = some (es.map FV.f) by unfold Wig.fall; rw [if_neg hxs]; exact heq2) hown hlie hbel)
        obtain ⟨k, hk⟩ : ∃ k, k = es.length := ⟨_, rfl⟩
        have hk0 : ¬ k = 0 := fun h => he0 (List.eq_nil_of_length_eq_zero (by omega))
        rw [← hk] at e
        have t : ((k : Int) == 0) = false := by simp; omega
        subst e
        clear hn hc hm hr hx hown hlie hbel heq hlen hes heq2 hsz hxs he0 hk hk0 KO
        go_wp2_with fail
        go_ret2
        exact R.out
    · have t0 : decide ((0 : Int) < (n : Int)) = true := decide_eq_true (by omega)
      have t0' : decide (0 < n) = true := decide_eq_true (by omega)
      have C := Lib.hid (parse_any A n c r wr hx hn (by omega) hc hm (hr.wide hsz) (by have := H2.out; omega) ⟨HT.out.1.below hbel, HT.out.2.below hbel⟩)
      unfold ParseAt at C
      have hrne : r ≠ [] := fun h => h0 (by rw [hn, h]; rfl)
      cases hrd : Wig.rdFrame r with
      | none =>
        have e1 : Wig.perr r = 50 := by unfold Wig.perr; rw [hrd]
        rw [e1] at C
        have hno : Wig.rdFrames xs.length xs = none := by rw [← heq, Wig.rdFrames_none hrne hrd]; rfl
        have hxs : xs ≠ [] := by intro h; rw [h] at hno; simp [Wig.rdFrames] at hno
        have R := Lib.hid fun (w' : World) (hb : Below w.heap.size w w') => allAt_no (show Wig.fall xs = none by unfold Wig.fall; rw [if_neg hxs]; exact hno) hb
        clear hn hc hm hr hx hown hlie hbel heq hlen hes hsz hxs hrne hrd hno e1 KO KL
        obtain ⟨pl, hpl⟩ : ∃ pl, pl = Wig.plen r := ⟨_, rfl⟩
        rw [← hpl] at C
        clear hpl
        go_wp2_with fail
        refine (C.out).mono ?_
        rintro e w1 ⟨D, dc, S, sc, rfl, hl, hb1, -, -⟩
        generalize Wig.pfr r = f at *
        have R' := Lib.hid fun o => R.out ((w1.alloc o)) ((KB.out.trans (hb1.mono KB.out.size)).alloc (by have := KB.out.size; have := hb1.size; omega) o)
        clear hl hb1 R
        simp only [farr]
        go_wp2_with fail
        go_ret2
        exact R'.out _
      | some q =>
        obtain ⟨f, r2⟩ := q
        have e1 : Wig.perr r = 0 := by unfold Wig.perr; rw [hrd]
        have e2 : Wig.pfr r = f := by unfold Wig.pfr; rw [hrd]
        obtain ⟨hfine, _, _, hl2⟩ := Wig.rd_fine hx hrd
        have hd2 := Wig.rd_drop hx hrd
        obtain ⟨s, hs⟩ : ∃ s, s = r.length - r2.length := ⟨_, rfl⟩
        have e3 : Wig.plen r = s := by unfold Wig.plen; rw [hrd, hs]
        rw [e1, e2, e3] at C
        rw [← hs] at hd2
        rw [Wig.rdFrames_step hx hrd] at heq
        have heq2 : (Wig.rdFrames r2.length r2).map ((es.map FV.f ++ [f]) ++ ·) = Wig.rdFrames xs.length xs := by
          rw [← heq]
          cases Wig.rdFrames r2.length r2 <;> simp
        have hx2 : Wig.Bytes r2 := by rw [hd2]; exact hx.drop s
        have E := Lib.hid (And.intro heq2 (And.intro hx2 (And.intro hd2 hn)))
        have HL := fun _ : Unit => (show es.length + r2.length + 1 ≤ 100000 by omega)
        have HR := Lib.hid hr
        have b1 : (0 : Int) ≤ (s : Int) := by omega
        have b2 : s ≤ n := by omega
        have b3 : s ≤ c := by omega
        have b4 : n ≤ c := hc
        have hs0 : 0 < s := by omega
        have HC := Lib.hid (And.intro hc hm)
        have HS := Lib.hid (show r2.length = n - s ∧ s ≤ n ∧ 0 < s by omega)
        have hex : ∃ ab ao, A = some ⟨ab, ao, none⟩ := by
          obtain ⟨ab, ao, e, _⟩ := hr hrne
          exact ⟨ab, ao, e⟩
        obtain ⟨ab, ao, rfl⟩ := hex
        have HSZ := Lib.hid hsz
        clear hn hc hm hr hx hown hlie hbel heq hlen hes hsz hrne hrd e1 e2 e3 hl2 hd2 hs heq2 hx2 hs0 hfine
        go_wp2_with fail
        refine (C.out).mono ?_
        rintro e w1 ⟨D, dc, S, sc, rfl, hl, hb1, hD, hS⟩
        have AP0 := Lib.hid (show Ap u4.ownBlock ⟨f, D, dc, S, sc⟩ from ⟨fun _ b o s e e2 => by have := hD b o s e; have := (KO.out.block b e2).2; omega, fun _ b o s e e2 => by have := hS b o s e; have := (KO.out.block b e2).2; omega⟩)
        clear hD hS
        have O1 := Lib.hid (KO.out.below hb1 (Nat.le_refl _))
        have L1 := Lib.hid (KL.out.step hb1)
        have B1 := Lib.hid (KB.out.trans (hb1.mono HSZ.out))
        have F1 := Lib.hid hl
        have R1 := Lib.hid (HR.out.below (hb1.mono HSZ.out))
        clear hl hb1 C KO KL
        obtain ⟨wb, hwb⟩ : ∃ wb, wb = w1.alloc (.cells #[.int .i64 f.kind, .int .u64 (f.id : Int), .int .u64 (f.off : Int), .int .u64 (f.max : Int), .int .u64 (f.code : Int), .int .u64 (f.delay : Int), .int .u64 (f.ce : Int), .bool f.fin, .slice D f.data.length dc, .slice S f.spans.length sc] 26) := ⟨_, rfl⟩
        have hbb : Below w1.heap.size w1 wb := by rw [hwb]; exact (Below.refl _ _).alloc (Nat.le_refl _) _
        have hat : At wb w1.heap.size 0 f D dc S sc := by rw [hwb]; exact at_box w1 f D dc S sc 26
        have O2 := Lib.hid (O1.out.below hbb (Nat.le_refl _))
        have L2 := Lib.hid (L1.out.step hbb)
        have B2 := Lib.hid (B1.out.trans (hbb.mono B1.out.size))
        have F2 := Lib.hid (F1.out.step hbb)
        have R2 := Lib.hid (R1.out.below (hbb.mono B1.out.size))
        have AT := Lib.hid hat
        clear hat hbb O1 L1 F1 R1
        simp only [farr]
        go_upto_region 6 with fail
        rw [← hwb]
        clear hwb
        have k0 := AT.out.c0
        have k1 := AT.out.c1
        have k2 := AT.out.c2
        have k3 := AT.out.c3
        have k4 := AT.out.c4
        have k5 := AT.out.c5
        have k6 := AT.out.c6
        have k7 := AT.out.c7
        have k8 := AT.out.c8
        have k9 := AT.out.c9
        simp only [Nat.zero_add] at k0 k1 k2 k3 k4 k5 k6 k7 k8 k9
        go_wp2_with (at_builtin; refine wpList_append_lies _ rfl _ _ 35 rfl w.heap.size 26 i0 (.agg #[.int .i64 0, .int .u64 0, .int .u64 0, .int .u64 0, .int .u64 0, .int .u64 0, .int .u64 0, .bool false, .slice none 0 0, .slice none 0 0]) 10 112 Tryd.underlying35 hi hz0 hz1 hz2 rfl (by decide) _ _ _ rfl (World.ownsRow.alloc O2.out _) ⟨wb.heap.size, 0, none⟩ 1 1 (fflat [⟨f, D, dc, S, sc⟩]) rfl rfl ?c1 ?c2 (by decide) ?c3 ?c4 ?c5 (wb.heap.size + 1) (by simp) ?_)
        case c1 => exact cell_frame_new wb ⟨f, D, dc, S, sc⟩
        case c2 => exact fflat_one_cell _
        case c3 => have := HL (); unfold maxLen; omega
        case c4 => have := HL (); omega
        case c5 => have := B2.out.size; simp; omega
        intro gg cap w3 hown3 hgr3 hat3 hlt3
        obtain ⟨wc, hwc⟩ : ∃ wc, wc = wb.alloc (.cells #[.int .i64 f.kind, .int .u64 (f.id : Int), .int .u64 (f.off : Int), .int .u64 (f.max : Int), .int .u64 (f.code : Int), .int .u64 (f.delay : Int), .int .u64 (f.ce : Int), .bool f.fin, .slice D f.data.length dc, .slice S f.spans.length sc] 26) := ⟨_, rfl⟩
        rw [← hwc] at hgr3
        have hbc : Below wb.heap.size wb wc := by rw [hwc]; exact (Below.refl _ _).alloc (Nat.le_refl _) _
        have hsc : wc.heap.size = wb.heap.size + 1 := by rw [hwc]; simp
        have hb3 : Below w.heap.size w w3 := (B2.out.trans (hbc.mono B2.out.size)).grown hgr3 (by have := B2.out.size; omega) (fun q hq => (O2.out.block q hq).1)
        have hlall : ∀ e ∈ es ++ [⟨f, D, dc, S, sc⟩], Lies wc wc.heap.size e.f e.D e.dc e.S e.sc ∧ Ap u4.ownBlock e := fun e he => by
          rcases List.mem_append.1 he with he | he
          · exact ⟨(L2.out e he).step hbc, HAP.out e he⟩
          · rw [List.mem_singleton.1 he]
            exact ⟨F2.out.step hbc, AP0.out⟩
        have hl3 : LiesAll w3 w3.heap.size (es ++ [⟨f, D, dc, S, sc⟩]) := fun e he => (hlall e he).1.grown (hlall e he).2 hgr3
        have hap3 : ∀ e ∈ es ++ [⟨f, D, dc, S, sc⟩], Ap (some gg) e := fun e he => by
          rcases hat3 with h | h
          · have := (hlall e he).2; rwa [h] at this
          · exact (hlall e he).1.new (by omega)
        have ho3 : OwnF w3 w.heap.size (.slice (some ⟨gg, 0, none⟩) (es.length + 1) cap) (es ++ [⟨f, D, dc, S, sc⟩]) := by
          unfold OwnF
          rw [fflat_app, List.length_append]
          exact hown3
        have hr3 : RdN .u8 w3 w.heap.size (some ⟨ab, ao, none⟩) r := (R2.out.below (hbc.mono B2.out.size)).below ((Below.refl w.heap.size wc).grown hgr3 (by have := B2.out.size; omega) (fun q hq => (O2.out.block q hq).1))
        have fin : ∀ A' c', n - s ≤ c' → c' ≤ maxLen → RdN .u8 w3 w.heap.size A' r2 → AllRel xs w (.slice A' (n - s) c') (.slice (some ⟨gg, 0, none⟩) (es.length + 1) cap) w3 := fun A' c' h1 h2 h3 =>
          ⟨A', n - s, c', r2, es ++ [⟨f, D, dc, S, sc⟩], rfl, HS.out.1.symm, h1, h2, h3, E.out.2.1, ho3, hl3, hb3, by rw [List.map_append]; exact E.out.1, by rw [List.length_append]; have := HL (); simp; omega, fun h => by simp at h, hap3⟩
        have F := Lib.hid fin
        have R3 := Lib.hid hr3
        clear hown3 hgr3 hat3 hlt3 hwc hbc hsc hb3 hlall hl3 hap3 ho3 hr3 fin k0 k1 k2 k3 k4 k5 k6 k7 k8 k9
        by_cases hcs : c = s
        · have hns : n = s := by have := HC.out.1; omega
          subst hcs hns
          have R := Lib.hid fun A' => F.out A' 0 (by omega) (by omega) (by rw [show r2 = [] from List.eq_nil_of_length_eq_zero (by have := HS.out; omega)]; exact RdN.empty)
          rw [Nat.sub_self] at R
          have M := Lib.hid HS.out.2.2
          clear b2 b3 b4 F
          go_wp2_with fail
          go_roundw
          case rel => exact R.out _
          case measure => exact M.out
        · have R := Lib.hid (F.out (some ⟨ab, ao + s, none⟩) (c - s) (by have := HC.out; omega) (by have := HC.out; omega) (by rw [E.out.2.2.1]; exact RdN.drop R3.out s))
          have M := Lib.hid (show n - s < n by have := HS.out; omega)
          clear F
          go_wp2_with fail
          go_roundw
          case rel => exact R.out
          case measure => exact M.out
end Go.Proofs.YtogioabdijgglaaDoor
