/-
  FrameLists: the frames' bytes behind each other are read as the frames. Condition: the tables hold what the program's text lays (the card ties them).
-/
import Derived.Test.YtfclfnpihmhcjaaDoorFew
namespace Go.Proofs.YtfclfnpihmhcjaaDoor.frameLists
open Go.ChangeShapes Go.WideShapes Go.ChangeAt Go.RowKit Go.Deep
set_option linter.unusedVariables false
/-- Two rows of one's own of different types lie in different blocks. -/
theorem rows_apart {w : World} {b1 b2 s1 s2 n1 n2 : Nat} {e1 e2 : TypeId} {v1 v2 : Value} {xs1 xs2 : List Value} (h1 : w.ownsRow b1 e1 s1 v1 n1 xs1) (h2 : w.ownsRow b2 e2 s2 v2 n2 xs2) (hne : e1 ≠ e2) : v1.ownBlock = none ∨ v1.ownBlock ≠ v2.ownBlock := by
  rcases h1.2 with ⟨e1', _⟩ | ⟨g1, cap1, cur1, e1', _, hh1, _⟩
  · left; rw [e1']; rfl
  · right
    intro he
    rcases h2.2 with ⟨e2', _⟩ | ⟨g2, cap2, cur2, e2', _, hh2, _⟩
    · rw [e1', e2'] at he; cases he
    · rw [e1', e2'] at he
      simp [Value.ownBlock] at he
      subst he
      rw [hh1] at hh2
      injection hh2 with hh2
      injection hh2 with _ q
      exact hne q
theorem flds_seven {k : Nat} {has : List Nat} (h : Wig.flds k = some has) : has.length ≤ 7 := by
  rcases Wig.flds_cases h with ⟨_, rfl⟩ | ⟨_, rfl⟩ | ⟨_, rfl⟩ | ⟨_, rfl⟩ | ⟨_, rfl⟩ | ⟨_, rfl⟩ | ⟨_, rfl⟩ | ⟨_, rfl⟩ | ⟨_, rfl⟩ | ⟨_, rfl⟩ | ⟨_, rfl⟩ | ⟨_, rfl⟩ | ⟨_, rfl⟩ | ⟨_, rfl⟩ | ⟨_, rfl⟩ <;> simp
theorem fenc_thin {f : Wig.Fr} (h : Wig.fine f = true) : (Wig.fenc f).length ≤ 9900 := by
  obtain ⟨has, hf, _⟩ := Wig.fine_parts h
  have h8 : has.length ≤ 7 := flds_seven hf
  have := Wig.lay_take_len (f := f) (has := has) (fun k hk => Wig.layF_len h hf hk) has.length
  rw [List.take_length] at this
  have h2 := Wig.vsize_le (Wig.wkind f)
  unfold Wig.fenc
  rw [if_pos h, hf, Option.getD_some, List.length_append, Wig.venc_length]
  omega
theorem sum_len {gs : List FV} (h : ∀ e ∈ gs, Wig.fine e.f = true) : (gs.flatMap fun e => Wig.fenc e.f).length ≤ 9900 * gs.length := by
  induction gs with
  | nil => simp
  | cons e gs ih =>
    have h1 := fenc_thin (h e (List.mem_cons_self ..))
    have h2 := ih (fun x hx => h x (List.mem_cons_of_mem _ hx))
    rw [List.flatMap_cons, List.length_append, List.length_cons]
    omega
theorem sum_bytes {gs : List FV} (h : ∀ e ∈ gs, e.f.Ok) : Wig.Bytes (gs.flatMap fun e => Wig.fenc e.f) := by
  intro x hx
  obtain ⟨e, he, hx⟩ := List.mem_flatMap.1 hx
  exact Wig.fenc_bytes (h e he).data x hx
/-- At the loop's head: the fine ones of the first i frames, and their bytes. -/
def FlRel (es : List FV) (w : World) (vb vg vi : Value) (wr : World) : Prop :=
  ∃ (k : Nat) (gs : List FV), vi = .int .i64 (k : Int) ∧ k ≤ es.length ∧ k ≤ 10 ∧ gs.length ≤ k ∧ (∀ e ∈ gs, e ∈ es ∧ Wig.fine e.f = true ∧ Wig.few e.f = true) ∧
    OwnN .u8 5 wr w.heap.size vb (gs.flatMap fun e => Wig.fenc e.f) ∧ OwnF wr w.heap.size vg gs ∧ Below w.heap.size w wr

set_option maxRecDepth 20000 in
set_option maxHeartbeats 4000000 in
theorem walk (A : Option Addr) (c : Nat) (es : List FV) (ho : ∀ e ∈ es, e.f.Ok) (hl : es.length ≤ c) (hm : c ≤ maxLen) (w : World) (hs : LiesAll w w.heap.size es) (hr : RdF w w.heap.size A es) (hT : Tab w ∧ NTab w) :
    Calls Tryd.prog 9 #[.slice A es.length c] w fun e w' => e = .returned (.bool true) ∧ Below w.heap.size w w' := by
  obtain ⟨i0, hi, hz0, hz1, hz2⟩ := info_parts frame_info
  obtain ⟨n, hn⟩ : ∃ n, n = es.length := ⟨_, rfl⟩
  rw [← hn] at hl ⊢
  have C := Lib.hid (awake_any w hT)
  have HT := Lib.hid hT
  have HR := Lib.hid hr
  have HL := Lib.hid hs
  have HN := Lib.hid hn
  have HO := Lib.hid ho
  clear hr hn hs hl hm hT ho
  go_enter Tryd.func9, Tryd.ntmps9
  go_wp2_with fail
  refine (C.out).mono ?_
  rintro e w0 ⟨rfl, hb0⟩
  have B0 := Lib.hid hb0
  have T0 := Lib.hid (tabs_below HT.out hb0)
  have R0 := Lib.hid ((HR.out.below hb0).wide hb0.size)
  have L0 := Lib.hid (HL.out.step hb0)
  have A0 := Lib.hid (show FlRel es w0 (.slice none 0 0) (.slice none 0 0) (.int .i64 0) w0 from ⟨0, [], rfl, by omega, by omega, by simp, (fun e he => by cases he), World.ownsRow_nil _ _ _ _, World.ownsRow_nil _ _ _ _, Below.refl _ _⟩)
  clear hb0 C
  go_wp2_with fail
  go_loopw [4, 5, 6] (fun vb vg vi wr => FlRel es w0 vb vg vi wr) (fun _ _ vi _ => n - (intOf vi).toNat)
  case atStart => exact A0.out
  case round =>
    obtain ⟨k, gs, rfl, hk, hk10, hgk, hgs, hob, hog, hbel⟩ := hrel
    rw [← HN.out] at hk
    have KB := Lib.hid hbel
    have KO := Lib.hid hob
    have KG := Lib.hid hog
    have KH := Lib.hid (And.intro hgk hgs)
    clear A0 hgk hgs hob hog
    have g1 : IntKind.i64.wrap ((k : Int) + 1) = ((k : Int) + 1) := by rw [IntKind.wrap_i64]; omega
    by_cases hlt : k < n ∧ k < 10
    · have t1 : decide ((k : Int) < (n : Int)) = true := decide_eq_true (by omega)
      have t1' : decide (k < n) = true := decide_eq_true hlt.1
      have t2 : decide ((k : Int) < 10) = true := decide_eq_true (by omega)
      have t2' : decide (k < 10) = true := decide_eq_true hlt.2
      obtain ⟨⟨f, D, dc, S, sc⟩, hp⟩ : ∃ p, es[k]? = some p := ⟨_, List.getElem?_eq_getElem (by have := HN.out; omega)⟩
      obtain ⟨b, off, rfl, hb, hc⟩ := R0.out (by intro e; rw [e] at hp; simp at hp)
      have AT := Lib.hid (hc k _ hp)
      have PL := Lib.hid (L0.out _ (List.mem_of_getElem? hp))
      have PO := Lib.hid (HO.out _ (List.mem_of_getElem? hp))
      have PM := Lib.hid (List.mem_of_getElem? hp)
      simp only [] at AT PL PO
      have i0' : (0 : Int) ≤ (k : Int) := by omega
      have i1' : (k : Int) < (n : Int) := by omega
      have F0 := few_any ⟨f, D, dc, S, sc⟩ wr
      simp only [farr] at F0
      replace F0 := Lib.hid F0
      have M := Lib.hid (show k < n ∧ k < 10 from hlt)
      obtain ⟨k0, k1, k2, k3, k4, k5, k6, k7, k8, k9⟩ := AT.out.below hbel
      clear hp hb hc hbel hk hk10 hlt
      go_wp2_with fail
      refine (F0.out).mono ?_
      rintro e w1 ⟨rfl, hb1⟩
      have B1 := Lib.hid (KB.out.trans (hb1.mono KB.out.size))
      have O1 := Lib.hid (KO.out.below hb1 (Nat.le_refl _))
      have G1 := Lib.hid (KG.out.below hb1 (Nat.le_refl _))
      clear hb1 F0 k0 k1 k2 k3 k4 k5 k6 k7 k8 k9
      cases hfew : Wig.few f
      · have R := Lib.hid (show FlRel es w0 u4 u5 (.int .i64 ((k : Int) + 1)) w1 from ⟨k + 1, gs, by simp, by rw [← HN.out]; exact M.out.1, M.out.2, Nat.le_succ_of_le KH.out.1, KH.out.2, O1.out, G1.out, B1.out⟩)
        clear hfew
        go_wp2_with fail
        go_roundw
        case rel => exact R.out
        case measure => have := M.out; simp [intOf]; omega
      have FW := Lib.hid hfew
      obtain ⟨k0, k1, k2, k3, k4, k5, k6, k7, k8, k9⟩ := AT.out.below B1.out
      have T1 := Lib.hid (tabs_below T0.out B1.out)
      have C2 := encode_any (.agg (farr f D dc S sc)) f w1 ⟨_, _, _, _, rfl, PL.out.step B1.out⟩ PO.out (two_le T1.out) T1.out
      simp only [farr] at C2
      replace C2 := Lib.hid C2
      clear hfew
      go_wp2_with fail
      refine (C2.out).mono ?_
      rintro e w2 ⟨x, rfl, ⟨A2, n2, c2, rfl, hn2, hnc2, hm2, hr2, -⟩, hb2⟩
      have X2 := Lib.hid (And.intro hn2 (And.intro hnc2 (And.intro hm2 hr2)))
      have B2 := Lib.hid (B1.out.trans (hb2.mono B1.out.size))
      have O2 := Lib.hid (O1.out.below hb2 (Nat.le_refl _))
      have G2 := Lib.hid (G1.out.below hb2 (Nat.le_refl _))
      clear hn2 hnc2 hm2 hr2 hb2 C2 k0 k1 k2 k3 k4 k5 k6 k7 k8 k9 O1 G1
      cases hfin : Wig.fine f
      · have R := Lib.hid (show FlRel es w0 u4 u5 (.int .i64 ((k : Int) + 1)) w2 from ⟨k + 1, gs, by simp, by rw [← HN.out]; exact M.out.1, M.out.2, Nat.le_succ_of_le KH.out.1, KH.out.2, O2.out, G2.out, B2.out⟩)
        rw [ferr_no hfin]
        clear hfin
        go_wp2_with fail
        go_roundw
        case rel => exact R.out
        case measure => have := M.out; simp [intOf]; omega
      rw [ferr_ok hfin]
      have N2 := Lib.hid (show n2 ≤ 20000 by rw [X2.out.1]; exact fenc_short hfin)
      have SL := Lib.hid (sum_len (gs := gs) (fun e he => (KH.out.2 e he).2.1))
      have FI := Lib.hid hfin
      have S2 := Lib.hid B2.out.size
      clear hfin
      go_wp2_with (at_builtin; refine wpList_append_bytes rfl _ _ rfl w0.heap.size _ _ (Wig.fenc f) rfl O2.out w2.heap.size A2 c2 n2 X2.out.1.symm rfl X2.out.2.2.2 (by have := N2.out; have := SL.out; have := KH.out.1; have := M.out; omega) S2.out ?_)
      intro v3 w3 hown3 hg3
      have hb3 : Below w0.heap.size w2 w3 := (Below.refl _ _).grown hg3 S2.out (fun q hq => (O2.out.block q hq).1)
      have B3 := Lib.hid (B2.out.trans hb3)
      have O3 := Lib.hid hown3
      have G3 := Lib.hid (World.ownsRow.kept G2.out hg3 (rows_apart G2.out O2.out (by decide)))
      have S3 := Lib.hid B3.out.size
      obtain ⟨k0, k1, k2, k3, k4, k5, k6, k7, k8, k9⟩ := AT.out.below B3.out
      clear hown3 hg3 hb3
      go_wp2_with (at_builtin; refine wpList_append_own _ rfl _ _ 35 rfl w0.heap.size 27 i0 (.agg #[.int .i64 0, .int .u64 0, .int .u64 0, .int .u64 0, .int .u64 0, .int .u64 0, .int .u64 0, .bool false, .slice none 0 0, .slice none 0 0]) 10 112 Tryd.underlying35 hi hz0 hz1 hz2 rfl (by decide) _ _ _ rfl (World.ownsRow.alloc G3.out _) ⟨w3.heap.size, 0, none⟩ 1 1 (fflat [⟨f, D, dc, S, sc⟩]) rfl rfl ?c1 ?c2 ?c3 ?c4 ?c5 ?_)
      case c1 => first | exact cell_frame_new w3 ⟨f, D, dc, S, sc⟩ | exact fun j u h => h | fail
      case c2 => exact fflat_one_cell _
      case c3 => have := KH.out.1; have := M.out; unfold maxLen; omega
      case c4 => have := KH.out.1; have := M.out; omega
      case c5 => have := S3.out; simp; omega
      intro v5 w5 hown5 hgr5 _
      have O5 := World.ownsRow.kept (World.ownsRow.alloc O3.out _) hgr5 (rows_apart O3.out G3.out (by decide))
      have hb5 : Below w0.heap.size w0 w5 := (B3.out.alloc S3.out _).grown hgr5 (by have := S3.out; simp; omega) (fun q hq => (World.ownsRow.lt G3.out q hq).1)
      have R := Lib.hid (show FlRel es w0 v3 v5 (.int .i64 ((k : Int) + 1)) w5 from ⟨k + 1, gs ++ [⟨f, D, dc, S, sc⟩], by simp, by rw [← HN.out]; exact M.out.1, M.out.2, by rw [List.length_append]; have := KH.out.1; simp; omega, (fun e he => by
        rcases List.mem_append.1 he with he | he
        · exact KH.out.2 e he
        · rw [List.mem_singleton.1 he]; exact ⟨PM.out, FI.out, FW.out⟩), by
          rw [List.flatMap_append, List.flatMap_cons, List.flatMap_nil, List.append_nil]; exact O5, by
          unfold OwnF; rw [fflat_app, List.length_append]; exact hown5, hb5⟩)
      clear hown5 hgr5 O5 hb5 k0 k1 k2 k3 k4 k5 k6 k7 k8 k9
      go_wp2_with fail
      go_roundw
      case rel => exact R.out
      case measure => have := M.out; simp [intOf]; omega
    · have KD := Lib.hid (show gs.length ≤ 10 by have := KH.out.1; omega)
      have SL := Lib.hid (sum_len (gs := gs) (fun e he => (KH.out.2 e he).2.1))
      obtain ⟨Ab, cb, rfl, lb, mb, rb, -⟩ := KO.out.rd
      obtain ⟨Ag, cg, rfl, rg, lg, mg⟩ := KG.out.rd
      obtain ⟨nb, hnb⟩ : ∃ nb, nb = (gs.flatMap fun e => Wig.fenc e.f).length := ⟨_, rfl⟩
      rw [← hnb] at lb ⊢
      obtain ⟨ng, hng⟩ : ∃ ng, ng = gs.length := ⟨_, rfl⟩
      rw [← hng] at lg ⊢
      have Tr := Lib.hid (tabs_below T0.out KB.out)
      have C := all_any Ab nb cb (gs.flatMap fun e => Wig.fenc e.f) wr (sum_bytes (fun e he => HO.out e (KH.out.2 e he).1)) hnb (by have := SL.out; have := KD.out; omega) lb mb rb (two_le Tr.out) Tr.out
      unfold AllAt at C
      have ALL : Wig.afr (gs.flatMap fun e => Wig.fenc e.f) = gs.map FV.f ∧ (Wig.aerr (gs.flatMap fun e => Wig.fenc e.f) = if ng = 0 then 50 else 0) := by
        by_cases h0 : gs = []
        · subst h0
          rw [hng]
          exact ⟨rfl, rfl⟩
        · have e := Wig.fall_list (gs.map FV.f) (by intro x hx; obtain ⟨e, he, rfl⟩ := List.mem_map.1 hx; exact ⟨(KH.out.2 e he).2.1, HO.out e (KH.out.2 e he).1⟩) (by simpa using h0)
          rw [List.flatMap_map] at e
          have hn0 : ¬ ng = 0 := by rw [hng]; intro h; exact h0 (List.eq_nil_of_length_eq_zero h)
          unfold Wig.afr Wig.aerr
          rw [e, if_neg hn0]
          exact ⟨rfl, rfl⟩
      rw [ALL.1, ALL.2] at C
      replace C := Lib.hid C
      have RG := Lib.hid rg
      have HNG := Lib.hid hng
      have LG := Lib.hid (show LiesAll wr wr.heap.size gs from fun e he => (L0.out e (KH.out.2 e he).1).step KB.out)
      have FWG := Lib.hid (show ∀ e ∈ gs, e.f.spans.length ≤ 100000 from fun e he => by have := Wig.few_of (KH.out.2 e he).2.2; omega)
      have END := Lib.hid fun (wz : World) (vz : Value) (fs : List FV) (hz : OwnF wz wr.heap.size vz fs) (he : fs.map FV.f = gs.map FV.f) (hla : LiesAll wz wz.heap.size fs) (hb : Below wr.heap.size wr wz) => (show ∃ Az cz, vz = .slice Az ng cz ∧ Calls Tryd.prog 22 #[.slice Az ng cz, .slice Ag ng cg] wz (fun e w' => e = .returned (.bool true) ∧ Below wz.heap.size wz w') from by
        obtain ⟨Az, cz, e1, rz, _, _⟩ := hz.rd
        have hl : fs.length = gs.length := by have := congrArg List.length he; simpa using this
        refine ⟨Az, cz, by rw [e1, hl, HNG.out], sameAll_any Az Ag ng cz cg fs gs wz (by rw [HNG.out, hl]) HNG.out (by have := KD.out; have := HNG.out; omega) rz ((RG.out.below hb).wide hb.size) hla (fun e he => (LG.out e he).step hb) he (fun e he' => ?_)⟩
        have : e.f ∈ fs.map FV.f := List.mem_map.2 ⟨e, he', rfl⟩
        rw [he] at this
        obtain ⟨e2, h2, h3⟩ := List.mem_map.1 this
        rw [← h3]
        exact FWG.out e2 h2)
      have TT : (decide (k < n) = true ∧ decide ((k : Int) < (n : Int)) = true ∧ decide (k < 10) = false ∧ decide ((k : Int) < 10) = false) ∨ (decide (k < n) = false ∧ decide ((k : Int) < (n : Int)) = false) := by
        by_cases h1 : k < n
        · left
          have h2 : ¬ k < 10 := fun h => hlt ⟨h1, h⟩
          exact ⟨decide_eq_true h1, decide_eq_true (by omega), decide_eq_false h2, decide_eq_false (by omega)⟩
        · right
          exact ⟨decide_eq_false h1, decide_eq_false (by omega)⟩
      have NN : ng = 0 ∨ 0 < ng := by omega
      clear lb mb rb lg mg hnb hng rg ALL hk10 hk hlt hbel KO KG KH
      rcases NN with hz0' | hp0
      · subst hz0'
        rw [if_pos rfl] at C
        rcases TT with ⟨a1, a2, a3, a4⟩ | ⟨a1, a2⟩
        · go_wp2_with fail
          refine (C.out).mono ?_
          rintro e wz ⟨vz, fs, rfl, hz, he, hla, hbz⟩
          obtain ⟨Az, cz, rfl, SA⟩ := END.out wz vz fs hz he hla hbz
          replace SA := Lib.hid SA
          have Bz := Lib.hid (below_trans' B0.out (KB.out.trans (hbz.mono KB.out.size)))
          clear hz he hla hbz C
          go_wp2_with fail
          refine (SA.out).mono ?_
          rintro e wy ⟨rfl, hby⟩
          have R := Lib.hid (below_trans' Bz.out hby)
          clear hby SA
          go_wp2_with fail
          go_ret
          exact ⟨rfl, R.out⟩
        · go_wp2_with fail
          refine (C.out).mono ?_
          rintro e wz ⟨vz, fs, rfl, hz, he, hla, hbz⟩
          obtain ⟨Az, cz, rfl, SA⟩ := END.out wz vz fs hz he hla hbz
          replace SA := Lib.hid SA
          have Bz := Lib.hid (below_trans' B0.out (KB.out.trans (hbz.mono KB.out.size)))
          clear hz he hla hbz C
          go_wp2_with fail
          refine (SA.out).mono ?_
          rintro e wy ⟨rfl, hby⟩
          have R := Lib.hid (below_trans' Bz.out hby)
          clear hby SA
          go_wp2_with fail
          go_ret
          exact ⟨rfl, R.out⟩
      · rw [if_neg (by omega)] at C
        have p1 : decide ((0 : Int) < (ng : Int)) = true := decide_eq_true (by omega)
        have p2 : decide (0 < ng) = true := decide_eq_true hp0
        clear hp0
        rcases TT with ⟨a1, a2, a3, a4⟩ | ⟨a1, a2⟩
        · go_wp2_with fail
          refine (C.out).mono ?_
          rintro e wz ⟨vz, fs, rfl, hz, he, hla, hbz⟩
          obtain ⟨Az, cz, rfl, SA⟩ := END.out wz vz fs hz he hla hbz
          replace SA := Lib.hid SA
          have Bz := Lib.hid (below_trans' B0.out (KB.out.trans (hbz.mono KB.out.size)))
          clear hz he hla hbz C
          go_wp2_with fail
          refine (SA.out).mono ?_
          rintro e wy ⟨rfl, hby⟩
          have R := Lib.hid (below_trans' Bz.out hby)
          clear hby SA
          go_wp2_with fail
          go_ret
          exact ⟨rfl, R.out⟩
        · go_wp2_with fail
          refine (C.out).mono ?_
          rintro e wz ⟨vz, fs, rfl, hz, he, hla, hbz⟩
          obtain ⟨Az, cz, rfl, SA⟩ := END.out wz vz fs hz he hla hbz
          replace SA := Lib.hid SA
          have Bz := Lib.hid (below_trans' B0.out (KB.out.trans (hbz.mono KB.out.size)))
          clear hz he hla hbz C
          go_wp2_with fail
          refine (SA.out).mono ?_
          rintro e wy ⟨rfl, hby⟩
          have R := Lib.hid (below_trans' Bz.out hby)
          clear hby SA
          go_wp2_with fail
          go_ret
          exact ⟨rfl, R.out⟩

set_option maxRecDepth 100000 in
theorem lifted (os : Os) (started : os.Started) (H : Type) (enc : TypeId × Value → H) :
    ReturnsInHanded {} Tryd.checked os 9 .any (fun w args => (Rows.frameListsSpec.pre enc Tryd.prog Tryd.f9 [] false w args ∧ laidMetH Tryd.prog laidList w) ∧ sizedMet enc Tryd.prog Tryd.f9 (OpenSpec.ofChange Rows.frameListsSpec) false w args)
      (Rows.frameListsSpec.post enc Tryd.prog Tryd.f9 false true false false) := by
  refine returnsInHanded_of_change_and (C := Tryd.checked) (X := fun w _ => laidMetH Tryd.prog laidList w) (fun _ _ _ hh h => h.of_heap hh) own started (by kernel_rfl) Tryd.func9
    (ChangeSpec.witness_shaped (enc := enc) (C := Tryd.checked) (os := os) (X := fun w _ => laidMetH Tryd.prog laidList w) false (World.doorLaid Tryd.prog 400 os) #[.slice none 0 0] 8 rfl (World.shaped_of_RefB (by kernel_rfl) (by kernel_rfl)) (by kernel_rfl) (by kernel_rfl) (by kernel_rfl) (door_met os _)) ?_
  intro W base args ds gs before hval0 hW _ _ hL _
  have hval : ∀ (j : Nat) t v, Tryd.f9.params[j]? = some t → args[j]? = some v → Value.okWide Tryd.prog W .any base t v := hval0
  have hW' := hW
  obtain ⟨p, q, hA0, hV, rfl, hfz, hnd⟩ := hW
  have hA : DataW.TrodAll enc Tryd.prog W 0 (fun _ => true) true Tryd.f9.params.toList args.toList ds p := hA0
  obtain ⟨rfl, rfl⟩ := trodVars_none hV
  simp only [List.append_nil] at hW'
  have hlow : ∀ x ∈ p, x.block < W.heap.size := fun x hx => hW'.lt x hx
  have hA2 := hA
  rw [Tryd.params9] at hval hA2
  obtain ⟨v0, vs0, d0, ds0, p0, q0, hargs, rfl, rfl, h0, r0⟩ := trodAll_cons hA2
  obtain ⟨rfl, rfl, rfl⟩ := trodAll_nil r0
  obtain rfl : args = #[v0] := by cases args; simp_all
  obtain ⟨A0, c0, es0, rfl, ho0, hs0, hr0, hl0, hm0⟩ := open_frames Tryd.underlying35 (hval 0 35 v0 rfl rfl) h0 (fun x hx => hlow x (by simp [hx]))
  refine (walk A0 c0 es0 ho0 hl0 hm0 W hs0 hr0 (tab_of_laid hL)).mono fun e W' ⟨he, hg⟩ => ?_
  subst he
  exact ⟨_, rfl, law_true laid_out (by kernel_rfl) rfl Tryd.underlying4 (by kernel_rfl) hW' hA rfl rfl rfl hg⟩

theorem over : Rows.frameListsRow.holds Tryd.pinned (OpenSpec.ofChange Rows.frameListsSpec) :=
  OpenClaim.holds_of_wide 9 Tryd.f9 rfl rfl rfl rfl rfl rfl rfl ⟨rfl, rfl, rfl, rfl, rfl⟩ rfl rfl rfl rfl rfl (by kernel_rfl) Tryd.func9 (by kernel_rfl)
    (of_decide_eq_true (by kernel_rfl)) (by unfold Func.isWrapper; first | (rw [if_pos (by decide +kernel)]; kernel_rfl) | (rw [if_neg (by decide +kernel)]; exact ⟨rfl, rfl⟩))
    (fun os started H enc _ => lifted os started H enc)

/-- The statement: the card of it, its table tied to the program. -/
theorem proved : Rows.FrameListsCardSaid :=
  Claim7.holds_tied_plain_at .later [] [.data, .data] true (true, "0af932781d631ec6309ac614fc16388e853ea07b11500c9c71507fb84789da2f") true
    over (fun _ h => by cases h) (by kernel_rfl) (fun _ h => by cases h) frameLists_row_tie rfl ⟨rfl, rfl⟩ (by kernel_rfl) rfl
    (fun f fn hf hfn => by
      obtain rfl : f = 9 := Option.some.inj ((show Tryd.prog.funcNamed "wigwag/wigwaglaw05.FrameLists" = some 9 by kernel_rfl).symm.trans hf) |>.symm
      obtain rfl : fn = Tryd.f9 := (Option.some.inj (Tryd.func9.symm.trans hfn)).symm
      exact ⟨by kernel_rfl, fun j t ht => by
        rw [Tryd.params9] at ht
        have hm : t ∈ [35] := by simpa using Array.mem_of_getElem? ht
        have hall : ([35].all fun u => !Tryd.prog.wantsStandIn u) = true := by kernel_rfl
        exact (show Tryd.prog.wantsStandIn t = false by simpa using List.all_eq_true.1 hall t hm)⟩)
    (by kernel_rfl)
end Go.Proofs.YtfclfnpihmhcjaaDoor.frameLists
