/-
  FrameSpans: an ack's spans are parsed as they were, and its bytes are as many as its numbers'. Condition: the tables hold what the program's text lays (the card ties them).
-/
import Derived.Test.YtfclfnpihmhcjaaDoorFrW
import Derived.Test.YtfclfnpihmhcjaaDoorOpF
import Derived.Test.YtfclfnpihmhcjaaDoorSam
import Derived.Test.YtfclfnpihmhcjaaDoorRdC
import Derived.Deep.DeepCutAuto
namespace Wig
def ack (l : List Spn) (d : Nat) : Fr := ⟨2, 0, 0, 0, 0, d, 0, false, [], l⟩
theorem ack_fine {l : List Spn} {d : Nat} (h : spOk l = true) (h1 : 0 < l.length) (h2 : l.length ≤ 32) (hd : d < 4294967296) : fine (ack l d) = true := by
  unfold fine
  rw [show flds (knat (ack l d).kind) = some [6, 4] from rfl]
  have e1 : numsFit (ack l d) [6, 4] = true := by
    unfold numsFit
    refine List.all_eq_true.2 fun j hj => ?_
    have hj := List.mem_range.1 hj
    have : j = 0 ∨ j = 1 ∨ j = 2 ∨ j = 3 ∨ j = 4 ∨ j = 5 := by omega
    rcases this with rfl | rfl | rfl | rfl | rfl | rfl <;> simp [numFit, Fr.get, ack]
    omega
  have e2 : spansFit (ack l d).spans (List.contains [6, 4] 6) = true := by
    show spFit l = true
    unfold spFit
    rw [decide_eq_true (show 1 ≤ l.length by omega), decide_eq_true h2, h]
    rfl
  have e3 : dataFit (ack l d) (List.contains [6, 4] 7) = true := rfl
  simp only [e1, e2, e3, Bool.and_self]
theorem ack_none {d : Nat} : fine (ack [] d) = false := by
  have : ∀ b : Bool, (b && spansFit [] (List.contains [6, 4] 6) && dataFit (ack [] d) (List.contains [6, 4] 7)) = false := by intro b; cases b <;> rfl
  unfold fine
  rw [show flds (knat (ack [] d).kind) = some [6, 4] from rfl]
  exact this _
theorem ack_ok {l : List Spn} {d : Nat} (h : spOk l = true) (hd : d < 4294967296) : (ack l d).Ok := by
  refine ⟨by simp [ack], fun k => ?_, (fun x hx => by cases hx), fun s hs => ?_⟩
  · unfold Fr.get ack
    split <;> simp only [] <;> omega
  · obtain ⟨j, hj⟩ := List.getElem?_of_mem hs
    have := spOk_one h hj
    omega
/-- Spans that rise, the last of them below a. -/
def Rise (l : List Spn) (a : Nat) : Prop := spOk l = true ∧ (l = [] ∨ ∃ q p, l = q ++ [p] ∧ p.2 < a)
theorem rise_more {l : List Spn} {a : Nat} (h : Rise l a) {x y : Nat} (hx : a ≤ x) (hy : x < y) (hm : y ≤ 4611686018427387904) : Rise (l ++ [(x, y)]) (y + 1) := by
  have ho : spOne (x, y) = true := by simp [spOne]; omega
  refine ⟨?_, .inr ⟨l, (x, y), rfl, by simp⟩⟩
  rcases h.2 with rfl | ⟨q, p, rfl, hp⟩
  · exact ho
  · rw [List.append_assoc, List.cons_append, List.nil_append, spOk_snoc, h.1, ho, decide_eq_true (by simp only []; omega)]
    rfl
end Wig
namespace Go.Proofs.YtfclfnpihmhcjaaDoor.frameSpans
open Go.ChangeShapes Go.WideShapes Go.ChangeAt Go.RowKit Go.Deep
set_option linter.unusedVariables false

theorem own_cap {w : World} {base n c : Nat} {A : Option Addr} {L : List Wig.Spn} (h : OwnS w base (.slice A n c) L) : c ≤ maxLen := by
  rcases h.2 with ⟨e, _⟩ | ⟨g, cap, cur, e, _, _, _, hcap, _⟩
  · injection e with _ _ e3; omega
  · injection e with _ _ e3; omega
theorem fenc_len {f : Wig.Fr} (h : Wig.fine f = true) : (Wig.fenc f).length ≤ 20000 := by
  obtain ⟨has, hf, _⟩ := Wig.fine_parts h
  have h8 := flds_len hf
  have := Wig.lay_take_len (f := f) (has := has) (fun k hk => Wig.layF_len h hf hk) has.length
  rw [List.take_length] at this
  have h2 := Wig.vsize_le (Wig.wkind f)
  unfold Wig.fenc
  rw [if_pos h, hf, Option.getD_some, List.length_append, Wig.venc_length]
  omega
/-- At the loop's head: k spans stand, the next begins at a or behind it. -/
def FsRel (gs : List Nat) (w : World) (vl va vi : Value) (wr : World) : Prop :=
  ∃ k l a, vi = .int .i64 ((2 * k : Nat) : Int) ∧ va = .int .u64 ((a : Nat) : Int) ∧ OwnS wr w.heap.size vl l ∧ l.length = k ∧ k ≤ 32 ∧ 2 * k ≤ gs.length ∧ a ≤ 131072 * k ∧ Wig.Rise l a ∧ Below w.heap.size w wr

set_option maxRecDepth 20000 in
set_option maxHeartbeats 4000000 in
theorem walk (A : Option Addr) (c : Nat) (gs : List Nat) (dl : Nat) (hg : ∀ x ∈ gs, x < 65536) (hl : gs.length ≤ c) (hm : c ≤ maxLen) (hd : dl < 4294967296) (w : World) (hr : RdN .u16 w w.heap.size A gs) (hT : Tab w ∧ NTab w) :
    Calls Tryd.prog 8 #[.slice A gs.length c, .int .u32 (dl : Int)] w fun e w' => e = .returned (.bool true) ∧ Below w.heap.size w w' := by
  obtain ⟨i0, hi, hz0, hz1, hz2⟩ := info_parts span_info
  obtain ⟨n, hn⟩ : ∃ n, n = gs.length := ⟨_, rfl⟩
  rw [← hn] at hl ⊢
  have C := Lib.hid (awake_any w hT)
  have HT := Lib.hid hT
  have HR := Lib.hid hr
  have HN := Lib.hid hn
  have HG := Lib.hid hg
  have HD := fun _ : Unit => hd
  have wd : IntKind.u64.wrap (dl : Int) = (dl : Int) := by rw [IntKind.wrap_u64]; omega
  clear hr hn hg hl hm hd hT
  go_enter Tryd.func8, Tryd.ntmps8
  go_wp2_with fail
  refine (C.out).mono ?_
  rintro e w0 ⟨rfl, hb0⟩
  have B0 := Lib.hid hb0
  have T0 := Lib.hid (tabs_below HT.out hb0)
  have R0 := Lib.hid (HR.out.step hb0)
  have A0 := Lib.hid (show FsRel gs w0 (.slice none 0 0) (.int .u64 0) (.int .i64 0) w0 from ⟨0, [], 0, rfl, rfl, World.ownsRow_nil _ _ _ _, rfl, by omega, by omega, by omega, ⟨rfl, .inl rfl⟩, Below.refl _ _⟩)
  clear hb0 C
  go_wp2_with fail
  go_loopw [6, 7, 8] (fun vl va vi wr => FsRel gs w0 vl va vi wr) (fun _ _ vi _ => n - (intOf vi).toNat)
  case atStart => exact A0.out
  case round =>
    obtain ⟨k, l, a, rfl, rfl, hown, hlk, hk, hkn, ha, hrise, hbel⟩ := hrel
    rw [← HN.out] at hkn
    have KO := Lib.hid hown
    have KB := Lib.hid hbel
    clear A0
    obtain ⟨Al, cl, el, hcl, hrl, _⟩ := hown.rd
    rw [hlk] at el
    subst el
    obtain ⟨i, hii⟩ : ∃ i, i = 2 * k := ⟨_, rfl⟩
    rw [← hii]
    obtain ⟨j, hj⟩ : ∃ j, j = i + 1 := ⟨_, rfl⟩
    have g1 : IntKind.i64.wrap ((i : Int) + 1) = (j : Int) := by rw [IntKind.wrap_i64]; omega
    by_cases hlt : j < n
    · have t1 : decide ((j : Int) < (n : Int)) = true := decide_eq_true (by omega)
      have t1' : decide (j < n) = true := decide_eq_true hlt
      by_cases h32 : k < 32
      · have t2 : decide ((k : Int) < 32) = true := decide_eq_true (by omega)
        have t2' : decide (k < 32) = true := decide_eq_true h32
        obtain ⟨x, hx⟩ : ∃ x, gs[i]? = some x := ⟨_, List.getElem?_eq_getElem (by have := HN.out; omega)⟩
        obtain ⟨y, hy⟩ : ∃ y, gs[j]? = some y := ⟨_, List.getElem?_eq_getElem (by have := HN.out; omega)⟩
        have x16 := HG.out x (List.mem_of_getElem? hx)
        have y16 := HG.out y (List.mem_of_getElem? hy)
        obtain ⟨ab, ao, rfl, _, cx⟩ := (R0.out.below hbel).at_ hx
        obtain ⟨ab', ao', e', _, cy⟩ := (R0.out.below hbel).at_ hy
        injection e' with e'
        injection e' with q1 q2
        subst q1 q2
        obtain ⟨fr, hfr⟩ : ∃ fr, fr = a + x := ⟨_, rfl⟩
        obtain ⟨t', ht'⟩ : ∃ t', t' = fr + y := ⟨_, rfl⟩
        obtain ⟨tz, hto⟩ : ∃ tz, tz = t' + 1 := ⟨_, rfl⟩
        obtain ⟨a2, ha2⟩ : ∃ a2, a2 = tz + 1 := ⟨_, rfl⟩
        have u0 : IntKind.u64.wrap (x : Int) = (x : Int) := by rw [IntKind.wrap_u64]; omega
        have u1 : IntKind.u64.wrap ((a : Int) + (x : Int)) = (fr : Int) := by rw [IntKind.wrap_u64]; omega
        have u2 : IntKind.u64.wrap (y : Int) = (y : Int) := by rw [IntKind.wrap_u64]; omega
        have u3 : IntKind.u64.wrap ((fr : Int) + (y : Int)) = (t' : Int) := by rw [IntKind.wrap_u64]; omega
        have u4' : IntKind.u64.wrap ((t' : Int) + 1) = (tz : Int) := by rw [IntKind.wrap_u64]; omega
        have u5' : IntKind.u64.wrap ((tz : Int) + 1) = (a2 : Int) := by rw [IntKind.wrap_u64]; omega
        obtain ⟨m, hm⟩ : ∃ m, m = i + 2 := ⟨_, rfl⟩
        have g2 : IntKind.i64.wrap ((i : Int) + 2) = (m : Int) := by rw [IntKind.wrap_i64]; omega
        have pp0 : (0 : Int) ≤ (i : Int) := by omega
        have pp1 : (i : Int) < (n : Int) := by omega
        have pp2 : (0 : Int) ≤ (j : Int) := by omega
        have pp3 : (j : Int) < (n : Int) := by omega
        have HRI := Lib.hid (show Wig.Rise (l ++ [(fr, tz)]) a2 from by rw [ha2]; exact Wig.rise_more hrise (by omega) (by omega) (by omega))
        have HE := Lib.hid (show l.length = k ∧ k < 32 ∧ 2 * (k + 1) ≤ n ∧ a2 ≤ 131072 * (k + 1) ∧ m = 2 * (k + 1) ∧ i < m by refine ⟨hlk, h32, by omega, by omega, by omega, by omega⟩)
        have HSZ := Lib.hid KB.out.size
        clear hx hy x16 y16 hfr ht' hto ha2 hown hlk hk hkn ha hrise hbel hrl hcl hlt h32 hii hj hm
        go_wp2_with (at_builtin; refine wpList_append_own _ rfl _ _ 25 rfl w0.heap.size 47 i0 (.agg #[.int .u64 0, .int .u64 0]) 2 16 Tryd.underlying25 hi hz0 hz1 hz2 rfl (by decide) _ _ _ rfl (by have := World.ownsRow.alloc KO.out (.cells #[.int .u64 (fr : Int), .int .u64 (tz : Int)] 47); exact this) ⟨wr.heap.size, 0, none⟩ 1 1 (two (fr, tz)) rfl rfl ?c1 ?c2 ?c3 ?c4 ?c5 ?_)
        case c1 => first | exact fun j u h => h | exact cell_span_new wr (fr, tz) | fail
        case c2 => exact one_span (fr, tz)
        case c3 => have := HE.out; unfold maxLen; omega
        case c4 => have := HE.out; omega
        case c5 => have := HSZ.out; simp; omega
        intro v' w7 hown7 hgr7 _
        have hb7 : Below w0.heap.size w0 w7 := KB.out.trans (((Below.refl w0.heap.size wr).alloc HSZ.out _).grown hgr7 (by have := HSZ.out; simp; omega) (fun q hq => (KO.out.block q hq).1))
        have R : FsRel gs w0 v' (.int .u64 (a2 : Int)) (.int .i64 (m : Int)) w7 := by
          refine ⟨k + 1, l ++ [(fr, tz)], a2, by rw [HE.out.2.2.2.2.1], rfl, ?_, by simp [HE.out.1], by have := HE.out; omega, by rw [← HN.out]; exact HE.out.2.2.1, HE.out.2.2.2.1, HRI.out, hb7⟩
          unfold OwnS
          rw [flat_app, flat_one, List.length_append]
          exact hown7
        have R' := Lib.hid R
        have M := Lib.hid (show n - m < n - i by have := HE.out; omega)
        clear hown7 hgr7 hb7 R
        go_wp2_with fail
        go_roundw
        case rel => exact R'.out
        case measure => have := M.out; simp [intOf]; omega
      · have t2 : decide ((k : Int) < 32) = false := decide_eq_false (by omega)
        have t2' : decide (k < 32) = false := decide_eq_false h32
        have hk32 : k = 32 := by omega
        have hk0 : 0 < k := by omega
        obtain ⟨fin1, fin2, fin3⟩ : Wig.fine (Wig.ack l dl) = true ∧ (Wig.ack l dl).Ok ∧ l.length ≤ 100000 := ⟨Wig.ack_fine hrise.1 (by omega) (by omega) (HD ()), Wig.ack_ok hrise.1 (HD ()), by omega⟩
        have C1 := Lib.hid (encode_any (.agg #[.int .i64 2, .int .u64 0, .int .u64 0, .int .u64 0, .int .u64 0, .int .u64 (dl : Int), .int .u64 0, .bool false, .slice none 0 0, .slice Al k cl]) (Wig.ack l dl) wr ⟨none, 0, Al, cl, by rw [← hlk]; rfl, ⟨Nat.le_refl _, Nat.zero_le _, RdN.empty, by show l.length ≤ cl; omega, own_cap hown, hrl⟩⟩ fin2 (two_le (tabs_below T0.out hbel)) (tabs_below T0.out hbel))
        unfold EncAt at C1
        rw [ferr_ok fin1] at C1
        have BW := Lib.hid (below_trans' B0.out hbel)
        have NW := Lib.hid hbel
        have SL := Lib.hid hrl
        have hrd := Wig.rd_enc fin1 fin2 []
        rw [List.append_nil] at hrd
        have G := Lib.hid (show Wig.pfr (Wig.fenc (Wig.ack l dl)) = Wig.ack l dl ∧ Wig.plen (Wig.fenc (Wig.ack l dl)) = (Wig.fenc (Wig.ack l dl)).length ∧ Wig.perr (Wig.fenc (Wig.ack l dl)) = 0 by unfold Wig.pfr Wig.plen Wig.perr; rw [hrd]; exact ⟨rfl, rfl, rfl⟩)
        have GB := Lib.hid (Wig.fenc_bytes (f := Wig.ack l dl) fin2.data)
        have GL := Lib.hid (And.intro hlk (And.intro fin3 fin1))
        have t9 : ((k : Int) == 0) = false := by simp; omega
        clear fin1 fin2 fin3 hrd hown hlk hk hkn ha hrise hbel hrl hcl hii hk0 hj hlt h32 hk32 KO KB
        go_wp2_with fail
        refine (C1.out).mono ?_
        rintro e w2 ⟨v2, rfl, ⟨A2, n2, c2, rfl, hn2, hnc2, hm2, hr2, -⟩, hb2⟩
        have B2 := Lib.hid (below_trans' BW.out hb2)
        have N2 := Lib.hid (below_trans' NW.out hb2)
        have SL2 := Lib.hid ((SL.out.below hb2).wide hb2.size)
        have hle : n2 ≤ 100000 := by rw [hn2]; exact Nat.le_trans (fenc_len GL.out.2.2) (by omega)
        have C2 := Lib.hid (parse_any A2 n2 c2 (Wig.fenc (Wig.ack l dl)) w2 GB.out hn2 hle hnc2 hm2 hr2 (two_le (tabs_below T0.out N2.out)) (tabs_below T0.out N2.out))
        unfold ParseAt at C2
        rw [G.out.1, G.out.2.1, G.out.2.2, ← hn2] at C2
        simp only [farr, Wig.ack] at C2
        rw [GL.out.1] at C2
        clear hn2 hnc2 hm2 hr2 hb2 hle C1
        go_wp2_with fail
        refine (C2.out).mono ?_
        rintro e w3 ⟨D, dc, S, sc, rfl, hl3, hb3, -, -⟩
        obtain ⟨w4, hw4⟩ : ∃ w4, w4 = w3.alloc (.cells #[.int .i64 2, .int .u64 0, .int .u64 0, .int .u64 0, .int .u64 0, .int .u64 (dl : Int), .int .u64 0, .bool false, .slice D 0 dc, .slice S k sc] 27) := ⟨_, rfl⟩
        have hb4 : Below w3.heap.size w3 w4 := by rw [hw4]; exact (Below.refl _ _).alloc (Nat.le_refl _) _
        have q9 : w4.cell? ⟨w3.heap.size, 9, none⟩ = some (.slice S k sc) := by rw [hw4, World.cell?_alloc_at _ _ _ _ rfl]; rfl
        have q5 : w4.cell? ⟨w3.heap.size, 5, none⟩ = some (.int .u64 (dl : Int)) := by rw [hw4, World.cell?_alloc_at _ _ _ _ rfl]; rfl
        have z4 : w3.heap.size < w4.heap.size := by rw [hw4]; simp
        have hn4 := below_trans' hb3 hb4
        have B4 := Lib.hid (below_trans' B2.out hn4)
        have SP := Lib.hid (spans_same S Al k sc cl l w4 GL.out.1.symm (by have := GL.out; omega) ((hl3.sr.below hb4).wide hb4.size) ((SL2.out.below hn4).wide hn4.size))
        have K5 := Lib.hid (And.intro q5 z4)
        have t5 : ((dl : Int) == (dl : Int)) = true := by simp
        clear hl3 hb3 hb4 hn4 z4 C2
        go_upto_region 15 with fail
        rw [← hw4]
        clear hw4
        go_wp2_with fail
        refine (SP.out).mono ?_
        rintro e w5 ⟨rfl, hb5⟩
        have B5 := Lib.hid (below_trans' B4.out hb5)
        have k5 := (hb5.cell (p := ⟨w3.heap.size, 5, none⟩) K5.out.2).trans K5.out.1
        clear hb5 q9 q5 SP
        go_wp2_with fail
        go_ret
        exact ⟨rfl, B5.out⟩
    · have t1 : decide ((j : Int) < (n : Int)) = false := decide_eq_false (by omega)
      have t1' : decide (j < n) = false := decide_eq_false hlt
      by_cases hk0 : 0 < k
      · skip
        obtain ⟨fin1, fin2, fin3⟩ : Wig.fine (Wig.ack l dl) = true ∧ (Wig.ack l dl).Ok ∧ l.length ≤ 100000 := ⟨Wig.ack_fine hrise.1 (by omega) (by omega) (HD ()), Wig.ack_ok hrise.1 (HD ()), by omega⟩
        have C1 := Lib.hid (encode_any (.agg #[.int .i64 2, .int .u64 0, .int .u64 0, .int .u64 0, .int .u64 0, .int .u64 (dl : Int), .int .u64 0, .bool false, .slice none 0 0, .slice Al k cl]) (Wig.ack l dl) wr ⟨none, 0, Al, cl, by rw [← hlk]; rfl, ⟨Nat.le_refl _, Nat.zero_le _, RdN.empty, by show l.length ≤ cl; omega, own_cap hown, hrl⟩⟩ fin2 (two_le (tabs_below T0.out hbel)) (tabs_below T0.out hbel))
        unfold EncAt at C1
        rw [ferr_ok fin1] at C1
        have BW := Lib.hid (below_trans' B0.out hbel)
        have NW := Lib.hid hbel
        have SL := Lib.hid hrl
        have hrd := Wig.rd_enc fin1 fin2 []
        rw [List.append_nil] at hrd
        have G := Lib.hid (show Wig.pfr (Wig.fenc (Wig.ack l dl)) = Wig.ack l dl ∧ Wig.plen (Wig.fenc (Wig.ack l dl)) = (Wig.fenc (Wig.ack l dl)).length ∧ Wig.perr (Wig.fenc (Wig.ack l dl)) = 0 by unfold Wig.pfr Wig.plen Wig.perr; rw [hrd]; exact ⟨rfl, rfl, rfl⟩)
        have GB := Lib.hid (Wig.fenc_bytes (f := Wig.ack l dl) fin2.data)
        have GL := Lib.hid (And.intro hlk (And.intro fin3 fin1))
        have t9 : ((k : Int) == 0) = false := by simp; omega
        clear fin1 fin2 fin3 hrd hown hlk hk hkn ha hrise hbel hrl hcl hii hk0 hj hlt KO KB
        go_wp2_with fail
        refine (C1.out).mono ?_
        rintro e w2 ⟨v2, rfl, ⟨A2, n2, c2, rfl, hn2, hnc2, hm2, hr2, -⟩, hb2⟩
        have B2 := Lib.hid (below_trans' BW.out hb2)
        have N2 := Lib.hid (below_trans' NW.out hb2)
        have SL2 := Lib.hid ((SL.out.below hb2).wide hb2.size)
        have hle : n2 ≤ 100000 := by rw [hn2]; exact Nat.le_trans (fenc_len GL.out.2.2) (by omega)
        have C2 := Lib.hid (parse_any A2 n2 c2 (Wig.fenc (Wig.ack l dl)) w2 GB.out hn2 hle hnc2 hm2 hr2 (two_le (tabs_below T0.out N2.out)) (tabs_below T0.out N2.out))
        unfold ParseAt at C2
        rw [G.out.1, G.out.2.1, G.out.2.2, ← hn2] at C2
        simp only [farr, Wig.ack] at C2
        rw [GL.out.1] at C2
        clear hn2 hnc2 hm2 hr2 hb2 hle C1
        go_wp2_with fail
        refine (C2.out).mono ?_
        rintro e w3 ⟨D, dc, S, sc, rfl, hl3, hb3, -, -⟩
        obtain ⟨w4, hw4⟩ : ∃ w4, w4 = w3.alloc (.cells #[.int .i64 2, .int .u64 0, .int .u64 0, .int .u64 0, .int .u64 0, .int .u64 (dl : Int), .int .u64 0, .bool false, .slice D 0 dc, .slice S k sc] 27) := ⟨_, rfl⟩
        have hb4 : Below w3.heap.size w3 w4 := by rw [hw4]; exact (Below.refl _ _).alloc (Nat.le_refl _) _
        have q9 : w4.cell? ⟨w3.heap.size, 9, none⟩ = some (.slice S k sc) := by rw [hw4, World.cell?_alloc_at _ _ _ _ rfl]; rfl
        have q5 : w4.cell? ⟨w3.heap.size, 5, none⟩ = some (.int .u64 (dl : Int)) := by rw [hw4, World.cell?_alloc_at _ _ _ _ rfl]; rfl
        have z4 : w3.heap.size < w4.heap.size := by rw [hw4]; simp
        have hn4 := below_trans' hb3 hb4
        have B4 := Lib.hid (below_trans' B2.out hn4)
        have SP := Lib.hid (spans_same S Al k sc cl l w4 GL.out.1.symm (by have := GL.out; omega) ((hl3.sr.below hb4).wide hb4.size) ((SL2.out.below hn4).wide hn4.size))
        have K5 := Lib.hid (And.intro q5 z4)
        have t5 : ((dl : Int) == (dl : Int)) = true := by simp
        clear hl3 hb3 hb4 hn4 z4 C2
        go_upto_region 15 with fail
        rw [← hw4]
        clear hw4
        go_wp2_with fail
        refine (SP.out).mono ?_
        rintro e w5 ⟨rfl, hb5⟩
        have B5 := Lib.hid (below_trans' B4.out hb5)
        have k5 := (hb5.cell (p := ⟨w3.heap.size, 5, none⟩) K5.out.2).trans K5.out.1
        clear hb5 q9 q5 SP
        go_wp2_with fail
        go_ret
        exact ⟨rfl, B5.out⟩
      · have hl0 : l = [] := List.eq_nil_of_length_eq_zero (by omega)
        obtain rfl : k = 0 := by omega
        subst hl0
        have S0 := Lib.hid (show RdS wr wr.heap.size Al [] from RdS.empty)
        have C1 := Lib.hid (encode_any (.agg #[.int .i64 2, .int .u64 0, .int .u64 0, .int .u64 0, .int .u64 0, .int .u64 (dl : Int), .int .u64 0, .bool false, .slice none 0 0, .slice Al 0 cl]) (Wig.ack [] dl) wr ⟨none, 0, Al, cl, rfl, ⟨Nat.le_refl _, Nat.zero_le _, RdN.empty, Nat.zero_le _, own_cap hown, RdS.empty⟩⟩ (Wig.ack_ok rfl (HD ())) (two_le (tabs_below T0.out hbel)) (tabs_below T0.out hbel))
        unfold EncAt at C1
        rw [ferr_no Wig.ack_none] at C1
        have BW := Lib.hid (below_trans' B0.out hbel)
        clear hown hlk hk hkn ha hrise hbel hrl hcl hlt hii hk0 hj KO KB
        go_wp2_with fail
        refine (C1.out).mono ?_
        rintro e w2 ⟨v2, rfl, -, hb2⟩
        have R := Lib.hid (below_trans' BW.out hb2)
        clear hb2
        go_wp2_with fail
        go_ret
        exact ⟨rfl, R.out⟩

set_option maxRecDepth 100000 in
theorem lifted (os : Os) (started : os.Started) (H : Type) (enc : TypeId × Value → H) :
    ReturnsInHanded {} Tryd.checked os 8 .any (fun w args => (Rows.frameSpansSpec.pre enc Tryd.prog Tryd.f8 [] false w args ∧ laidMetH Tryd.prog laidList w) ∧ sizedMet enc Tryd.prog Tryd.f8 (OpenSpec.ofChange Rows.frameSpansSpec) false w args)
      (Rows.frameSpansSpec.post enc Tryd.prog Tryd.f8 false true false false) := by
  refine returnsInHanded_of_change_and (C := Tryd.checked) (X := fun w _ => laidMetH Tryd.prog laidList w) (fun _ _ _ hh h => h.of_heap hh) own started (by kernel_rfl) Tryd.func8
    (ChangeSpec.witness_shaped (enc := enc) (C := Tryd.checked) (os := os) (X := fun w _ => laidMetH Tryd.prog laidList w) false (World.doorLaid Tryd.prog 400 os) #[.slice none 0 0, .int .u32 0] 8 rfl (World.shaped_of_RefB (by kernel_rfl) (by kernel_rfl)) (by kernel_rfl) (by kernel_rfl) (by kernel_rfl) (door_met os _)) ?_
  intro W base args ds gs before hval0 hW _ _ hL _
  have hval : ∀ (j : Nat) t v, Tryd.f8.params[j]? = some t → args[j]? = some v → Value.okWide Tryd.prog W .any base t v := hval0
  have hW' := hW
  obtain ⟨p, q, hA0, hV, rfl, hfz, hnd⟩ := hW
  have hA : DataW.TrodAll enc Tryd.prog W 0 (fun _ => true) true Tryd.f8.params.toList args.toList ds p := hA0
  obtain ⟨rfl, rfl⟩ := trodVars_none hV
  simp only [List.append_nil] at hW'
  have hlow : ∀ x ∈ p, x.block < W.heap.size := fun x hx => hW'.lt x hx
  have hA2 := hA
  rw [Tryd.params8] at hval hA2
  obtain ⟨v0, vs0, d0, ds0, p0, q0, hargs, rfl, rfl, h0, r0⟩ := trodAll_cons hA2
  obtain ⟨v1, vs1, d1, ds1, p1, q1, rfl, rfl, rfl, h1, r1⟩ := trodAll_cons r0
  obtain ⟨rfl, rfl, rfl⟩ := trodAll_nil r1
  obtain rfl : args = #[v0, v1] := by cases args; simp_all
  obtain ⟨A0, c0, xs0, rfl, hx0, hr0, hl0, hm0⟩ := open_row 65536 Tryd.underlying43 Tryd.underlying45 (by kernel_rfl) (by intro x h; simp [Lit.wf, IntKind.min, IntKind.max, IntKind.signed, IntKind.bits] at h; omega) (hval 0 43 v0 rfl rfl) h0 (fun x hx => hlow x (by simp [hx]))
  obtain ⟨n1, rfl, hn1⟩ := open_u32 Tryd.underlying44 (hval 1 44 v1 rfl rfl) h1
  refine (walk A0 c0 xs0 n1 hx0 hl0 hm0 hn1 W hr0 (tab_of_laid hL)).mono fun e W' ⟨he, hg⟩ => ?_
  subst he
  exact ⟨_, rfl, law_true laid_out (by kernel_rfl) rfl Tryd.underlying4 (by kernel_rfl) hW' hA rfl rfl rfl hg⟩

theorem over : Rows.frameSpansRow.holds Tryd.pinned (OpenSpec.ofChange Rows.frameSpansSpec) :=
  OpenClaim.holds_of_wide 8 Tryd.f8 rfl rfl rfl rfl rfl rfl rfl ⟨rfl, rfl, rfl, rfl, rfl⟩ rfl rfl rfl rfl rfl (by kernel_rfl) Tryd.func8 (by kernel_rfl)
    (of_decide_eq_true (by kernel_rfl)) (by unfold Func.isWrapper; first | (rw [if_pos (by decide +kernel)]; kernel_rfl) | (rw [if_neg (by decide +kernel)]; exact ⟨rfl, rfl⟩))
    (fun os started H enc _ => lifted os started H enc)

/-- The statement: the card of it, its table tied to the program. -/
theorem proved : Rows.FrameSpansCardSaid :=
  Claim7.holds_tied_plain_at .later [] [.data, .data] true (true, "0af932781d631ec6309ac614fc16388e853ea07b11500c9c71507fb84789da2f") true
    over (fun _ h => by cases h) (by kernel_rfl) (fun _ h => by cases h) frameSpans_row_tie rfl ⟨rfl, rfl⟩ (by kernel_rfl) rfl
    (fun f fn hf hfn => by
      obtain rfl : f = 8 := Option.some.inj ((show Tryd.prog.funcNamed "wigwag/wigwaglaw05.FrameSpans" = some 8 by kernel_rfl).symm.trans hf) |>.symm
      obtain rfl : fn = Tryd.f8 := (Option.some.inj (Tryd.func8.symm.trans hfn)).symm
      exact ⟨by kernel_rfl, fun j t ht => by
        rw [Tryd.params8] at ht
        have hm : t ∈ [43, 44] := by simpa using Array.mem_of_getElem? ht
        have hall : ([43, 44].all fun u => !Tryd.prog.wantsStandIn u) = true := by kernel_rfl
        exact (show Tryd.prog.wantsStandIn t = false by simpa using List.all_eq_true.1 hall t hm)⟩)
    (by kernel_rfl)
end Go.Proofs.YtfclfnpihmhcjaaDoor.frameSpans
