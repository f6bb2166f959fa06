/-
  FrameParses: the frame that any bytes (at most two thousand) begin with, and all frames of them, or the error, are what the document says. Condition: the tables hold what the program's text lays (the card ties them).
-/
import Derived.Test.YtogioabdijgglaaDoorRpy
import Derived.Test.YtogioabdijgglaaDoorFew
namespace Wig
theorem fine_spans {f : Fr} (h : fine f = true) : f.spans.length ≤ 32 := by
  obtain ⟨has, _, _, h2, _⟩ := fine_parts h
  unfold spansFit at h2
  split at h2
  · unfold spFit at h2
    simp only [Bool.and_eq_true, decide_eq_true_eq] at h2
    exact h2.1.2
  · simp only [decide_eq_true_eq] at h2
    omega
theorem pfr_spans {xs : List Nat} (hx : Bytes xs) : (pfr xs).spans.length ≤ 32 := by
  unfold pfr
  cases h : rdFrame xs with
  | none => exact Nat.zero_le _
  | some q =>
    obtain ⟨f, r⟩ := q
    exact fine_spans (rd_fine hx h).1
theorem frames_fine : ∀ (n : Nat) (xs : List Nat) (fs : List Fr), Bytes xs → xs.length ≤ n → rdFrames xs.length xs = some fs → fs.length ≤ xs.length ∧ ∀ f ∈ fs, fine f = true := by
  intro n
  induction n with
  | zero =>
    intro xs fs _ hl h
    have : xs = [] := List.eq_nil_of_length_eq_zero (by omega)
    subst this
    simp [rdFrames] at h
    subst h
    exact ⟨Nat.le_refl _, fun f hf => by cases hf⟩
  | succ n ih =>
    intro xs fs hx hl h
    by_cases he : xs = []
    · subst he
      simp [rdFrames] at h
      subst h
      exact ⟨Nat.le_refl _, fun f hf => by cases hf⟩
    · cases hr : rdFrame xs with
      | none => rw [rdFrames_none he hr] at h; cases h
      | some q =>
        obtain ⟨f, r⟩ := q
        obtain ⟨h1, _, _, h2⟩ := rd_fine hx hr
        have hd := rd_drop hx hr
        rw [rdFrames_step hx hr] at h
        cases hg : rdFrames r.length r with
        | none => rw [hg] at h; cases h
        | some gs =>
          rw [hg] at h
          simp at h
          subst h
          have hxr : Bytes r := by rw [hd]; exact hx.drop _
          obtain ⟨h3, h4⟩ := ih r gs hxr (by omega) hg
          refine ⟨by simp only [List.length_cons]; omega, fun g hgm => ?_⟩
          rcases List.mem_cons.1 hgm with rfl | hgm
          · exact h1
          · exact h4 g hgm
theorem afr_fine {xs : List Nat} (hx : Bytes xs) : (afr xs).length ≤ xs.length ∧ ∀ f ∈ afr xs, f.spans.length ≤ 32 := by
  unfold afr fall
  split
  · exact ⟨Nat.zero_le _, fun f hf => by cases hf⟩
  · cases h : rdFrames xs.length xs with
    | none => exact ⟨Nat.zero_le _, fun f hf => by cases hf⟩
    | some fs =>
      obtain ⟨h1, h2⟩ := frames_fine xs.length xs fs hx (Nat.le_refl _) h
      exact ⟨h1, fun f hf => fine_spans (h2 f hf)⟩
end Wig
namespace Go.Proofs.YtogioabdijgglaaDoor.frameParses
open Go.ChangeShapes Go.WideShapes Go.ChangeAt Go.RowKit Go.Deep
set_option linter.unusedVariables false

set_option maxRecDepth 100000 in
set_option maxHeartbeats 8000000 in
theorem walk (A : Option Addr) (c : Nat) (xs : List Nat) (hx : ∀ x ∈ xs, x < 256) (hl : xs.length ≤ c) (hm : c ≤ maxLen) (w : World) (hr : RdN .u8 w w.heap.size A xs) (hT : Tab w ∧ NTab w) :
    Calls Tryd.prog 4 #[.slice A xs.length c] w fun e w' => e = .returned (.bool true) ∧ Below w.heap.size w w' := by
  obtain ⟨n, hn⟩ : ∃ n, n = xs.length := ⟨_, rfl⟩
  rw [← hn] at hl ⊢
  have C := Lib.hid (awake_any w hT)
  have HT := Lib.hid hT
  have HR := Lib.hid hr
  have HX := Lib.hid (show Wig.Bytes xs from hx)
  have HN := Lib.hid hn
  have HC := Lib.hid (And.intro hl hm)
  by_cases hbig : 2000 < n
  · have t : decide ((2000 : Int) < (n : Int)) = true := decide_eq_true (by omega)
    clear hT hr hx hn hl hm hbig
    go_enter Tryd.func4, Tryd.ntmps4
    go_wp2_with fail
    refine (C.out).mono ?_
    rintro e w1 ⟨rfl, hb1⟩
    have R := Lib.hid hb1
    clear hb1
    go_wp2_with fail
    go_ret
    exact ⟨rfl, R.out⟩
  have t0 : decide ((2000 : Int) < (n : Int)) = false := decide_eq_false (by omega)
  have HS := Lib.hid (show n ≤ 2000 by omega)
  obtain ⟨f, hf⟩ : ∃ f, f = Wig.pfr xs := ⟨_, rfl⟩
  obtain ⟨p, hp⟩ : ∃ p, p = Wig.plen xs := ⟨_, rfl⟩
  obtain ⟨q, hq⟩ : ∃ q, q = Wig.perr xs := ⟨_, rfl⟩
  obtain ⟨fs, hfs⟩ : ∃ fs, fs = Wig.afr xs := ⟨_, rfl⟩
  obtain ⟨r, hrr⟩ : ∃ r, r = Wig.aerr xs := ⟨_, rfl⟩
  have FSP := Lib.hid (show f.spans.length ≤ 100000 by have := Wig.pfr_spans (show Wig.Bytes xs from hx); rw [hf]; omega)
  have AFS := Lib.hid (show fs.length ≤ 2000 ∧ ∀ g ∈ fs, g.spans.length ≤ 100000 from by
    obtain ⟨h1, h2⟩ := Wig.afr_fine (show Wig.Bytes xs from hx)
    rw [hfs]
    exact ⟨by omega, fun g hg => by have := h2 g hg; omega⟩)
  have PA := Lib.hid fun (w1 : World) (hb : Below w.heap.size w w1) => parse_any A n c xs w1 HX.out HN.out (by have := HS.out; omega) HC.out.1 HC.out.2 ((HR.out.below hb).wide hb.size) (two_le (tabs_below HT.out hb)) (tabs_below HT.out hb)
  have RP := Lib.hid fun (w1 : World) (hb : Below w.heap.size w w1) => rparse_any A n c xs w1 HX.out ((HR.out.below hb).wide hb.size) HN.out HC.out.1 HC.out.2
  have AA := Lib.hid fun (w1 : World) (hb : Below w.heap.size w w1) => all_any A n c xs w1 HX.out HN.out (by have := HS.out; omega) HC.out.1 HC.out.2 ((HR.out.below hb).wide hb.size) (two_le (tabs_below HT.out hb)) (tabs_below HT.out hb)
  have RA := Lib.hid fun (w1 : World) (hb : Below w.heap.size w w1) => rall_any A n c xs w1 HX.out HN.out (by have := HS.out; omega) HC.out.1 HC.out.2 ((HR.out.below hb).wide hb.size)
  unfold ParseAt at PA RP
  unfold AllAt at AA RA
  rw [← hf, ← hp, ← hq] at PA RP
  rw [← hfs, ← hrr] at AA RA
  clear hT hr hx hn hl hm hbig hf hp hq hfs hrr
  have tp : ((p : Int) == (p : Int)) = true := by simp
  have tq : ((q : Int) == (q : Int)) = true := by simp
  have tr : ((r : Int) == (r : Int)) = true := by simp
  go_enter Tryd.func4, Tryd.ntmps4
  go_wp2_with fail
  refine (C.out).mono ?_
  rintro e w1 ⟨rfl, hb1⟩
  have B1 := Lib.hid hb1
  have C2 := Lib.hid (PA.out w1 hb1)
  clear hb1
  go_wp2_with fail
  refine (C2.out).mono ?_
  rintro e w2 ⟨D, dc, S, sc, rfl, hl2, hb2, -, -⟩
  obtain ⟨w3, hw3⟩ : ∃ w3, w3 = w2.alloc (.cells (farr f D dc S sc) 26) := ⟨_, rfl⟩
  have hb3 : Below w2.heap.size w2 w3 := by rw [hw3]; exact (Below.refl _ _).alloc (Nat.le_refl _) _
  have A3 := Lib.hid (show At w3 w2.heap.size 0 f D dc S sc by rw [hw3]; exact at_box w2 f D dc S sc 26)
  have Z3 := Lib.hid (show w2.heap.size < w3.heap.size by rw [hw3]; simp)
  have L3 := Lib.hid (hl2.step hb3)
  have B3 := Lib.hid (below_trans' B1.out (below_trans' hb2 hb3))
  have C3 := Lib.hid (RP.out w3 B3.out)
  clear hl2 hb2 hb3 C2
  simp only [farr] at hw3 ⊢
  go_wp2_with fail
  rw [← hw3]
  clear hw3
  refine (C3.out).mono ?_
  rintro e w4 ⟨E, ec, X, xc, rfl, hl4, hb4, -, -⟩
  obtain ⟨w5, hw5⟩ : ∃ w5, w5 = w4.alloc (.cells (farr f E ec X xc) 26) := ⟨_, rfl⟩
  have hb5 : Below w4.heap.size w4 w5 := by rw [hw5]; exact (Below.refl _ _).alloc (Nat.le_refl _) _
  have A5 := Lib.hid (show At w5 w4.heap.size 0 f E ec X xc by rw [hw5]; exact at_box w4 f E ec X xc 26)
  have Z5 := Lib.hid (show w4.heap.size < w5.heap.size by rw [hw5]; simp)
  have L5 := Lib.hid (hl4.step hb5)
  have A35 := Lib.hid ((A3.out.below hb4).below hb5)
  have L35 := Lib.hid ((L3.out.step hb4).step hb5)
  have Z35 := Lib.hid (show w2.heap.size < w5.heap.size by have := Z3.out; have := hb4.size; have := hb5.size; omega)
  have B5 := Lib.hid (below_trans' B3.out (below_trans' hb4 hb5))
  have C4 := Lib.hid (AA.out w5 B5.out)
  clear hl4 hb4 hb5 C3
  simp only [farr] at hw5 ⊢
  go_wp2_with fail
  rw [← hw5]
  clear hw5
  refine (C4.out).mono ?_
  rintro e w6 ⟨v6, es, rfl, ho6, hm6, hl6, hb6⟩
  obtain ⟨Ao, co, hv6, hr6, -, -⟩ := ho6.rd
  obtain ⟨m, hm⟩ : ∃ m, m = es.length := ⟨_, rfl⟩
  rw [← hm] at hv6
  subst hv6
  have HM := Lib.hid hm
  have M6 := Lib.hid hm6
  have R6 := Lib.hid hr6
  have LA6 := Lib.hid hl6
  have B6 := Lib.hid (below_trans' B5.out hb6)
  have A36 := Lib.hid (A35.out.below hb6)
  have A56 := Lib.hid (A5.out.below hb6)
  have L36 := Lib.hid (L35.out.step hb6)
  have L56 := Lib.hid (L5.out.step hb6)
  have Z6 := Lib.hid (show w2.heap.size < w6.heap.size ∧ w4.heap.size < w6.heap.size by have := Z35.out; have := Z5.out; have := hb6.size; omega)
  have C5 := Lib.hid (RA.out w6 B6.out)
  clear ho6 hm6 hl6 hb6 hr6 hm C4
  go_wp2_with fail
  refine (C5.out).mono ?_
  rintro e w7 ⟨v7, ds, rfl, ho7, hm7, hl7, hb7⟩
  obtain ⟨Ap, cp, hv7, hr7, -, -⟩ := ho7.rd
  have hlen : m = ds.length := by
    have h1 := congrArg List.length M6.out
    have h2 := congrArg List.length hm7
    rw [List.length_map] at h1 h2
    rw [HM.out]; omega
  rw [← hlen] at hv7
  subst hv7
  have R7 := Lib.hid hr7
  have LA7 := Lib.hid hl7
  have R67 := Lib.hid ((R6.out.below hb7).wide hb7.size)
  have LA67 := Lib.hid (LA6.out.step hb7)
  have B7 := Lib.hid (below_trans' B6.out hb7)
  have A37 := Lib.hid (A36.out.below hb7)
  have A57 := Lib.hid (A56.out.below hb7)
  have L37 := Lib.hid (L36.out.step hb7)
  have L57 := Lib.hid (L56.out.step hb7)
  have C6 := Lib.hid (same_any f D E S X dc ec sc xc w7 L37.out L57.out FSP.out)
  have SA := Lib.hid fun (wz : World) (hb : Below w7.heap.size w7 wz) => sameAll_any Ao Ap m co cp es ds wz HM.out hlen (by
      have h1 := congrArg List.length M6.out
      rw [List.length_map] at h1
      have := AFS.out.1
      have := HM.out
      omega) ((R67.out.below hb).wide hb.size) ((R7.out.below hb).wide hb.size) (LA67.out.step hb) (LA7.out.step hb) (by rw [M6.out, hm7]) (fun e he => AFS.out.2 e.f (by rw [← M6.out]; exact List.mem_map.2 ⟨e, he, rfl⟩))
  obtain ⟨k0, k1, k2, k3, k4, k5, k6, k7, k8, k9⟩ := at_cells A37.out
  obtain ⟨y0, y1, y2, y3, y4, y5, y6, y7, y8, y9⟩ := at_cells A57.out
  clear ho7 hl7 hb7 hr7 C5 hlen hm7
  go_wp2_with fail
  refine (C6.out).mono ?_
  rintro e w8 ⟨rfl, hb8⟩
  have B8 := Lib.hid (below_trans' B7.out hb8)
  have C7 := Lib.hid (SA.out w8 hb8)
  clear hb8 C6 k0 k1 k2 k3 k4 k5 k6 k7 k8 k9 y0 y1 y2 y3 y4 y5 y6 y7 y8 y9
  go_wp2_with fail
  refine (C7.out).mono ?_
  rintro e w9 ⟨rfl, hb9⟩
  have B9 := Lib.hid (below_trans' B8.out hb9)
  clear hb9
  go_wp2_with fail
  go_ret
  exact ⟨rfl, B9.out⟩

set_option maxRecDepth 100000 in
theorem lifted (os : Os) (started : os.Started) (H : Type) (enc : TypeId × Value → H) :
    ReturnsInHanded {} Tryd.checked os 4 .any (fun w args => (Rows.frameParsesSpec.pre enc Tryd.prog Tryd.f4 [] false w args ∧ laidMetH Tryd.prog laidList w) ∧ sizedMet enc Tryd.prog Tryd.f4 (OpenSpec.ofChange Rows.frameParsesSpec) false w args)
      (Rows.frameParsesSpec.post enc Tryd.prog Tryd.f4 false true false false) := by
  refine returnsInHanded_of_change_and (C := Tryd.checked) (X := fun w _ => laidMetH Tryd.prog laidList w) (fun _ _ _ hh h => h.of_heap hh) own started (by kernel_rfl) Tryd.func4
    (ChangeSpec.witness_shaped (enc := enc) (C := Tryd.checked) (os := os) (X := fun w _ => laidMetH Tryd.prog laidList w) false (World.doorLaid Tryd.prog 400 os) #[.slice none 0 0] 8 rfl (World.shaped_of_RefB (by kernel_rfl) (by kernel_rfl)) (by kernel_rfl) (by kernel_rfl) (by kernel_rfl) (door_met os _)) ?_
  intro W base args ds gs before hval0 hW _ _ hL _
  have hval : ∀ (j : Nat) t v, Tryd.f4.params[j]? = some t → args[j]? = some v → Value.okWide Tryd.prog W .any base t v := hval0
  have hW' := hW
  obtain ⟨p, q, hA0, hV, rfl, hfz, hnd⟩ := hW
  have hA : DataW.TrodAll enc Tryd.prog W 0 (fun _ => true) true Tryd.f4.params.toList args.toList ds p := hA0
  obtain ⟨rfl, rfl⟩ := trodVars_none hV
  simp only [List.append_nil] at hW'
  have hlow : ∀ x ∈ p, x.block < W.heap.size := fun x hx => hW'.lt x hx
  have hA2 := hA
  rw [Tryd.params4] at hval hA2
  obtain ⟨v0, vs0, d0, ds0, p0, q0, hargs, rfl, rfl, h0, r0⟩ := trodAll_cons hA2
  obtain ⟨rfl, rfl, rfl⟩ := trodAll_nil r0
  obtain rfl : args = #[v0] := by cases args; simp_all
  obtain ⟨A0, c0, xs0, rfl, hx0, hr0, hl0, hm0⟩ := open_row 256 Tryd.underlying23 Tryd.underlying5 (by kernel_rfl) (by intro x h; simp [Lit.wf, IntKind.min, IntKind.max, IntKind.signed, IntKind.bits] at h; omega) (hval 0 23 v0 rfl rfl) h0 (fun x hx => hlow x (by simp [hx]))
  refine (walk A0 c0 xs0 hx0 hl0 hm0 W hr0 (tab_of_laid hL)).mono fun e W' ⟨he, hg⟩ => ?_
  subst he
  exact ⟨_, rfl, law_true laid_out (by kernel_rfl) rfl Tryd.underlying4 (by kernel_rfl) hW' hA rfl rfl rfl hg⟩

theorem over : Rows.frameParsesRow.holds Tryd.pinned (OpenSpec.ofChange Rows.frameParsesSpec) :=
  OpenClaim.holds_of_wide 4 Tryd.f4 rfl rfl rfl rfl rfl rfl rfl ⟨rfl, rfl, rfl, rfl, rfl⟩ rfl rfl rfl rfl rfl (by kernel_rfl) Tryd.func4 (by kernel_rfl)
    (of_decide_eq_true (by kernel_rfl)) (by unfold Func.isWrapper; first | (rw [if_pos (by decide +kernel)]; kernel_rfl) | (rw [if_neg (by decide +kernel)]; exact ⟨rfl, rfl⟩))
    (fun os started H enc _ => lifted os started H enc)

/-- The statement: the card of it, its table tied to the program. -/
theorem proved : Rows.FrameParsesCardSaid :=
  Claim7.holds_tied_plain_at .later [] [.data, .data] true (true, "ea6ff71575eee1eddf72ba030b096d9d8ec1fefc17dfb4eeb55029cc9306af6e") true
    over (fun _ h => by cases h) (by kernel_rfl) (fun _ h => by cases h) frameParses_row_tie rfl ⟨rfl, rfl⟩ (by kernel_rfl) rfl
    (fun f fn hf hfn => by
      obtain rfl : f = 4 := Option.some.inj ((show Tryd.prog.funcNamed "wigwag/wigwaglaw05.FrameParses" = some 4 by kernel_rfl).symm.trans hf) |>.symm
      obtain rfl : fn = Tryd.f4 := (Option.some.inj (Tryd.func4.symm.trans hfn)).symm
      exact ⟨by kernel_rfl, fun j t ht => by
        rw [Tryd.params4] at ht
        have hm : t ∈ [23] := by simpa using Array.mem_of_getElem? ht
        have hall : ([23].all fun u => !Tryd.prog.wantsStandIn u) = true := by kernel_rfl
        exact (show Tryd.prog.wantsStandIn t = false by simpa using List.all_eq_true.1 hall t hm)⟩)
    (by kernel_rfl)
end Go.Proofs.YtogioabdijgglaaDoor.frameParses
