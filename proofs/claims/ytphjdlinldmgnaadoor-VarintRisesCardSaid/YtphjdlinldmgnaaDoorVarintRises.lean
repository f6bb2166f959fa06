/-
  VarintRises: sizes rise with numbers, and of two numbers of one size the greater one's bytes are behind the lesser one's. Condition: the table of sizes holds what the program's text lays (the card ties it).
-/
import Derived.Test.YtphjdlinldmgnaaDoorVarW
import Derived.Test.YtphjdlinldmgnaaDoorLaid
namespace Go.Proofs.YtphjdlinldmgnaaDoor.varintRises
open Go.ChangeShapes Go.WideShapes Go.ChangeAt Go.RowKit Go.Deep
set_option linter.unusedVariables false

theorem up_alone (a b : Nat) (w : World) (hT : Tab w) (h : (decide (b < a) = true) ∨ (decide (b < a) = false ∧ decide ((4611686018427387903 : Int) < (b : Int)) = true)) :
    Calls Tryd.prog 7 #[.int .u64 (a : Int), .int .u64 (b : Int)] w fun e w' => e = .returned (.bool true) ∧ Below w.heap.size w w' := by
  have C0 := Lib.hid (awake_any w hT)
  clear hT
  rcases h with t1 | ⟨t1, t2⟩
  · go_enter Tryd.func7, Tryd.ntmps7
    go_wp2_with fail
    refine (C0.out).mono ?_
    rintro e w1 ⟨rfl, hb1⟩
    have B1 := Lib.hid hb1
    clear hb1
    go_wp2_with fail
    go_ret
    exact ⟨rfl, B1.out⟩
  · go_enter Tryd.func7, Tryd.ntmps7
    go_wp2_with fail
    refine (C0.out).mono ?_
    rintro e w1 ⟨rfl, hb1⟩
    have B1 := Lib.hid hb1
    clear hb1
    go_wp2_with fail
    go_ret
    exact ⟨rfl, B1.out⟩

/-- What the text of bytes says of their order. -/
theorem less_str (a b : Nat) (hab : a ≤ b) (hb : b < 4611686018427387904) : Op.bytesLess (str (Wig.venc a)).toList (str (Wig.venc b)).toList = decide (a < b) := by
  rw [str_toList, str_toList, Wig.bytesLess_nat _ _ (Wig.venc_bytes a) (Wig.venc_bytes b)]
  exact (Wig.vrises hab hb).1

set_option maxHeartbeats 2000000 in
theorem both (a b : Nat) (lt : Bool) (w : World) (hab : a ≤ b) (hb : b < 4611686018427387904) (hlt : decide (a < b) = lt) (hT : Tab w) :
    Calls Tryd.prog 7 #[.int .u64 (a : Int), .int .u64 (b : Int)] w fun e w' => e = .returned (.bool true) ∧ Below w.heap.size w w' := by
  obtain ⟨xs, hxs⟩ : ∃ xs, xs = Wig.venc a := ⟨_, rfl⟩
  obtain ⟨ys, hys⟩ : ∃ ys, ys = Wig.venc b := ⟨_, rfl⟩
  have t1 : decide (b < a) = false := decide_eq_false (by omega)
  have t2 : decide ((4611686018427387903 : Int) < (b : Int)) = false := decide_eq_false (by omega)
  have C0 := Lib.hid (awake_any w hT)
  have C1 := Lib.hid (fun w h => put_gives a xs 0 w hxs.symm (Wig.verr_fits (by omega)) (by omega) h)
  have C2 := Lib.hid (fun w h => put_gives b ys 0 w hys.symm (Wig.verr_fits hb) (by omega) h)
  have hless := less_str a b hab hb
  have hsize := (Wig.vrises hab hb).2
  rw [← Wig.venc_length, ← Wig.venc_length, ← hxs, ← hys] at hsize
  rw [hlt, ← hxs, ← hys] at hless
  have HS := Lib.hid hsize
  have HL := Lib.hid hless
  have HT := Lib.hid hT
  clear hless hsize hT hxs hys hab hb
  go_enter Tryd.func7, Tryd.ntmps7
  go_wp2_with fail
  refine (C0.out).mono ?_
  rintro e w1 ⟨rfl, hb1⟩
  have B1 := Lib.hid hb1
  have T1 := Lib.hid (HT.out.below hb1)
  clear hb1
  go_wp2_with fail
  refine (C1.out _ T1.out).mono ?_
  rintro e w2 ⟨A2, n2, c2, rfl, hn2, -, -, hr2, h02, hb2⟩
  have B2 := Lib.hid hb2
  have T2 := Lib.hid (T1.out.below hb2)
  have X2 := Lib.hid hr2
  have N2 := Lib.hid hn2
  have Z2 := Lib.hid h02
  clear hb2 hr2 hn2 h02
  go_wp2_with fail
  refine (C2.out _ T2.out).mono ?_
  rintro e w3 ⟨A3, n3, c3, rfl, hn3, -, -, hr3, h03, hb3⟩
  have B3 := Lib.hid hb3
  have t3 : decide (n2 ≤ n3) = true := decide_eq_true (by rw [N2.out, hn3]; exact HS.out)
  have cv2 := conv_str (P := Tryd.prog) (src := 24) (e := 5) (dst := 9) Tryd.underlying24 Tryd.underlying5 Tryd.underlying9 (X2.out.step hb3) Z2.out n2 c2 N2.out
  have cv3 := conv_str (P := Tryd.prog) (src := 24) (e := 5) (dst := 9) Tryd.underlying24 Tryd.underlying5 Tryd.underlying9 hr3 h03 n3 c3 hn3
  have hless := HL.out
  obtain ⟨sa, hsa⟩ : ∃ sa, sa = str xs := ⟨_, rfl⟩
  obtain ⟨sb, hsb⟩ : ∃ sb, sb = str ys := ⟨_, rfl⟩
  rw [← hsa] at cv2 hless
  rw [← hsb] at cv3 hless
  clear hb3 hr3 hn3 h03 hsb hsa
  cases lt
  · go_wp2_with fail
    go_ret
    exact ⟨rfl, below_trans' (below_trans' B1.out B2.out) B3.out⟩
  · go_wp2_with fail
    go_ret
    exact ⟨rfl, below_trans' (below_trans' B1.out B2.out) B3.out⟩

theorem walk (a b : Nat) (ha : a < 18446744073709551616) (hb : b < 18446744073709551616) (w : World) (hT : Tab w) :
    Calls Tryd.prog 7 #[.int .u64 (a : Int), .int .u64 (b : Int)] w fun e w' => e = .returned (.bool true) ∧ Below w.heap.size w w' := by
  by_cases h1 : b < a
  · exact up_alone a b w hT (.inl (decide_eq_true h1))
  · by_cases h2 : b < 4611686018427387904
    · exact both a b _ w (by omega) h2 rfl hT
    · exact up_alone a b w hT (.inr ⟨decide_eq_false h1, decide_eq_true (by omega)⟩)

set_option maxRecDepth 100000 in
theorem lifted (os : Os) (started : os.Started) (H : Type) (enc : TypeId × Value → H) :
    ReturnsInHanded {} Tryd.checked os 7 .any (fun w args => (Rows.varintRisesSpec.pre enc Tryd.prog Tryd.f7 [] false w args ∧ laidMetH Tryd.prog laidList w) ∧ sizedMet enc Tryd.prog Tryd.f7 (OpenSpec.ofChange Rows.varintRisesSpec) false w args)
      (Rows.varintRisesSpec.post enc Tryd.prog Tryd.f7 false true false false) := by
  refine returnsInHanded_of_change_and (C := Tryd.checked) (X := fun w _ => laidMetH Tryd.prog laidList w) (fun _ _ _ hh h => h.of_heap hh) own started (by kernel_rfl) Tryd.func7
    (ChangeSpec.witness_shaped (enc := enc) (C := Tryd.checked) (os := os) (X := fun w _ => laidMetH Tryd.prog laidList w) false (World.doorLaid Tryd.prog 400 os) #[.int .u64 0, .int .u64 0] 8 rfl (World.shaped_of_RefB (by kernel_rfl) (by kernel_rfl)) (by kernel_rfl) (by kernel_rfl) (by kernel_rfl) (door_met os _)) ?_
  intro W base args ds gs before hval0 hW _ _ hL _
  have hval : ∀ (j : Nat) t v, Tryd.f7.params[j]? = some t → args[j]? = some v → Value.okWide Tryd.prog W .any base t v := hval0
  have hW' := hW
  obtain ⟨p, q, hA0, hV, rfl, hfz, hnd⟩ := hW
  have hA : DataW.TrodAll enc Tryd.prog W 0 (fun _ => true) true Tryd.f7.params.toList args.toList ds p := hA0
  obtain ⟨rfl, rfl⟩ := trodVars_none hV
  simp only [List.append_nil] at hW'
  have hlow : ∀ x ∈ p, x.block < W.heap.size := fun x hx => hW'.lt x hx
  have hA2 := hA
  rw [Tryd.params7] at hval hA2
  obtain ⟨v0, vs0, d0, ds0, p0, q0, hargs, rfl, rfl, h0, r0⟩ := trodAll_cons hA2
  obtain ⟨v1, vs1, d1, ds1, p1, q1, rfl, rfl, rfl, h1, r1⟩ := trodAll_cons r0
  obtain ⟨rfl, rfl, rfl⟩ := trodAll_nil r1
  obtain rfl : args = #[v0, v1] := by cases args; simp_all
  obtain ⟨n0, rfl, hn0⟩ := open_u64 Tryd.underlying23 (hval 0 23 v0 rfl rfl) h0
  obtain ⟨n1, rfl, hn1⟩ := open_u64 Tryd.underlying23 (hval 1 23 v1 rfl rfl) h1
  refine (walk n0 n1 hn0 hn1 W (tab_of_laid hL)).mono fun e W' ⟨he, hg⟩ => ?_
  subst he
  exact ⟨_, rfl, law_true laid_out (by kernel_rfl) rfl Tryd.underlying4 (by kernel_rfl) hW' hA rfl rfl rfl hg⟩

theorem over : Rows.varintRisesRow.holds Tryd.pinned (OpenSpec.ofChange Rows.varintRisesSpec) :=
  OpenClaim.holds_of_wide 7 Tryd.f7 rfl rfl rfl rfl rfl rfl rfl ⟨rfl, rfl, rfl, rfl, rfl⟩ rfl rfl rfl rfl rfl (by kernel_rfl) Tryd.func7 (by kernel_rfl)
    (of_decide_eq_true (by kernel_rfl)) (by unfold Func.isWrapper; first | (rw [if_pos (by decide +kernel)]; kernel_rfl) | (rw [if_neg (by decide +kernel)]; exact ⟨rfl, rfl⟩))
    (fun os started H enc _ => lifted os started H enc)

/-- The statement: the card of it, its table tied to the program. -/
theorem proved : Rows.VarintRisesCardSaid :=
  Claim7.holds_tied_plain_at .later [] [.data] true (true, "c6a13142a35a782391a3892c23b8891977bad80e44468b0d5c8d40cffa60ecdf") false
    over (fun _ h => by cases h) (by kernel_rfl) (fun _ h => by cases h) varintRises_row_tie rfl ⟨rfl, rfl⟩ (by kernel_rfl) rfl
    (fun f fn hf hfn => by
      obtain rfl : f = 7 := Option.some.inj ((show Tryd.prog.funcNamed "wigwag/wigwaglaw03.VarintRises" = some 7 by kernel_rfl).symm.trans hf) |>.symm
      obtain rfl : fn = Tryd.f7 := (Option.some.inj (Tryd.func7.symm.trans hfn)).symm
      exact ⟨by kernel_rfl, fun j t ht => by
        rw [Tryd.params7] at ht
        have hm : t ∈ [23, 23] := by simpa using Array.mem_of_getElem? ht
        have hall : ([23, 23].all fun u => !Tryd.prog.wantsStandIn u) = true := by kernel_rfl
        exact (show Tryd.prog.wantsStandIn t = false by simpa using List.all_eq_true.1 hall t hm)⟩)
    (by kernel_rfl)
end Go.Proofs.YtphjdlinldmgnaaDoor.varintRises
