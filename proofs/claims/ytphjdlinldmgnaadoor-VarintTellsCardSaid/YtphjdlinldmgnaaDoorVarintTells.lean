/-
  VarintTells: any number's size and bytes, and the number of any bytes, are what the document says, or its error. Condition: the table of sizes holds what the program's text lays (the card ties it).
-/
import Derived.Test.YtphjdlinldmgnaaDoorVarW
import Derived.Test.YtphjdlinldmgnaaDoorVarD
import Derived.Test.YtphjdlinldmgnaaDoorVarE
import Derived.Test.YtphjdlinldmgnaaDoorLaid
namespace Go.Proofs.YtphjdlinldmgnaaDoor.varintTells
open Go.ChangeShapes Go.WideShapes Go.ChangeAt Go.RowKit Go.Deep
set_option linter.unusedVariables false

theorem rput_gives (v : Nat) (xs : List Nat) (r : Nat) (w : World) (hx : Wig.venc v = xs) (he : Wig.verr v = r) (hv : v < 18446744073709551616) :
    Calls Tryd.prog 11 #[.int .u64 (v : Int)] w fun e w' => ∃ A n c, e = .returned (.tuple #[.slice A n c, .int .i64 (r : Int)]) ∧ n = xs.length ∧ n ≤ c ∧ c ≤ maxLen ∧ RdN .u8 w' w'.heap.size A xs ∧ (xs = [] → A = none) ∧ Below w.heap.size w w' := by
  subst hx he
  exact rput_any v w hv
theorem rget_gives (xs : List Nat) (v l g : Nat) (A : Option Addr) (n c : Nat) (w : World) (hv : Wig.vnum xs = v) (hl : Wig.vlen xs = l) (hg : Wig.vgot xs = g) (hx : Wig.Bytes xs) (hn : n = xs.length) (hc : n ≤ c) (hm : c ≤ maxLen)
    (hr : RdN .u8 w w.heap.size A xs) :
    Calls Tryd.prog 13 #[.slice A n c] w fun e w' => e = .returned (.tuple #[.int .u64 (v : Int), .int .i64 (l : Int), .int .i64 (g : Int)]) ∧ w = w' := by
  subst hv hl hg
  exact rget_any A n c xs w hx hr hn hc hm
theorem rsize_gives (v s : Nat) (w : World) (hs : Wig.vsize v = s) :
    Calls Tryd.prog 15 #[.int .u64 (v : Int)] w fun e w' => e = .returned (.int .i64 (s : Int)) ∧ w = w' := by
  subst hs
  exact rsize_any v w

set_option maxHeartbeats 2000000 in
theorem walk (v : Nat) (A : Option Addr) (c : Nat) (xs : List Nat) (hv : v < 18446744073709551616) (hx : ∀ x ∈ xs, x < 256) (hl : xs.length ≤ c) (hm : c ≤ maxLen) (w : World) (hr : RdN .u8 w w.heap.size A xs) (hT : Tab w) :
    Calls Tryd.prog 4 #[.int .u64 (v : Int), .slice A xs.length c] w fun e w' => e = .returned (.bool true) ∧ Below w.heap.size w w' := by
  obtain ⟨n, hn⟩ : ∃ n, n = xs.length := ⟨_, rfl⟩
  obtain ⟨ys, hys⟩ : ∃ ys, ys = Wig.venc v := ⟨_, rfl⟩
  obtain ⟨r, hr'⟩ : ∃ r, r = Wig.verr v := ⟨_, rfl⟩
  obtain ⟨s, hs⟩ : ∃ s, s = Wig.vsize v := ⟨_, rfl⟩
  obtain ⟨m, hm'⟩ : ∃ m, m = Wig.vnum xs := ⟨_, rfl⟩
  obtain ⟨l, hl'⟩ : ∃ l, l = Wig.vlen xs := ⟨_, rfl⟩
  obtain ⟨g, hg'⟩ : ∃ g, g = Wig.vgot xs := ⟨_, rfl⟩
  rw [← hn] at hl ⊢
  have HT := Lib.hid hT
  have HR := Lib.hid hr
  have C0 := Lib.hid (awake_any w hT)
  have C1 := Lib.hid (fun w h => put_gives v ys r w hys.symm hr'.symm hv h)
  have C2 := Lib.hid (fun w => rput_gives v ys r w hys.symm hr'.symm hv)
  have C3 := Lib.hid (fun w h t => get_gives xs m l g A n c w hm'.symm hl'.symm hg'.symm hx hn hl hm h t)
  have C4 := Lib.hid (fun w h => rget_gives xs m l g A n c w hm'.symm hl'.symm hg'.symm hx hn hl hm h)
  have C5 := Lib.hid (fun w h => size_gives v s w hs.symm h)
  have C6 := Lib.hid (fun w => rsize_gives v s w hs.symm)
  clear hT hr hys hr' hs hm' hl' hg' hv hx hn hl hm
  go_enter Tryd.func4, Tryd.ntmps4
  go_wp2_with fail
  refine (C0.out).mono ?_
  rintro e w1 ⟨rfl, hb1⟩
  have B1 := Lib.hid hb1
  have T1 := Lib.hid (HT.out.below hb1)
  have R1 := Lib.hid (HR.out.step hb1)
  clear hb1
  go_wp2_with fail
  refine (C1.out _ T1.out).mono ?_
  rintro e w2 ⟨A2, n2, c2, rfl, hn2, -, -, hr2, h02, hb2⟩
  have B2 := Lib.hid hb2
  have T2 := Lib.hid (T1.out.below hb2)
  have R2 := Lib.hid (R1.out.step hb2)
  have X2 := Lib.hid hr2
  have N2 := Lib.hid hn2
  have Z2 := Lib.hid h02
  clear hb2 hr2 hn2 h02
  go_wp2_with fail
  refine (C2.out _).mono ?_
  rintro e w3 ⟨A3, n3, c3, rfl, hn3, -, -, hr3, h03, hb3⟩
  have B3 := Lib.hid hb3
  have T3 := Lib.hid (T2.out.below hb3)
  have R3 := Lib.hid (R2.out.step hb3)
  have cv2 := conv_str (P := Tryd.prog) (src := 24) (e := 5) (dst := 9) Tryd.underlying24 Tryd.underlying5 Tryd.underlying9 (X2.out.step hb3) Z2.out n2 c2 N2.out
  have cv3 := conv_str (P := Tryd.prog) (src := 24) (e := 5) (dst := 9) Tryd.underlying24 Tryd.underlying5 Tryd.underlying9 hr3 h03 n3 c3 hn3
  obtain ⟨sb, hsb⟩ : ∃ sb, sb = str ys := ⟨_, rfl⟩
  rw [← hsb] at cv2 cv3
  clear hb3 hr3 hn3 h03 hsb
  go_wp2_with fail
  refine (C3.out _ R3.out T3.out).mono ?_
  rintro e w' ⟨rfl, rfl⟩
  go_wp2_with fail
  refine (C4.out _ R3.out).mono ?_
  rintro e w' ⟨rfl, rfl⟩
  go_wp2_with fail
  refine (C5.out _ T3.out).mono ?_
  rintro e w' ⟨rfl, rfl⟩
  go_wp2_with fail
  refine (C6.out _).mono ?_
  rintro e w' ⟨rfl, rfl⟩
  go_wp2_with fail
  go_ret
  exact ⟨rfl, below_trans' (below_trans' B1.out B2.out) B3.out⟩

set_option maxRecDepth 100000 in
theorem lifted (os : Os) (started : os.Started) (H : Type) (enc : TypeId × Value → H) :
    ReturnsInHanded {} Tryd.checked os 4 .any (fun w args => (Rows.varintTellsSpec.pre enc Tryd.prog Tryd.f4 [] false w args ∧ laidMetH Tryd.prog laidList w) ∧ sizedMet enc Tryd.prog Tryd.f4 (OpenSpec.ofChange Rows.varintTellsSpec) false w args)
      (Rows.varintTellsSpec.post enc Tryd.prog Tryd.f4 false true false false) := by
  refine returnsInHanded_of_change_and (C := Tryd.checked) (X := fun w _ => laidMetH Tryd.prog laidList w) (fun _ _ _ hh h => h.of_heap hh) own started (by kernel_rfl) Tryd.func4
    (ChangeSpec.witness_shaped (enc := enc) (C := Tryd.checked) (os := os) (X := fun w _ => laidMetH Tryd.prog laidList w) false (World.doorLaid Tryd.prog 400 os) #[.int .u64 0, .slice none 0 0] 8 rfl (World.shaped_of_RefB (by kernel_rfl) (by kernel_rfl)) (by kernel_rfl) (by kernel_rfl) (by kernel_rfl) (door_met os _)) ?_
  intro W base args ds gs before hval0 hW _ _ hL _
  have hval : ∀ (j : Nat) t v, Tryd.f4.params[j]? = some t → args[j]? = some v → Value.okWide Tryd.prog W .any base t v := hval0
  have hW' := hW
  obtain ⟨p, q, hA0, hV, rfl, hfz, hnd⟩ := hW
  have hA : DataW.TrodAll enc Tryd.prog W 0 (fun _ => true) true Tryd.f4.params.toList args.toList ds p := hA0
  obtain ⟨rfl, rfl⟩ := trodVars_none hV
  simp only [List.append_nil] at hW'
  have hlow : ∀ x ∈ p, x.block < W.heap.size := fun x hx => hW'.lt x hx
  have hA2 := hA
  rw [Tryd.params4] at hval hA2
  obtain ⟨v0, vs0, d0, ds0, p0, q0, hargs, rfl, rfl, h0, r0⟩ := trodAll_cons hA2
  obtain ⟨v1, vs1, d1, ds1, p1, q1, rfl, rfl, rfl, h1, r1⟩ := trodAll_cons r0
  obtain ⟨rfl, rfl, rfl⟩ := trodAll_nil r1
  obtain rfl : args = #[v0, v1] := by cases args; simp_all
  obtain ⟨n0, rfl, hn0⟩ := open_u64 Tryd.underlying23 (hval 0 23 v0 rfl rfl) h0
  obtain ⟨A1, c1, xs1, rfl, hx1, hr1, hl1, hm1⟩ := open_row 256 Tryd.underlying24 Tryd.underlying5 (by kernel_rfl) (by intro x h; simp [Lit.wf, IntKind.min, IntKind.max, IntKind.signed, IntKind.bits] at h; omega) (hval 1 24 v1 rfl rfl) h1 (fun x hx => hlow x (by simp [hx]))
  refine (walk n0 A1 c1 xs1 hn0 hx1 hl1 hm1 W hr1 (tab_of_laid hL)).mono fun e W' ⟨he, hg⟩ => ?_
  subst he
  exact ⟨_, rfl, law_true laid_out (by kernel_rfl) rfl Tryd.underlying4 (by kernel_rfl) hW' hA rfl rfl rfl hg⟩

theorem over : Rows.varintTellsRow.holds Tryd.pinned (OpenSpec.ofChange Rows.varintTellsSpec) :=
  OpenClaim.holds_of_wide 4 Tryd.f4 rfl rfl rfl rfl rfl rfl rfl ⟨rfl, rfl, rfl, rfl, rfl⟩ rfl rfl rfl rfl rfl (by kernel_rfl) Tryd.func4 (by kernel_rfl)
    (of_decide_eq_true (by kernel_rfl)) (by unfold Func.isWrapper; first | (rw [if_pos (by decide +kernel)]; kernel_rfl) | (rw [if_neg (by decide +kernel)]; exact ⟨rfl, rfl⟩))
    (fun os started H enc _ => lifted os started H enc)

/-- The statement: the card of it, its table tied to the program. -/
theorem proved : Rows.VarintTellsCardSaid :=
  Claim7.holds_tied_plain_at .later [] [.data] true (true, "c6a13142a35a782391a3892c23b8891977bad80e44468b0d5c8d40cffa60ecdf") false
    over (fun _ h => by cases h) (by kernel_rfl) (fun _ h => by cases h) varintTells_row_tie rfl ⟨rfl, rfl⟩ (by kernel_rfl) rfl
    (fun f fn hf hfn => by
      obtain rfl : f = 4 := Option.some.inj ((show Tryd.prog.funcNamed "wigwag/wigwaglaw03.VarintTells" = some 4 by kernel_rfl).symm.trans hf) |>.symm
      obtain rfl : fn = Tryd.f4 := (Option.some.inj (Tryd.func4.symm.trans hfn)).symm
      exact ⟨by kernel_rfl, fun j t ht => by
        rw [Tryd.params4] at ht
        have hm : t ∈ [23, 24] := by simpa using Array.mem_of_getElem? ht
        have hall : ([23, 24].all fun u => !Tryd.prog.wantsStandIn u) = true := by kernel_rfl
        exact (show Tryd.prog.wantsStandIn t = false by simpa using List.all_eq_true.1 hall t hm)⟩)
    (by kernel_rfl)
end Go.Proofs.YtphjdlinldmgnaaDoor.varintTells
