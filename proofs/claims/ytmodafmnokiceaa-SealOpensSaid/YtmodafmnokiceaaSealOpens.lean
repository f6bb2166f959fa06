/-
  SealOpens: what any bytes are, as a datagram, is what the document says, or its error; whatever the bytes (at most two thousand) and the next number. No condition.
-/
import Derived.Test.YtmodafmnokiceaaSeaG
import Derived.Test.YtmodafmnokiceaaOpen
namespace Go.Proofs.Ytmodafmnokiceaa.sealOpens
open Go.ChangeShapes Go.WideShapes Go.ChangeAt Go.RowKit Go.Deep
set_option linter.unusedVariables false

theorem long (b l c : Nat) (A : Option Addr) (w : World) (t0 : decide ((2000 : Int) < (l : Int)) = true) :
    Calls Try.prog 5 #[.slice A l c, .int .u64 (b : Int)] w fun e w' => e = .returned (.bool true) ∧ Below w.heap.size w w' := by
  have C0 := Lib.hid (awake_any w)
  go_enter Try.func5, Try.ntmps5
  go_wp2_with fail
  refine (C0.out).mono ?_
  rintro e w1 ⟨rfl, hb1⟩
  have B1 := Lib.hid hb1
  clear hb1
  go_wp2_with fail
  go_ret
  exact ⟨rfl, B1.out⟩

set_option maxHeartbeats 4000000 in
theorem opens (b l c : Nat) (A : Option Addr) (xs : List Nat) (w : World) (hb : b < 18446744073709551616) (hx : Wig.Bytes xs) (hl : l = xs.length) (h2 : l ≤ 2000) (hc : l ≤ c) (hcm : c ≤ maxLen) (hr : RdN .u8 w w.heap.size A xs) :
    Calls Try.prog 5 #[.slice A l c, .int .u64 (b : Int)] w fun e w' => e = .returned (.bool true) ∧ Below w.heap.size w w' := by
  have t0 : decide ((2000 : Int) < (l : Int)) = false := decide_eq_false (by omega)
  obtain ⟨ys, hys⟩ : ∃ ys, ys = Wig.spay xs := ⟨_, rfl⟩
  obtain ⟨r, hrr⟩ : ∃ r, r = Wig.sopenErr xs := ⟨_, rfl⟩
  obtain ⟨v, hv⟩ : ∃ v, v = Wig.snum xs b := ⟨_, rfl⟩
  have C0 := Lib.hid (awake_any w)
  have C1 := Lib.hid (fun w hr => open_gives A l c xs ys b v r w hv.symm hys.symm hrr.symm hx hl (by omega) hc hcm hr hb)
  have C2 := Lib.hid (fun w hr => ropen_gives A l c xs ys b v r w hv.symm hys.symm hrr.symm hx hl (by omega) hc hcm hr hb)
  have HR := Lib.hid hr
  clear hb hx hl h2 hr hys hrr hv hc hcm
  go_enter Try.func5, Try.ntmps5
  go_wp2_with fail
  refine (C0.out).mono ?_
  rintro e w1 ⟨rfl, hb1⟩
  have B1 := Lib.hid hb1
  have R1 := Lib.hid (HR.out.step hb1)
  clear hb1
  go_wp2_with fail
  refine (C1.out _ R1.out).mono ?_
  rintro e w2 ⟨A2, n2, c2, rfl, hn2, -, -, hr2, hz2, hb2⟩
  have B2 := Lib.hid (below_trans' B1.out hb2)
  have R2 := Lib.hid (R1.out.step hb2)
  have X2 := Lib.hid hr2
  have N2 := Lib.hid (And.intro hn2 hz2)
  clear hb2 hr2 hn2 hz2
  go_wp2_with fail
  refine (C2.out _ R2.out).mono ?_
  rintro e w3 ⟨A3, n3, c3, rfl, hn3, -, -, hr3, hz3, hb3⟩
  have B3 := Lib.hid (below_trans' B2.out hb3)
  have cv1 := conv_str (P := Try.prog) (src := 24) (e := 5) (dst := 9) Try.underlying24 Try.underlying5 Try.underlying9 (X2.out.step hb3) N2.out.2 n2 c2 N2.out.1
  have cv2 := conv_str (P := Try.prog) (src := 24) (e := 5) (dst := 9) Try.underlying24 Try.underlying5 Try.underlying9 hr3 hz3 n3 c3 hn3
  obtain ⟨sb, hsb⟩ : ∃ sb, sb = str ys := ⟨_, rfl⟩
  rw [← hsb] at cv1 cv2
  clear hb3 hr3 hn3 hz3 hsb
  go_wp2_with fail
  go_ret
  exact ⟨rfl, B3.out⟩

theorem walk (A : Option Addr) (c : Nat) (xs : List Nat) (b : Nat) (hx : ∀ x ∈ xs, x < 256) (hl : xs.length ≤ c) (hc : c ≤ maxLen) (hb : b < 18446744073709551616) (w : World) (hr : RdN .u8 w w.heap.size A xs) :
    Calls Try.prog 5 #[.slice A xs.length c, .int .u64 (b : Int)] w fun e w' => e = .returned (.bool true) ∧ Below w.heap.size w w' := by
  by_cases h0 : 2000 < xs.length
  · exact long b _ c A w (decide_eq_true (by omega))
  · exact opens b _ c A xs w hb hx rfl (by omega) hl hc hr

set_option maxRecDepth 100000 in
theorem lifted (os : Os) (started : os.Started) (H : Type) (enc : TypeId × Value → H) :
    ReturnsInHanded {} Try.checked os 5 .any (Rows.sealOpensSpec.pre6 enc Try.prog Try.f5 Rows.sealOpensRow.domain false) (Rows.sealOpensSpec.post enc Try.prog Try.f5 false true false false) := by
  refine returnsInHanded_of_change (C := Try.checked) own started (by kernel_rfl) Try.func5
    (ChangeSpec.witness6 (enc := enc) (C := Try.checked) false ⟨#[], #[.slice none 0 0, .int .u64 0], []⟩ 8 (by kernel_rfl) (by kernel_rfl) (by kernel_rfl) (by kernel_rfl)) ?_
  intro W base args ds gs before hval0 hW hcnd _
  have hval : ∀ (j : Nat) t v, Try.f5.params[j]? = some t → args[j]? = some v → Value.okWide Try.prog W .any base t v := hval0
  have hW' := hW
  obtain ⟨p, q, hA0, hV, rfl, hfz, hnd⟩ := hW
  have hA : DataW.TrodAll enc Try.prog W 0 (fun _ => true) true Try.f5.params.toList args.toList ds p := hA0
  obtain ⟨rfl, rfl⟩ := trodVars_none hV
  simp only [List.append_nil] at hW'
  have hlow : ∀ x ∈ p, x.block < W.heap.size := fun x hx => hW'.lt x hx
  have hA2 := hA
  rw [Try.params5] at hval hA2
  obtain ⟨v0, vs0, d0, ds0, p0, q0, hargs, rfl, rfl, h0, r0⟩ := trodAll_cons hA2
  obtain ⟨v1, vs1, d1, ds1, p1, q1, rfl, rfl, rfl, h1, r1⟩ := trodAll_cons r0
  obtain ⟨rfl, rfl, rfl⟩ := trodAll_nil r1
  obtain rfl : args = #[v0, v1] := by cases args; simp_all
  obtain ⟨A0, c0, xs0, rfl, hx0, hr0, hl0, hm0⟩ := open_row 256 Try.underlying24 Try.underlying5 (by kernel_rfl) (by intro x h; simp [Lit.wf, IntKind.min, IntKind.max, IntKind.signed, IntKind.bits] at h; omega) (hval 0 24 v0 rfl rfl) h0 (fun x hx => hlow x (by simp [hx]))
  obtain ⟨n1, rfl, hn1⟩ := open_u64 Try.underlying23 (hval 1 23 v1 rfl rfl) h1
  refine (walk A0 c0 xs0 n1 hx0 hl0 hm0 hn1 W hr0).mono fun e W' ⟨he, hg⟩ => ?_
  subst he
  exact ⟨_, rfl, law_true laid_out (by kernel_rfl) rfl Try.underlying4 (by kernel_rfl) hW' hA rfl rfl rfl hg⟩

theorem over : Rows.sealOpensRow.holds Try.pinned (OpenSpec.ofChange Rows.sealOpensSpec) :=
  OpenClaim.holds_of_wide 5 Try.f5 rfl rfl rfl rfl rfl rfl rfl ⟨rfl, rfl, rfl, rfl, rfl⟩ rfl rfl rfl rfl rfl (by kernel_rfl) Try.func5 (by kernel_rfl)
    (of_decide_eq_true (by kernel_rfl)) (by unfold Func.isWrapper; first | (rw [if_pos (by decide +kernel)]; kernel_rfl) | (rw [if_neg (by decide +kernel)]; exact ⟨rfl, rfl⟩))
    (fun os started H enc _ => lifted os started H enc)

/-- The statement. -/
theorem proved : Rows.SealOpensSaid := over
end Go.Proofs.Ytmodafmnokiceaa.sealOpens
