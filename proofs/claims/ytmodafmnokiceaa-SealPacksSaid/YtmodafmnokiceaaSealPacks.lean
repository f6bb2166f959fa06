/-
  SealPacks: any datagram, and any bytes' check sum, are what the document says, or its error; whatever the numbers and the payload (at most two thousand bytes). No condition.
-/
import Derived.Test.YtmodafmnokiceaaSeaF
import Derived.Test.YtmodafmnokiceaaOpen
namespace Go.Proofs.Ytmodafmnokiceaa.sealPacks
open Go.ChangeShapes Go.WideShapes Go.ChangeAt Go.RowKit Go.Deep
set_option linter.unusedVariables false

theorem long (a b l c : Nat) (A : Option Addr) (w : World) (t0 : decide ((2000 : Int) < (l : Int)) = true) :
    Calls Try.prog 4 #[.int .u64 (a : Int), .int .u64 (b : Int), .slice A l c] w fun e w' => e = .returned (.bool true) ∧ Below w.heap.size w w' := by
  have C0 := Lib.hid (awake_any w)
  go_enter Try.func4, Try.ntmps4
  go_wp2_with fail
  refine (C0.out).mono ?_
  rintro e w1 ⟨rfl, hb1⟩
  have B1 := Lib.hid hb1
  clear hb1
  go_wp2_with fail
  go_ret
  exact ⟨rfl, B1.out⟩

set_option maxHeartbeats 4000000 in
theorem packs (a b l c : Nat) (A : Option Addr) (xs : List Nat) (w : World) (ha : a < 18446744073709551616) (hb : b < 18446744073709551616) (hx : Wig.Bytes xs) (hl : l = xs.length) (h2 : l ≤ 2000) (hr : RdN .u8 w w.heap.size A xs) :
    Calls Try.prog 4 #[.int .u64 (a : Int), .int .u64 (b : Int), .slice A l c] w fun e w' => e = .returned (.bool true) ∧ Below w.heap.size w w' := by
  have t0 : decide ((2000 : Int) < (l : Int)) = false := decide_eq_false (by omega)
  obtain ⟨ys, hys⟩ : ∃ ys, ys = Wig.spack a b xs := ⟨_, rfl⟩
  obtain ⟨r, hrr⟩ : ∃ r, r = Wig.spackErr a b xs := ⟨_, rfl⟩
  obtain ⟨s, hs⟩ : ∃ s, s = Wig.csum xs := ⟨_, rfl⟩
  have C0 := Lib.hid (awake_any w)
  have C1 := Lib.hid (fun w hr => pack_gives a b A c l xs ys r w hys.symm hrr.symm ha hb hx hl h2 hr)
  have C2 := Lib.hid (fun w hr => rpack_gives a b A c l xs ys r w hys.symm hrr.symm ha hb hx hl h2 hr)
  have C3 := Lib.hid (fun w hr => sum_gives A l c xs s w hs.symm hx hl (by omega) hr)
  have C4 := Lib.hid (fun w hr => rsum_gives A l c xs s w hs.symm hx hl (by omega) hr)
  have HR := Lib.hid hr
  clear ha hb hx hl h2 hr hys hrr hs
  go_enter Try.func4, Try.ntmps4
  go_wp2_with fail
  refine (C0.out).mono ?_
  rintro e w1 ⟨rfl, hb1⟩
  have B1 := Lib.hid hb1
  have R1 := Lib.hid (HR.out.step hb1)
  clear hb1
  go_wp2_with fail
  refine (C1.out _ R1.out).mono ?_
  rintro e w2 ⟨A2, n2, c2, rfl, hn2, -, -, hr2, hz2, hb2⟩
  have B2 := Lib.hid (below_trans' B1.out hb2)
  have R2 := Lib.hid (R1.out.step hb2)
  have X2 := Lib.hid hr2
  have N2 := Lib.hid (And.intro hn2 hz2)
  clear hb2 hr2 hn2 hz2
  go_wp2_with fail
  refine (C2.out _ R2.out).mono ?_
  rintro e w3 ⟨A3, n3, c3, rfl, hn3, -, -, hr3, hz3, hb3⟩
  have B3 := Lib.hid (below_trans' B2.out hb3)
  have R3 := Lib.hid (R2.out.step hb3)
  have cv1 := conv_str (P := Try.prog) (src := 24) (e := 5) (dst := 9) Try.underlying24 Try.underlying5 Try.underlying9 (X2.out.step hb3) N2.out.2 n2 c2 N2.out.1
  have cv2 := conv_str (P := Try.prog) (src := 24) (e := 5) (dst := 9) Try.underlying24 Try.underlying5 Try.underlying9 hr3 hz3 n3 c3 hn3
  obtain ⟨sb, hsb⟩ : ∃ sb, sb = str ys := ⟨_, rfl⟩
  rw [← hsb] at cv1 cv2
  have D3 := Lib.hid (C3.out _ R3.out)
  clear hb3 hr3 hn3 hz3 hsb
  go_wp2_with fail
  refine (D3.out).mono ?_
  rintro e w4 ⟨rfl, hb4⟩
  have B4 := Lib.hid (below_trans' B3.out hb4)
  have D4 := Lib.hid (C4.out _ (R3.out.step hb4))
  clear hb4 cv1 cv2 D3
  go_wp2_with fail
  refine (D4.out).mono ?_
  rintro e w' ⟨rfl, rfl⟩
  go_wp2_with fail
  go_ret
  exact ⟨rfl, B4.out⟩

theorem walk (a b : Nat) (A : Option Addr) (c : Nat) (xs : List Nat) (ha : a < 18446744073709551616) (hb : b < 18446744073709551616) (hx : ∀ x ∈ xs, x < 256) (hl : xs.length ≤ c) (hc : c ≤ maxLen) (w : World) (hr : RdN .u8 w w.heap.size A xs) :
    Calls Try.prog 4 #[.int .u64 (a : Int), .int .u64 (b : Int), .slice A xs.length c] w fun e w' => e = .returned (.bool true) ∧ Below w.heap.size w w' := by
  by_cases h0 : 2000 < xs.length
  · exact long a b _ c A w (decide_eq_true (by omega))
  · exact packs a b _ c A xs w ha hb hx rfl (by omega) hr

set_option maxRecDepth 100000 in
theorem lifted (os : Os) (started : os.Started) (H : Type) (enc : TypeId × Value → H) :
    ReturnsInHanded {} Try.checked os 4 .any (Rows.sealPacksSpec.pre6 enc Try.prog Try.f4 Rows.sealPacksRow.domain false) (Rows.sealPacksSpec.post enc Try.prog Try.f4 false true false false) := by
  refine returnsInHanded_of_change (C := Try.checked) own started (by kernel_rfl) Try.func4
    (ChangeSpec.witness6 (enc := enc) (C := Try.checked) false ⟨#[], #[.int .u64 0, .int .u64 0, .slice none 0 0], []⟩ 8 (by kernel_rfl) (by kernel_rfl) (by kernel_rfl) (by kernel_rfl)) ?_
  intro W base args ds gs before hval0 hW hcnd _
  have hval : ∀ (j : Nat) t v, Try.f4.params[j]? = some t → args[j]? = some v → Value.okWide Try.prog W .any base t v := hval0
  have hW' := hW
  obtain ⟨p, q, hA0, hV, rfl, hfz, hnd⟩ := hW
  have hA : DataW.TrodAll enc Try.prog W 0 (fun _ => true) true Try.f4.params.toList args.toList ds p := hA0
  obtain ⟨rfl, rfl⟩ := trodVars_none hV
  simp only [List.append_nil] at hW'
  have hlow : ∀ x ∈ p, x.block < W.heap.size := fun x hx => hW'.lt x hx
  have hA2 := hA
  rw [Try.params4] at hval hA2
  obtain ⟨v0, vs0, d0, ds0, p0, q0, hargs, rfl, rfl, h0, r0⟩ := trodAll_cons hA2
  obtain ⟨v1, vs1, d1, ds1, p1, q1, rfl, rfl, rfl, h1, r1⟩ := trodAll_cons r0
  obtain ⟨v2, vs2, d2, ds2, p2, q2, rfl, rfl, rfl, h2, r2⟩ := trodAll_cons r1
  obtain ⟨rfl, rfl, rfl⟩ := trodAll_nil r2
  obtain rfl : args = #[v0, v1, v2] := by cases args; simp_all
  obtain ⟨n0, rfl, hn0⟩ := open_u64 Try.underlying23 (hval 0 23 v0 rfl rfl) h0
  obtain ⟨n1, rfl, hn1⟩ := open_u64 Try.underlying23 (hval 1 23 v1 rfl rfl) h1
  obtain ⟨A2, c2, xs2, rfl, hx2, hr2, hl2, hm2⟩ := open_row 256 Try.underlying24 Try.underlying5 (by kernel_rfl) (by intro x h; simp [Lit.wf, IntKind.min, IntKind.max, IntKind.signed, IntKind.bits] at h; omega) (hval 2 24 v2 rfl rfl) h2 (fun x hx => hlow x (by simp [hx]))
  refine (walk n0 n1 A2 c2 xs2 hn0 hn1 hx2 hl2 hm2 W hr2).mono fun e W' ⟨he, hg⟩ => ?_
  subst he
  exact ⟨_, rfl, law_true laid_out (by kernel_rfl) rfl Try.underlying4 (by kernel_rfl) hW' hA rfl rfl rfl hg⟩

theorem over : Rows.sealPacksRow.holds Try.pinned (OpenSpec.ofChange Rows.sealPacksSpec) :=
  OpenClaim.holds_of_wide 4 Try.f4 rfl rfl rfl rfl rfl rfl rfl ⟨rfl, rfl, rfl, rfl, rfl⟩ rfl rfl rfl rfl rfl (by kernel_rfl) Try.func4 (by kernel_rfl)
    (of_decide_eq_true (by kernel_rfl)) (by unfold Func.isWrapper; first | (rw [if_pos (by decide +kernel)]; kernel_rfl) | (rw [if_neg (by decide +kernel)]; exact ⟨rfl, rfl⟩))
    (fun os started H enc _ => lifted os started H enc)

/-- The statement. -/
theorem proved : Rows.SealPacksSaid := over
end Go.Proofs.Ytmodafmnokiceaa.sealPacks
