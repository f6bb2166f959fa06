/-
  SealSizes: a packet that lies further off is no shorter, and a datagram has six to nine bytes more than its payload; whatever the payload (at most a thousand bytes) and the distances. No condition.
-/
import Derived.Test.YtmodafmnokiceaaSeaW
import Derived.Test.YtmodafmnokiceaaOpen
namespace Go.Proofs.Ytmodafmnokiceaa.sealSizes
open Go.ChangeShapes Go.WideShapes Go.ChangeAt Go.RowKit Go.Deep
set_option linter.unusedVariables false

theorem up_alone (A : Option Addr) (c l n f m : Nat) (w : World) (h : decide ((1000 : Int) < (l : Int)) = true ∨ l = 0) :
    Calls Try.prog 10 #[.slice A l c, .int .u32 (n : Int), .int .u32 (f : Int), .int .u32 (m : Int)] w fun e w' => e = .returned (.bool true) ∧ Below w.heap.size w w' := by
  have C0 := Lib.hid (awake_any w)
  rcases h with t1 | rfl
  all_goals
    go_enter Try.func10, Try.ntmps10
    go_wp2_with fail
    refine (C0.out).mono ?_
    rintro e w1 ⟨rfl, hb1⟩
    have B1 := Lib.hid hb1
    clear hb1
    go_wp2_with fail
    go_ret
    exact ⟨rfl, B1.out⟩

set_option maxHeartbeats 2000000 in
theorem fits (A : Option Addr) (c l n f m : Nat) (xs : List Nat) (hx : Wig.Bytes xs) (hl : l = xs.length) (h0 : 0 < l) (h1 : l ≤ 1000) (hn : n < 4294967296) (hf : f < 4294967296) (hm : m < 4294967296) (w : World) (hr : RdN .u8 w w.heap.size A xs) :
    Calls Try.prog 10 #[.slice A l c, .int .u32 (n : Int), .int .u32 (f : Int), .int .u32 (m : Int)] w fun e w' => e = .returned (.bool true) ∧ Below w.heap.size w w' := by
  obtain ⟨q, hq⟩ : ∃ q, q = n + f := ⟨_, rfl⟩
  obtain ⟨r, hr'⟩ : ∃ r, r = q + m := ⟨_, rfl⟩
  obtain ⟨sa, hsa⟩ : ∃ s, s = Wig.psize q n := ⟨_, rfl⟩
  obtain ⟨sb, hsb⟩ : ∃ s, s = Wig.psize r n := ⟨_, rfl⟩
  have p1 := Wig.psize_range q n
  have p2 := Wig.psize_range r n
  have p3 : Wig.psize q n ≤ Wig.psize r n := by rw [hr', hq]; exact Wig.psize_rises
  have fa : Wig.sfits q n xs = true := decide_eq_true (by omega)
  have fb : Wig.sfits r n xs = true := decide_eq_true (by omega)
  have la := Wig.spack_length fa
  have lb := Wig.spack_length fb
  obtain ⟨ya, hya⟩ : ∃ y, y = Wig.spack q n xs := ⟨_, rfl⟩
  obtain ⟨yb, hyb⟩ : ∃ y, y = Wig.spack r n xs := ⟨_, rfl⟩
  rw [← hya] at la
  rw [← hyb] at lb
  have e1 : IntKind.u64.wrap (n : Int) = (n : Int) := by rw [IntKind.wrap_u64]; omega
  have e2 : IntKind.u64.wrap (f : Int) = (f : Int) := by rw [IntKind.wrap_u64]; omega
  have e3 : IntKind.u64.wrap (m : Int) = (m : Int) := by rw [IntKind.wrap_u64]; omega
  have e4 : IntKind.u64.wrap ((n : Int) + (f : Int)) = (q : Int) := by rw [IntKind.wrap_u64]; omega
  have e5 : IntKind.u64.wrap ((q : Int) + (m : Int)) = (r : Int) := by rw [IntKind.wrap_u64]; omega
  obtain ⟨l6, hl6⟩ : ∃ y, y = l + 6 := ⟨_, rfl⟩
  obtain ⟨l9, hl9⟩ : ∃ y, y = l + 9 := ⟨_, rfl⟩
  have e6 : (l : Int) + 6 = (l6 : Int) := by omega
  have e9 : (l : Int) + 9 = (l9 : Int) := by omega
  have t1 : decide ((1000 : Int) < (l : Int)) = false := decide_eq_false (by omega)
  have t2 : ((l : Int) == 0) = false := by simp; omega
  obtain ⟨na, hna⟩ : ∃ y, y = ya.length := ⟨_, rfl⟩
  obtain ⟨nb, hnb⟩ : ∃ y, y = yb.length := ⟨_, rfl⟩
  have t3 : decide (na ≤ nb) = true := decide_eq_true (by omega)
  have t4 : decide (l6 ≤ na) = true := decide_eq_true (by omega)
  have t5 : decide (nb ≤ l9) = true := decide_eq_true (by omega)
  have C0 := Lib.hid (awake_any w)
  have C1 := Lib.hid (fun w hr => pack_gives q n A c l xs ya 0 w hya.symm (by unfold Wig.spackErr; rw [if_pos fa]) (by omega) (by omega) hx hl (by omega) hr)
  have C2 := Lib.hid (fun w hr => pack_gives r n A c l xs yb 0 w hyb.symm (by unfold Wig.spackErr; rw [if_pos fb]) (by omega) (by omega) hx hl (by omega) hr)
  rw [← hna] at C1
  rw [← hnb] at C2
  have HR := Lib.hid hr
  clear hx hl h0 hn hf hm hr hq hr' hsa hsb p1 p2 p3 fa fb la lb hya hyb hl6 hl9 hna hnb
  go_enter Try.func10, Try.ntmps10
  go_wp2_with fail
  refine (C0.out).mono ?_
  rintro e w1 ⟨rfl, hb1⟩
  have B1 := Lib.hid hb1
  have R1 := Lib.hid (HR.out.step hb1)
  clear hb1
  go_wp2_with fail
  refine (C1.out _ R1.out).mono ?_
  rintro e w2 ⟨A2, _, c2, rfl, rfl, -, -, -, -, hb2⟩
  have B2 := Lib.hid (below_trans' B1.out hb2)
  have R2 := Lib.hid (R1.out.step hb2)
  clear hb2
  go_wp2_with fail
  refine (C2.out _ R2.out).mono ?_
  rintro e w3 ⟨A3, _, c3, rfl, rfl, -, -, -, -, hb3⟩
  have B3 := Lib.hid (below_trans' B2.out hb3)
  clear hb3
  go_wp2_with fail
  go_ret
  exact ⟨rfl, B3.out⟩

theorem walk (A : Option Addr) (c : Nat) (xs : List Nat) (n f m : Nat) (hx : ∀ x ∈ xs, x < 256) (hl : xs.length ≤ c) (hc : c ≤ maxLen) (hn : n < 4294967296) (hf : f < 4294967296) (hm : m < 4294967296) (w : World) (hr : RdN .u8 w w.heap.size A xs) :
    Calls Try.prog 10 #[.slice A xs.length c, .int .u32 (n : Int), .int .u32 (f : Int), .int .u32 (m : Int)] w fun e w' => e = .returned (.bool true) ∧ Below w.heap.size w w' := by
  by_cases h1 : 1000 < xs.length
  · exact up_alone A c _ n f m w (.inl (decide_eq_true (by omega)))
  · by_cases h0 : xs.length = 0
    · exact up_alone A c _ n f m w (.inr h0)
    · exact fits A c _ n f m xs hx rfl (by omega) (by omega) hn hf hm w hr

set_option maxRecDepth 100000 in
theorem lifted (os : Os) (started : os.Started) (H : Type) (enc : TypeId × Value → H) :
    ReturnsInHanded {} Try.checked os 10 .any (Rows.sealSizesSpec.pre6 enc Try.prog Try.f10 Rows.sealSizesRow.domain false) (Rows.sealSizesSpec.post enc Try.prog Try.f10 false true false false) := by
  refine returnsInHanded_of_change (C := Try.checked) own started (by kernel_rfl) Try.func10
    (ChangeSpec.witness6 (enc := enc) (C := Try.checked) false ⟨#[], #[.slice none 0 0, .int .u32 0, .int .u32 0, .int .u32 0], []⟩ 8 (by kernel_rfl) (by kernel_rfl) (by kernel_rfl) (by kernel_rfl)) ?_
  intro W base args ds gs before hval0 hW hcnd _
  have hval : ∀ (j : Nat) t v, Try.f10.params[j]? = some t → args[j]? = some v → Value.okWide Try.prog W .any base t v := hval0
  have hW' := hW
  obtain ⟨p, q, hA0, hV, rfl, hfz, hnd⟩ := hW
  have hA : DataW.TrodAll enc Try.prog W 0 (fun _ => true) true Try.f10.params.toList args.toList ds p := hA0
  obtain ⟨rfl, rfl⟩ := trodVars_none hV
  simp only [List.append_nil] at hW'
  have hlow : ∀ x ∈ p, x.block < W.heap.size := fun x hx => hW'.lt x hx
  have hA2 := hA
  rw [Try.params10] at hval hA2
  obtain ⟨v0, vs0, d0, ds0, p0, q0, hargs, rfl, rfl, h0, r0⟩ := trodAll_cons hA2
  obtain ⟨v1, vs1, d1, ds1, p1, q1, rfl, rfl, rfl, h1, r1⟩ := trodAll_cons r0
  obtain ⟨v2, vs2, d2, ds2, p2, q2, rfl, rfl, rfl, h2, r2⟩ := trodAll_cons r1
  obtain ⟨v3, vs3, d3, ds3, p3, q3, rfl, rfl, rfl, h3, r3⟩ := trodAll_cons r2
  obtain ⟨rfl, rfl, rfl⟩ := trodAll_nil r3
  obtain rfl : args = #[v0, v1, v2, v3] := by cases args; simp_all
  obtain ⟨A0, c0, xs0, rfl, hx0, hr0, hl0, hm0⟩ := open_row 256 Try.underlying24 Try.underlying5 (by kernel_rfl) (by intro x h; simp [Lit.wf, IntKind.min, IntKind.max, IntKind.signed, IntKind.bits] at h; omega) (hval 0 24 v0 rfl rfl) h0 (fun x hx => hlow x (by simp [hx]))
  obtain ⟨n1, rfl, hn1⟩ := open_u32 Try.underlying28 (hval 1 28 v1 rfl rfl) h1
  obtain ⟨n2, rfl, hn2⟩ := open_u32 Try.underlying28 (hval 2 28 v2 rfl rfl) h2
  obtain ⟨n3, rfl, hn3⟩ := open_u32 Try.underlying28 (hval 3 28 v3 rfl rfl) h3
  refine (walk A0 c0 xs0 n1 n2 n3 hx0 hl0 hm0 hn1 hn2 hn3 W hr0).mono fun e W' ⟨he, hg⟩ => ?_
  subst he
  exact ⟨_, rfl, law_true laid_out (by kernel_rfl) rfl Try.underlying4 (by kernel_rfl) hW' hA rfl rfl rfl hg⟩

theorem over : Rows.sealSizesRow.holds Try.pinned (OpenSpec.ofChange Rows.sealSizesSpec) :=
  OpenClaim.holds_of_wide 10 Try.f10 rfl rfl rfl rfl rfl rfl rfl ⟨rfl, rfl, rfl, rfl, rfl⟩ rfl rfl rfl rfl rfl (by kernel_rfl) Try.func10 (by kernel_rfl)
    (of_decide_eq_true (by kernel_rfl)) (by unfold Func.isWrapper; first | (rw [if_pos (by decide +kernel)]; kernel_rfl) | (rw [if_neg (by decide +kernel)]; exact ⟨rfl, rfl⟩))
    (fun os started H enc _ => lifted os started H enc)

/-- The statement. -/
theorem proved : Rows.SealSizesSaid := over
end Go.Proofs.Ytmodafmnokiceaa.sealSizes
