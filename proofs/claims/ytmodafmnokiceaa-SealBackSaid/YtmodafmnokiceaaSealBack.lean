/-
  SealBack: what is packed is opened, with its number, for each next that may be awaited meanwhile, and has six to nine bytes more; whatever the number, the distances and the payload (at most two thousand bytes). No condition.
-/
import Derived.Test.YtmodafmnokiceaaSeaW
import Derived.Test.YtmodafmnokiceaaOpen
namespace Go.Proofs.Ytmodafmnokiceaa.sealBack
open Go.ChangeShapes Go.WideShapes Go.ChangeAt Go.RowKit Go.Deep
set_option linter.unusedVariables false

theorem up_alone (a far near l c : Nat) (A : Option Addr) (w : World) (h32 : IntKind.u64.wrap (far : Int) = (far : Int)) (h : decide ((2000 : Int) < (l : Int)) = true ∨ (decide ((2000 : Int) < (l : Int)) = false ∧ (decide ((4611686018427387903 : Int) < (a : Int)) = true ∨ (decide ((4611686018427387903 : Int) < (a : Int)) = false ∧ (decide ((2147483648 : Int) < (far : Int)) = true ∨ (decide ((2147483648 : Int) < (far : Int)) = false ∧ (decide (a < far) = true ∨ (decide (a < far) = false ∧ decide (far < near) = true)))))))) :
    Calls Try.prog 6 #[.int .u64 (a : Int), .int .u32 (far : Int), .int .u32 (near : Int), .slice A l c] w fun e w' => e = .returned (.bool true) ∧ Below w.heap.size w w' := by
  have C0 := Lib.hid (awake_any w)
  rcases h with t0 | ⟨t0, t1 | ⟨t1, t2 | ⟨t2, t3 | ⟨t3, t4⟩⟩⟩⟩
  all_goals
    go_enter Try.func6, Try.ntmps6
    go_wp2_with fail
    refine (C0.out).mono ?_
    rintro e w1 ⟨rfl, hb1⟩
    have B1 := Lib.hid hb1
    clear hb1
    go_wp2_with fail
    go_ret
    exact ⟨rfl, B1.out⟩

set_option maxHeartbeats 2000000 in
theorem refused (a far near l c : Nat) (A : Option Addr) (xs : List Nat) (hx : Wig.Bytes xs) (hl : l = xs.length) (h2 : l ≤ 2000) (ha : a ≤ 4611686018427387903) (hf : far ≤ 2147483648) (hfa : far ≤ a) (hn : near ≤ far) (hs : Wig.sfits a (a - far) xs = false) (w : World) (hr : RdN .u8 w w.heap.size A xs) :
    Calls Try.prog 6 #[.int .u64 (a : Int), .int .u32 (far : Int), .int .u32 (near : Int), .slice A l c] w fun e w' => e = .returned (.bool true) ∧ Below w.heap.size w w' := by
  have t0 : decide ((2000 : Int) < (l : Int)) = false := decide_eq_false (by omega)
  have t1 : decide ((4611686018427387903 : Int) < (a : Int)) = false := decide_eq_false (by omega)
  have t2 : decide ((2147483648 : Int) < (far : Int)) = false := decide_eq_false (by omega)
  have t3 : decide (a < far) = false := decide_eq_false (by omega)
  have t4 : decide (far < near) = false := decide_eq_false (by omega)
  obtain ⟨n, hnn⟩ : ∃ n, n = a - far := ⟨_, rfl⟩
  have e1 : IntKind.u64.wrap (far : Int) = (far : Int) := by rw [IntKind.wrap_u64]; omega
  have e3 : IntKind.u64.wrap ((a : Int) - (far : Int)) = (n : Int) := by rw [IntKind.wrap_u64]; omega
  rw [← hnn] at hs
  have p1 := Wig.psize_range a n
  have hc := of_decide_eq_false hs
  have T : l = 0 ∨ (((l : Int) == 0) = false ∧ decide ((1190 : Int) < (l : Int)) = true) := by
    by_cases h : l = 0
    · exact .inl h
    · exact .inr ⟨by simp; omega, decide_eq_true (by omega)⟩
  have C0 := Lib.hid (awake_any w)
  have C1 := Lib.hid (fun w hr => pack_gives a n A c l xs [] 1 w (by unfold Wig.spack; rw [if_neg (by simp [hs])]) (by unfold Wig.spackErr; rw [if_neg (by simp [hs])]) (by omega) (by omega) hx hl h2 hr)
  have HR := Lib.hid hr
  clear hx hl h2 ha hf hfa hn hs hr hnn p1 hc
  rcases T with rfl | ⟨t5, t6⟩
  all_goals
    go_enter Try.func6, Try.ntmps6
    go_wp2_with fail
    refine (C0.out).mono ?_
    rintro e w1 ⟨rfl, hb1⟩
    have B1 := Lib.hid hb1
    have R1 := Lib.hid (HR.out.step hb1)
    clear hb1
    go_wp2_with fail
    refine (C1.out _ R1.out).mono ?_
    rintro e w2 ⟨A2, _, c2, rfl, rfl, -, -, -, -, hb2⟩
    have B2 := Lib.hid (below_trans' B1.out hb2)
    clear hb2
    go_wp2_with fail
    go_ret
    exact ⟨rfl, B2.out⟩

set_option maxHeartbeats 4000000 in
theorem back (a far near l c : Nat) (A : Option Addr) (xs : List Nat) (hx : Wig.Bytes xs) (hl : l = xs.length) (h2 : l ≤ 2000) (ha : a ≤ 4611686018427387903) (hf : far ≤ 2147483648) (hfa : far ≤ a) (hn : near ≤ far) (hs : Wig.sfits a (a - far) xs = true) (w : World) (hr : RdN .u8 w w.heap.size A xs) :
    Calls Try.prog 6 #[.int .u64 (a : Int), .int .u32 (far : Int), .int .u32 (near : Int), .slice A l c] w fun e w' => e = .returned (.bool true) ∧ Below w.heap.size w w' := by
  have t0 : decide ((2000 : Int) < (l : Int)) = false := decide_eq_false (by omega)
  have t1 : decide ((4611686018427387903 : Int) < (a : Int)) = false := decide_eq_false (by omega)
  have t2 : decide ((2147483648 : Int) < (far : Int)) = false := decide_eq_false (by omega)
  have t3 : decide (a < far) = false := decide_eq_false (by omega)
  have t4 : decide (far < near) = false := decide_eq_false (by omega)
  obtain ⟨n, hnn⟩ : ∃ n, n = a - far := ⟨_, rfl⟩
  obtain ⟨q, hq⟩ : ∃ q, q = n + near := ⟨_, rfl⟩
  obtain ⟨u, hu⟩ : ∃ u, u = a + 1 := ⟨_, rfl⟩
  obtain ⟨s, hss⟩ : ∃ s, s = Wig.psize a n := ⟨_, rfl⟩
  have e1 : IntKind.u64.wrap (far : Int) = (far : Int) := by rw [IntKind.wrap_u64]; omega
  have e2 : IntKind.u64.wrap (near : Int) = (near : Int) := by rw [IntKind.wrap_u64]; omega
  have e3 : IntKind.u64.wrap ((a : Int) - (far : Int)) = (n : Int) := by rw [IntKind.wrap_u64]; omega
  have e4 : IntKind.u64.wrap ((n : Int) + (near : Int)) = (q : Int) := by rw [IntKind.wrap_u64]; omega
  have e5 : IntKind.u64.wrap ((a : Int) + 1) = (u : Int) := by rw [IntKind.wrap_u64]; omega
  rw [← hnn] at hs
  have K : ∀ m, a - far ≤ m → m ≤ a + 1 → Wig.snum (Wig.spack a n xs) m = a := fun m h1 h2 => by
    rw [Wig.spack_num hs, hnn]
    have hcl := Wig.pcap_le m
    have hc : Wig.pcap m = m ∨ (Wig.pcap m = a ∧ m = a + 1) := by unfold Wig.pcap; split <;> omega
    exact Wig.pback ha hf hfa (by omega) (by omega) hcl
  have hlen := Wig.spack_length hs
  obtain ⟨ys, hys⟩ : ∃ ys, ys = Wig.spack a n xs := ⟨_, rfl⟩
  have hyb : Wig.Bytes ys := by rw [hys]; exact Wig.spack_bytes a n hx
  have k1 := K q (by omega) (by omega)
  have k2 := K u (by omega) (by omega)
  have kp : Wig.spay ys = xs := by rw [hys]; exact Wig.spack_pay hs
  have ke : Wig.sopenErr ys = 0 := by rw [hys]; unfold Wig.sopenErr; rw [if_pos (Wig.spack_opens hs)]
  rw [← hys] at k1 k2 hlen
  rw [← hl, ← hss] at hlen
  obtain ⟨m, hm⟩ : ∃ m, m = ys.length := ⟨_, rfl⟩
  have hfit := of_decide_eq_true hs
  have s4 := Wig.psize_range a n
  rw [← hss] at s4 hfit
  obtain ⟨l5, hl5⟩ : ∃ y, y = l + 5 := ⟨_, rfl⟩
  have e6 : (l : Int) + 5 = (l5 : Int) := by omega
  have e7 : (l5 : Int) + (s : Int) = (m : Int) := by omega
  have b1 : l ≤ 2000 := h2
  have b2 : l5 ≤ 2005 := by omega
  have b3 : s ≤ 4 := s4.2
  have C0 := Lib.hid (awake_any w)
  have C1 := Lib.hid (fun w hr => pack_gives a n A c l xs ys 0 w hys.symm (by unfold Wig.spackErr; rw [if_pos hs]) (by omega) (by omega) hx hl h2 hr)
  rw [← hm] at C1
  have C2 := Lib.hid (fun A c w hc hcm hr => open_gives A m c ys xs q a 0 w k1 kp ke hyb hm (by omega) hc hcm hr (by omega))
  have C3 := Lib.hid (fun A c w hc hcm hr => open_gives A m c ys xs u a 0 w k2 kp ke hyb hm (by omega) hc hcm hr (by omega))
  have C4 := Lib.hid (fun w => size_gives a n s w hss.symm (by omega) (by omega))
  have HN := Lib.hid (And.intro hl (show xs ≠ [] by intro e; rw [e] at hfit; simp at hfit))
  have HR := Lib.hid hr
  clear hx hl h2 ha hf hfa hn hs hr hnn hq hu hss K hlen hys hyb k1 k2 kp ke hm hfit s4 hl5
  go_enter Try.func6, Try.ntmps6
  go_wp2_with fail
  refine (C0.out).mono ?_
  rintro e w1 ⟨rfl, hb1⟩
  have B1 := Lib.hid hb1
  have R1 := Lib.hid (HR.out.step hb1)
  clear hb1
  go_wp2_with fail
  refine (C1.out _ R1.out).mono ?_
  rintro e w2 ⟨A2, n2, c2, rfl, hn2, hc2, hm2, hr2, -, hb2⟩
  obtain rfl : n2 = m := hn2
  have B2 := Lib.hid (below_trans' B1.out hb2)
  have R2 := Lib.hid (R1.out.step hb2)
  have X2 := Lib.hid hr2
  have M2 := Lib.hid (And.intro hc2 hm2)
  have D := Lib.hid (C2.out A2 c2 w2 hc2 hm2 hr2)
  clear hb2 hr2 hc2 hm2
  go_wp2_with fail
  refine (D.out).mono ?_
  rintro e w3 ⟨A3, n3, c3, rfl, hn3, -, -, hr3, -, hb3⟩
  have B3 := Lib.hid (below_trans' B2.out hb3)
  have R3 := Lib.hid (R2.out.step hb3)
  have N3 := Lib.hid hn3
  have X3 := Lib.hid hr3
  have D3 := Lib.hid (C3.out A2 c2 w3 M2.out.1 M2.out.2 (X2.out.step hb3))
  clear hb3 hr3 hn3 D
  go_wp2_with fail
  refine (D3.out).mono ?_
  rintro e w4 ⟨A4, n4, c4, rfl, -, -, -, -, -, hb4⟩
  have B4 := Lib.hid (below_trans' B3.out hb4)
  have cv1 := conv_str (P := Try.prog) (src := 24) (e := 5) (dst := 9) Try.underlying24 Try.underlying5 Try.underlying9 (X3.out.step hb4) (fun h => absurd h HN.out.2) n3 c3 N3.out
  have cv2 := conv_str (P := Try.prog) (src := 24) (e := 5) (dst := 9) Try.underlying24 Try.underlying5 Try.underlying9 (R3.out.step hb4) (fun h => absurd h HN.out.2) l c HN.out.1
  obtain ⟨sb, hsb⟩ : ∃ sb, sb = str xs := ⟨_, rfl⟩
  rw [← hsb] at cv1 cv2
  clear hb4 D3 hsb
  go_wp2_with fail
  refine (C4.out _).mono ?_
  rintro e w5 ⟨rfl, hb5⟩
  have B5 := Lib.hid (below_trans' B4.out hb5)
  clear hb5 cv1 cv2
  go_wp2_with fail
  go_ret
  exact ⟨rfl, B5.out⟩

theorem walk (a far near : Nat) (A : Option Addr) (c : Nat) (xs : List Nat) (ha : a < 18446744073709551616) (hf : far < 4294967296) (hn : near < 4294967296) (hx : ∀ x ∈ xs, x < 256) (hl : xs.length ≤ c) (hc : c ≤ maxLen) (w : World) (hr : RdN .u8 w w.heap.size A xs) :
    Calls Try.prog 6 #[.int .u64 (a : Int), .int .u32 (far : Int), .int .u32 (near : Int), .slice A xs.length c] w fun e w' => e = .returned (.bool true) ∧ Below w.heap.size w w' := by
  have h32 : IntKind.u64.wrap (far : Int) = (far : Int) := by rw [IntKind.wrap_u64]; omega
  by_cases h0 : 2000 < xs.length
  · exact up_alone a far near _ c A w h32 (.inl (decide_eq_true (by omega)))
  · have g0 : decide ((2000 : Int) < (xs.length : Int)) = false := decide_eq_false (by omega)
    by_cases h1 : a ≤ 4611686018427387903
    · have g1 : decide ((4611686018427387903 : Int) < (a : Int)) = false := decide_eq_false (by omega)
      by_cases h2 : far ≤ 2147483648
      · have g2 : decide ((2147483648 : Int) < (far : Int)) = false := decide_eq_false (by omega)
        by_cases h3 : far ≤ a
        · have g3 : decide (a < far) = false := decide_eq_false (by omega)
          by_cases h4 : near ≤ far
          · cases hs : Wig.sfits a (a - far) xs with
            | false => exact refused a far near _ c A xs hx rfl (by omega) h1 h2 h3 h4 hs w hr
            | true => exact back a far near _ c A xs hx rfl (by omega) h1 h2 h3 h4 hs w hr
          · exact up_alone a far near _ c A w h32 (.inr ⟨g0, .inr ⟨g1, .inr ⟨g2, .inr ⟨g3, decide_eq_true (by omega)⟩⟩⟩⟩)
        · exact up_alone a far near _ c A w h32 (.inr ⟨g0, .inr ⟨g1, .inr ⟨g2, .inl (decide_eq_true (by omega))⟩⟩⟩)
      · exact up_alone a far near _ c A w h32 (.inr ⟨g0, .inr ⟨g1, .inl (decide_eq_true (by omega))⟩⟩)
    · exact up_alone a far near _ c A w h32 (.inr ⟨g0, .inl (decide_eq_true (by omega))⟩)

set_option maxRecDepth 100000 in
theorem lifted (os : Os) (started : os.Started) (H : Type) (enc : TypeId × Value → H) :
    ReturnsInHanded {} Try.checked os 6 .any (Rows.sealBackSpec.pre6 enc Try.prog Try.f6 Rows.sealBackRow.domain false) (Rows.sealBackSpec.post enc Try.prog Try.f6 false true false false) := by
  refine returnsInHanded_of_change (C := Try.checked) own started (by kernel_rfl) Try.func6
    (ChangeSpec.witness6 (enc := enc) (C := Try.checked) false ⟨#[], #[.int .u64 0, .int .u32 0, .int .u32 0, .slice none 0 0], []⟩ 8 (by kernel_rfl) (by kernel_rfl) (by kernel_rfl) (by kernel_rfl)) ?_
  intro W base args ds gs before hval0 hW hcnd _
  have hval : ∀ (j : Nat) t v, Try.f6.params[j]? = some t → args[j]? = some v → Value.okWide Try.prog W .any base t v := hval0
  have hW' := hW
  obtain ⟨p, q, hA0, hV, rfl, hfz, hnd⟩ := hW
  have hA : DataW.TrodAll enc Try.prog W 0 (fun _ => true) true Try.f6.params.toList args.toList ds p := hA0
  obtain ⟨rfl, rfl⟩ := trodVars_none hV
  simp only [List.append_nil] at hW'
  have hlow : ∀ x ∈ p, x.block < W.heap.size := fun x hx => hW'.lt x hx
  have hA2 := hA
  rw [Try.params6] at hval hA2
  obtain ⟨v0, vs0, d0, ds0, p0, q0, hargs, rfl, rfl, h0, r0⟩ := trodAll_cons hA2
  obtain ⟨v1, vs1, d1, ds1, p1, q1, rfl, rfl, rfl, h1, r1⟩ := trodAll_cons r0
  obtain ⟨v2, vs2, d2, ds2, p2, q2, rfl, rfl, rfl, h2, r2⟩ := trodAll_cons r1
  obtain ⟨v3, vs3, d3, ds3, p3, q3, rfl, rfl, rfl, h3, r3⟩ := trodAll_cons r2
  obtain ⟨rfl, rfl, rfl⟩ := trodAll_nil r3
  obtain rfl : args = #[v0, v1, v2, v3] := by cases args; simp_all
  obtain ⟨n0, rfl, hn0⟩ := open_u64 Try.underlying23 (hval 0 23 v0 rfl rfl) h0
  obtain ⟨n1, rfl, hn1⟩ := open_u32 Try.underlying28 (hval 1 28 v1 rfl rfl) h1
  obtain ⟨n2, rfl, hn2⟩ := open_u32 Try.underlying28 (hval 2 28 v2 rfl rfl) h2
  obtain ⟨A3, c3, xs3, rfl, hx3, hr3, hl3, hm3⟩ := open_row 256 Try.underlying24 Try.underlying5 (by kernel_rfl) (by intro x h; simp [Lit.wf, IntKind.min, IntKind.max, IntKind.signed, IntKind.bits] at h; omega) (hval 3 24 v3 rfl rfl) h3 (fun x hx => hlow x (by simp [hx]))
  refine (walk n0 n1 n2 A3 c3 xs3 hn0 hn1 hn2 hx3 hl3 hm3 W hr3).mono fun e W' ⟨he, hg⟩ => ?_
  subst he
  exact ⟨_, rfl, law_true laid_out (by kernel_rfl) rfl Try.underlying4 (by kernel_rfl) hW' hA rfl rfl rfl hg⟩

theorem over : Rows.sealBackRow.holds Try.pinned (OpenSpec.ofChange Rows.sealBackSpec) :=
  OpenClaim.holds_of_wide 6 Try.f6 rfl rfl rfl rfl rfl rfl rfl ⟨rfl, rfl, rfl, rfl, rfl⟩ rfl rfl rfl rfl rfl (by kernel_rfl) Try.func6 (by kernel_rfl)
    (of_decide_eq_true (by kernel_rfl)) (by unfold Func.isWrapper; first | (rw [if_pos (by decide +kernel)]; kernel_rfl) | (rw [if_neg (by decide +kernel)]; exact ⟨rfl, rfl⟩))
    (fun os started H enc _ => lifted os started H enc)

/-- The statement. -/
theorem proved : Rows.SealBackSaid := over
end Go.Proofs.Ytmodafmnokiceaa.sealBack
