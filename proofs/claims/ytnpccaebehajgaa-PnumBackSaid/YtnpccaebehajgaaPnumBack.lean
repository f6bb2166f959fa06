/-
  PnumBack: a number that is cut by its size is the whole again, for each next that may be awaited meanwhile, whatever the number and the distances. No condition.
-/
import Derived.Test.YtnpccaebehajgaaPnmW
import Derived.Test.YtnpccaebehajgaaOpen
namespace Go.Proofs.Ytnpccaebehajgaa.pnumBack
open Go.ChangeShapes Go.WideShapes Go.ChangeAt Go.RowKit
set_option linter.unusedVariables false

theorem up_alone (a far near : Nat) (w : World) (h32 : IntKind.u64.wrap (far : Int) = (far : Int)) (h : decide ((4611686018427387903 : Int) < (a : Int)) = true ∨ (decide ((4611686018427387903 : Int) < (a : Int)) = false ∧ (decide ((2147483648 : Int) < (far : Int)) = true ∨ (decide ((2147483648 : Int) < (far : Int)) = false ∧ (decide (a < far) = true ∨ (decide (a < far) = false ∧ decide (far < near) = true)))))) :
    Calls Try.prog 4 #[.int .u64 (a : Int), .int .u32 (far : Int), .int .u32 (near : Int)] w fun e w' => e = .returned (.bool true) ∧ Below w.heap.size w w' := by
  have C0 := Lib.hid (fun w => awake_any w)
  rcases h with t1 | ⟨t1, t2 | ⟨t2, t3 | ⟨t3, t4⟩⟩⟩
  all_goals
    go_enter Try.func4, Try.ntmps4
    go_wp2_with fail
    refine (C0.out _).mono ?_
    rintro e w1 ⟨rfl, hb1⟩
    have B1 := Lib.hid hb1
    clear hb1
    go_wp2_with fail
    go_ret
    exact ⟨rfl, B1.out⟩

set_option maxHeartbeats 1000000 in
theorem back (a far near : Nat) (ha : a ≤ 4611686018427387903) (hf : far ≤ 2147483648) (hfa : far ≤ a) (hn : near ≤ far) (w : World) :
    Calls Try.prog 4 #[.int .u64 (a : Int), .int .u32 (far : Int), .int .u32 (near : Int)] w fun e w' => e = .returned (.bool true) ∧ Below w.heap.size w w' := by
  have t1 : decide ((4611686018427387903 : Int) < (a : Int)) = false := decide_eq_false (by omega)
  have t2 : decide ((2147483648 : Int) < (far : Int)) = false := decide_eq_false (by omega)
  have t3 : decide (a < far) = false := decide_eq_false (by omega)
  have t4 : decide (far < near) = false := decide_eq_false (by omega)
  obtain ⟨n, hnn⟩ : ∃ n, n = a - far := ⟨_, rfl⟩
  obtain ⟨q, hq⟩ : ∃ q, q = n + near := ⟨_, rfl⟩
  obtain ⟨u, hu⟩ : ∃ u, u = a + 1 := ⟨_, rfl⟩
  obtain ⟨s, hs⟩ : ∃ s, s = Wig.psize a n := ⟨_, rfl⟩
  have s4 := Wig.psize_range a n
  rw [← hs] at s4
  have hk : Wig.pk (s : Int) = s := by have := Wig.pk_cases (s : Int); omega
  obtain ⟨p, hp⟩ : ∃ p, p = a % Wig.pwin s := ⟨_, rfl⟩
  have pl : p ≤ a := by rw [hp]; exact Nat.mod_le _ _
  have e1 : IntKind.u64.wrap (far : Int) = (far : Int) := by rw [IntKind.wrap_u64]; omega
  have e2 : IntKind.u64.wrap (near : Int) = (near : Int) := by rw [IntKind.wrap_u64]; omega
  have e3 : IntKind.u64.wrap ((a : Int) - (far : Int)) = (n : Int) := by rw [IntKind.wrap_u64]; omega
  have e4 : IntKind.u64.wrap ((n : Int) + (near : Int)) = (q : Int) := by rw [IntKind.wrap_u64]; omega
  have e5 : IntKind.u64.wrap ((a : Int) + 1) = (u : Int) := by rw [IntKind.wrap_u64]; omega
  have s1 : decide ((1 : Int) ≤ (s : Int)) = true := decide_eq_true (by omega)
  have s5 : decide ((s : Int) ≤ 4) = true := decide_eq_true (by omega)
  have K : ∀ m, a - far ≤ m → m ≤ a + 1 → Wig.pwhole p (Wig.pwin (Wig.pk (s : Int))) (Wig.pcap m) = a := fun m h1 h2 => by
    rw [hk, hp, hs, hnn]
    have hc : Wig.pcap m = m ∨ (Wig.pcap m = a ∧ m = a + 1) := by unfold Wig.pcap; split <;> omega
    have hcl := Wig.pcap_le m
    exact Wig.pback ha hf hfa (by omega) (by omega) hcl
  have C0 := Lib.hid (fun w => awake_any w)
  have C1 := Lib.hid (fun w => size_gives a n s w hs.symm (by omega) (by omega))
  have C2 := Lib.hid (fun w => cut_gives a (s : Int) p w (by rw [hk, hp]))
  have C3 := Lib.hid (fun w => whole_gives p (s : Int) n a w (K n (by omega) (by omega)) (by omega) (by omega))
  have C4 := Lib.hid (fun w => whole_gives p (s : Int) q a w (K q (by omega) (by omega)) (by omega) (by omega))
  have C5 := Lib.hid (fun w => whole_gives p (s : Int) u a w (K u (by omega) (by omega)) (by omega) (by omega))
  clear ha hf hfa hn hnn hq hu hs s4 hk hp pl K
  go_enter Try.func4, Try.ntmps4
  go_wp2_with fail
  refine (C0.out _).mono ?_
  rintro e w1 ⟨rfl, hb1⟩
  have B1 := Lib.hid hb1
  clear hb1
  go_wp2_with fail
  refine (C1.out _).mono ?_
  rintro e w2 ⟨rfl, hb2⟩
  have B2 := Lib.hid (below_trans' B1.out hb2)
  clear hb2
  go_wp2_with fail
  refine (C2.out _).mono ?_
  rintro e w' ⟨rfl, rfl⟩
  go_wp2_with fail
  refine (C3.out _).mono ?_
  rintro e w3 ⟨rfl, hb3⟩
  have B3 := Lib.hid (below_trans' B2.out hb3)
  clear hb3
  go_wp2_with fail
  refine (C4.out _).mono ?_
  rintro e w4 ⟨rfl, hb4⟩
  have B4 := Lib.hid (below_trans' B3.out hb4)
  clear hb4
  go_wp2_with fail
  refine (C5.out _).mono ?_
  rintro e w5 ⟨rfl, hb5⟩
  have B5 := Lib.hid (below_trans' B4.out hb5)
  clear hb5
  go_wp2_with fail
  go_ret
  exact ⟨rfl, B5.out⟩

theorem walk (a far near : Nat) (ha : a < 18446744073709551616) (hf : far < 4294967296) (hn : near < 4294967296) (w : World) :
    Calls Try.prog 4 #[.int .u64 (a : Int), .int .u32 (far : Int), .int .u32 (near : Int)] w fun e w' => e = .returned (.bool true) ∧ Below w.heap.size w w' := by
  have h32 : IntKind.u64.wrap (far : Int) = (far : Int) := by rw [IntKind.wrap_u64]; omega
  by_cases h1 : a ≤ 4611686018427387903
  · by_cases h2 : far ≤ 2147483648
    · by_cases h3 : far ≤ a
      · by_cases h4 : near ≤ far
        · exact back a far near h1 h2 h3 h4 w
        · exact up_alone a far near w h32 (.inr ⟨decide_eq_false (by omega), .inr ⟨decide_eq_false (by omega), .inr ⟨decide_eq_false (by omega), decide_eq_true (by omega)⟩⟩⟩)
      · exact up_alone a far near w h32 (.inr ⟨decide_eq_false (by omega), .inr ⟨decide_eq_false (by omega), .inl (decide_eq_true (by omega))⟩⟩)
    · exact up_alone a far near w h32 (.inr ⟨decide_eq_false (by omega), .inl (decide_eq_true (by omega))⟩)
  · exact up_alone a far near w h32 (.inl (decide_eq_true (by omega)))

set_option maxRecDepth 100000 in
theorem lifted (os : Os) (started : os.Started) (H : Type) (enc : TypeId × Value → H) :
    ReturnsInHanded {} Try.checked os 4 .any (Rows.pnumBackSpec.pre6 enc Try.prog Try.f4 Rows.pnumBackRow.domain false) (Rows.pnumBackSpec.post enc Try.prog Try.f4 false true false false) := by
  refine returnsInHanded_of_change (C := Try.checked) own started (by kernel_rfl) Try.func4
    (ChangeSpec.witness6 (enc := enc) (C := Try.checked) false ⟨#[], #[.int .u64 0, .int .u32 0, .int .u32 0], []⟩ 8 (by kernel_rfl) (by kernel_rfl) (by kernel_rfl) (by kernel_rfl)) ?_
  intro W base args ds gs before hval0 hW hcnd _
  have hval : ∀ (j : Nat) t v, Try.f4.params[j]? = some t → args[j]? = some v → Value.okWide Try.prog W .any base t v := hval0
  have hW' := hW
  obtain ⟨p, q, hA0, hV, rfl, hfz, hnd⟩ := hW
  have hA : DataW.TrodAll enc Try.prog W 0 (fun _ => true) true Try.f4.params.toList args.toList ds p := hA0
  obtain ⟨rfl, rfl⟩ := trodVars_none hV
  simp only [List.append_nil] at hW'
  have hlow : ∀ x ∈ p, x.block < W.heap.size := fun x hx => hW'.lt x hx
  have hA2 := hA
  rw [Try.params4] at hval hA2
  obtain ⟨v0, vs0, d0, ds0, p0, q0, hargs, rfl, rfl, h0, r0⟩ := trodAll_cons hA2
  obtain ⟨v1, vs1, d1, ds1, p1, q1, rfl, rfl, rfl, h1, r1⟩ := trodAll_cons r0
  obtain ⟨v2, vs2, d2, ds2, p2, q2, rfl, rfl, rfl, h2, r2⟩ := trodAll_cons r1
  obtain ⟨rfl, rfl, rfl⟩ := trodAll_nil r2
  obtain rfl : args = #[v0, v1, v2] := by cases args; simp_all
  obtain ⟨n0, rfl, hn0⟩ := open_u64 Try.underlying22 (hval 0 22 v0 rfl rfl) h0
  obtain ⟨n1, rfl, hn1⟩ := open_u32 Try.underlying28 (hval 1 28 v1 rfl rfl) h1
  obtain ⟨n2, rfl, hn2⟩ := open_u32 Try.underlying28 (hval 2 28 v2 rfl rfl) h2
  refine (walk n0 n1 n2 hn0 hn1 hn2 W).mono fun e W' ⟨he, hg⟩ => ?_
  subst he
  exact ⟨_, rfl, law_true laid_out (by kernel_rfl) rfl Try.underlying4 (by kernel_rfl) hW' hA rfl rfl rfl hg⟩

theorem over : Rows.pnumBackRow.holds Try.pinned (OpenSpec.ofChange Rows.pnumBackSpec) :=
  OpenClaim.holds_of_wide 4 Try.f4 rfl rfl rfl rfl rfl rfl rfl ⟨rfl, rfl, rfl, rfl, rfl⟩ rfl rfl rfl rfl rfl (by kernel_rfl) Try.func4 (by kernel_rfl)
    (of_decide_eq_true (by kernel_rfl)) (by unfold Func.isWrapper; first | (rw [if_pos (by decide +kernel)]; kernel_rfl) | (rw [if_neg (by decide +kernel)]; exact ⟨rfl, rfl⟩))
    (fun os started H enc _ => lifted os started H enc)

/-- The statement. -/
theorem proved : Rows.PnumBackSaid := over
end Go.Proofs.Ytnpccaebehajgaa.pnumBack
