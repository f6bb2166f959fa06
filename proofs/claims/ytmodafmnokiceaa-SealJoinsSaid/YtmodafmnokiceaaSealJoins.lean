/-
  SealJoins: two lists whose check sums are the same have the same ones with whatever stands behind them, and else others; whatever the lists (at most two thousand bytes each). No condition.
-/
import Derived.Test.YtmodafmnokiceaaSeaW
import Derived.Test.YtmodafmnokiceaaOpen
namespace Go.Proofs.Ytmodafmnokiceaa.sealJoins
open Go.ChangeShapes Go.WideShapes Go.ChangeAt Go.RowKit Go.Deep
set_option linter.unusedVariables false

theorem long (A0 A1 A2 : Option Addr) (c0 c1 c2 n0 n1 n2 : Nat) (w : World) (h : decide ((2000 : Int) < (n0 : Int)) = true ∨ (decide ((2000 : Int) < (n0 : Int)) = false ∧ (decide ((2000 : Int) < (n1 : Int)) = true ∨ (decide ((2000 : Int) < (n1 : Int)) = false ∧ decide ((2000 : Int) < (n2 : Int)) = true)))) :
    Calls Try.prog 9 #[.slice A0 n0 c0, .slice A1 n1 c1, .slice A2 n2 c2] w fun e w' => e = .returned (.bool true) ∧ Below w.heap.size w w' := by
  have C0 := Lib.hid (awake_any w)
  rcases h with t1 | ⟨t1, t2 | ⟨t2, t3⟩⟩
  all_goals
    go_enter Try.func9, Try.ntmps9
    go_wp2_with fail
    refine (C0.out).mono ?_
    rintro e w1 ⟨rfl, hb1⟩
    have B1 := Lib.hid hb1
    clear hb1
    go_wp2_with fail
    go_ret
    exact ⟨rfl, B1.out⟩

set_option maxHeartbeats 2000000 in
theorem short (A0 A1 A2 : Option Addr) (c0 c1 c2 n0 n1 n2 : Nat) (a b m : List Nat) (ha : Wig.Bytes a) (hb : Wig.Bytes b) (hm : Wig.Bytes m) (h0 : n0 = a.length) (h1 : n1 = b.length) (h2 : n2 = m.length) (l0 : n0 ≤ 2000) (l1 : n1 ≤ 2000) (l2 : n2 ≤ 2000) (w : World)
    (r0 : RdN .u8 w w.heap.size A0 a) (r1 : RdN .u8 w w.heap.size A1 b) (r2 : RdN .u8 w w.heap.size A2 m) :
    Calls Try.prog 9 #[.slice A0 n0 c0, .slice A1 n1 c1, .slice A2 n2 c2] w fun e w' => e = .returned (.bool true) ∧ Below w.heap.size w w' := by
  obtain ⟨x, hx⟩ : ∃ x, x = Wig.csum (a ++ m) := ⟨_, rfl⟩
  obtain ⟨y, hy⟩ : ∃ y, y = Wig.csum (b ++ m) := ⟨_, rfl⟩
  obtain ⟨s, hs⟩ : ∃ s, s = Wig.csum a := ⟨_, rfl⟩
  obtain ⟨u, hu⟩ : ∃ u, u = Wig.csum b := ⟨_, rfl⟩
  have key := Wig.csum_more ha hb hm
  rw [← hx, ← hy, ← hs, ← hu] at key
  obtain ⟨t, k1, k2⟩ : ∃ t, ((x : Int) == (y : Int)) = t ∧ ((s : Int) == (u : Int)) = t := by
    by_cases h : s = u
    · exact ⟨true, by have := key.2 h; simp; omega, by simp; omega⟩
    · exact ⟨false, by have := fun h' => h (key.1 h'); simp; omega, by simp; omega⟩
  have bam : Wig.Bytes (a ++ m) := fun z hz => (List.mem_append.1 hz).elim (ha z) (hm z)
  have bbm : Wig.Bytes (b ++ m) := fun z hz => (List.mem_append.1 hz).elim (hb z) (hm z)
  have t0 : decide ((2000 : Int) < (n0 : Int)) = false := decide_eq_false (by omega)
  have t1 : decide ((2000 : Int) < (n1 : Int)) = false := decide_eq_false (by omega)
  have t2 : decide ((2000 : Int) < (n2 : Int)) = false := decide_eq_false (by omega)
  have C0 := Lib.hid (awake_any w)
  have CX := Lib.hid (fun A n c w (hn : n = (a ++ m).length) hr => sum_gives A n c (a ++ m) x w hx.symm bam hn (by rw [hn, List.length_append]; omega) hr)
  have CY := Lib.hid (fun A n c w (hn : n = (b ++ m).length) hr => sum_gives A n c (b ++ m) y w hy.symm bbm hn (by rw [hn, List.length_append]; omega) hr)
  have CS := Lib.hid (fun w hr => sum_gives A0 n0 c0 a s w hs.symm ha h0 (by omega) hr)
  have CU := Lib.hid (fun w hr => sum_gives A1 n1 c1 b u w hu.symm hb h1 (by omega) hr)
  have R0 := Lib.hid r0
  have R1 := Lib.hid r1
  have R2 := Lib.hid r2
  have HN := Lib.hid (And.intro h0 (And.intro h1 (And.intro h2 (And.intro l0 (And.intro l1 l2)))))
  clear ha hb hm h0 h1 h2 l0 l1 l2 r0 r1 r2 hx hy hs hu key bam bbm
  go_enter Try.func9, Try.ntmps9
  go_wp2_with fail
  refine (C0.out).mono ?_
  rintro e w1 ⟨rfl, hb1⟩
  have B1 := Lib.hid hb1
  have Q0 := Lib.hid (R0.out.step hb1)
  have Q1 := Lib.hid (R1.out.step hb1)
  have Q2 := Lib.hid (R2.out.step hb1)
  have O1 := Lib.hid (own_none w1)
  have E1 := Lib.hid ((Below.refl w1.heap.size w1).alloc (Nat.le_refl _) (.cells #[] 5))
  clear hb1 R0 R1 R2
  go_wp2_with (at_builtin; refine wpList_append_bytes rfl _ _ rfl w1.heap.size _ [] a rfl O1.out w1.heap.size A0 c0 n0 HN.out.1.symm rfl (Q0.out.below E1.out) (by have := HN.out; simp; omega) (by simp) ?_)
  intro v2 w2 hown2 hg2
  have hb2 : Below w1.heap.size w1 w2 := E1.out.grown hg2 (by simp) (fun q hq => (O1.out.block q hq).1)
  have O2 := Lib.hid hown2
  have B2 := Lib.hid hb2
  have S2 := Lib.hid hb2.size
  have P2 := Lib.hid (Q2.out.step hb2)
  clear hown2 hg2 hb2 O1 E1
  go_wp2_with (at_builtin; refine wpList_append_bytes rfl _ _ rfl w1.heap.size _ a m rfl O2.out w2.heap.size A2 c2 n2 HN.out.2.2.1.symm rfl P2.out (by have := HN.out; omega) S2.out ?_)
  intro v3 w3 hown3 hg3
  have hb3 : Below w1.heap.size w1 w3 := B2.out.grown hg3 S2.out (fun q hq => (O2.out.block q hq).1)
  obtain ⟨A3, c3, rfl, -, -, hr3, -⟩ := hown3.rd
  have C := CX.out A3 _ c3 w3 rfl hr3
  obtain ⟨n3, hn3⟩ : ∃ n3, n3 = (a ++ m).length := ⟨_, rfl⟩
  rw [← hn3] at C ⊢
  have C' := Lib.hid C
  have B3 := Lib.hid hb3
  have S3 := Lib.hid hb3.size
  clear hown3 hg3 hb3 hr3 C hn3 B2 S2 P2 O2 CX
  go_wp2_with fail
  refine (C'.out).mono ?_
  rintro e w4 ⟨rfl, hb4⟩
  have hb4' := B3.out.trans (hb4.mono S3.out)
  have B4 := Lib.hid (below_trans' B1.out hb4')
  have P1 := Lib.hid (Q1.out.step hb4')
  have P2 := Lib.hid (Q2.out.step hb4')
  have P0 := Lib.hid (Q0.out.step hb4')
  have O4 := Lib.hid (own_none w4)
  have E4 := Lib.hid ((Below.refl w4.heap.size w4).alloc (Nat.le_refl _) (.cells #[] 5))
  clear hb4 hb4' B1 B3 S3 Q0 Q1 Q2 C'
  go_wp2_with (at_builtin; refine wpList_append_bytes rfl _ _ rfl w4.heap.size _ [] b rfl O4.out w4.heap.size A1 c1 n1 HN.out.2.1.symm rfl (P1.out.below E4.out) (by have := HN.out; simp; omega) (by simp) ?_)
  intro v5 w5 hown5 hg5
  have hb5 : Below w4.heap.size w4 w5 := E4.out.grown hg5 (by simp) (fun q hq => (O4.out.block q hq).1)
  have O5 := Lib.hid hown5
  have B5 := Lib.hid hb5
  have S5 := Lib.hid hb5.size
  have L2 := Lib.hid (P2.out.step hb5)
  clear hown5 hg5 hb5 O4 E4
  go_wp2_with (at_builtin; refine wpList_append_bytes rfl _ _ rfl w4.heap.size _ b m rfl O5.out w5.heap.size A2 c2 n2 HN.out.2.2.1.symm rfl L2.out (by have := HN.out; omega) S5.out ?_)
  intro v6 w6 hown6 hg6
  have hb6 : Below w4.heap.size w4 w6 := B5.out.grown hg6 S5.out (fun q hq => (O5.out.block q hq).1)
  obtain ⟨A6, c6, rfl, -, -, hr6, -⟩ := hown6.rd
  have C := CY.out A6 _ c6 w6 rfl hr6
  obtain ⟨n6, hn6⟩ : ∃ n6, n6 = (b ++ m).length := ⟨_, rfl⟩
  rw [← hn6] at C ⊢
  have C' := Lib.hid C
  have B6 := Lib.hid hb6
  have S6 := Lib.hid hb6.size
  clear hown6 hg6 hb6 hr6 C hn6 B5 S5 L2 O5 CY
  go_wp2_with fail
  refine (C'.out).mono ?_
  rintro e w7 ⟨rfl, hb7⟩
  have hb7' := B6.out.trans (hb7.mono S6.out)
  have B7 := Lib.hid (below_trans' B4.out hb7')
  have D1 := Lib.hid (CS.out w7 (P0.out.step hb7'))
  have L1 := Lib.hid (P1.out.step hb7')
  clear hb7 hb7' B4 B6 S6 P0 P1 P2 C' CS
  go_wp2_with fail
  refine (D1.out).mono ?_
  rintro e w8 ⟨rfl, hb8⟩
  have D2 := Lib.hid (CU.out w8 (L1.out.step hb8))
  have B8 := Lib.hid (below_trans' B7.out hb8)
  clear hb8 B7 D1 L1 CU
  go_wp2_with fail
  refine (D2.out).mono ?_
  rintro e w9 ⟨rfl, hb9⟩
  have B9 := Lib.hid (below_trans' B8.out hb9)
  clear hb9 B8 D2
  go_wp2_with fail
  go_ret
  exact ⟨rfl, B9.out⟩

theorem walk (A0 : Option Addr) (c0 : Nat) (a : List Nat) (A1 : Option Addr) (c1 : Nat) (b : List Nat) (A2 : Option Addr) (c2 : Nat) (m : List Nat) (h0 : ∀ x ∈ a, x < 256) (l0 : a.length ≤ c0) (m0 : c0 ≤ maxLen) (h1 : ∀ x ∈ b, x < 256) (l1 : b.length ≤ c1) (m1 : c1 ≤ maxLen) (h2 : ∀ x ∈ m, x < 256) (l2 : m.length ≤ c2) (m2 : c2 ≤ maxLen) (w : World)
    (r0 : RdN .u8 w w.heap.size A0 a) (r1 : RdN .u8 w w.heap.size A1 b) (r2 : RdN .u8 w w.heap.size A2 m) :
    Calls Try.prog 9 #[.slice A0 a.length c0, .slice A1 b.length c1, .slice A2 m.length c2] w fun e w' => e = .returned (.bool true) ∧ Below w.heap.size w w' := by
  by_cases g0 : 2000 < a.length
  · exact long A0 A1 A2 c0 c1 c2 _ _ _ w (.inl (decide_eq_true (by omega)))
  · by_cases g1 : 2000 < b.length
    · exact long A0 A1 A2 c0 c1 c2 _ _ _ w (.inr ⟨decide_eq_false (by omega), .inl (decide_eq_true (by omega))⟩)
    · by_cases g2 : 2000 < m.length
      · exact long A0 A1 A2 c0 c1 c2 _ _ _ w (.inr ⟨decide_eq_false (by omega), .inr ⟨decide_eq_false (by omega), decide_eq_true (by omega)⟩⟩)
      · exact short A0 A1 A2 c0 c1 c2 _ _ _ a b m h0 h1 h2 rfl rfl rfl (by omega) (by omega) (by omega) w r0 r1 r2

set_option maxRecDepth 100000 in
theorem lifted (os : Os) (started : os.Started) (H : Type) (enc : TypeId × Value → H) :
    ReturnsInHanded {} Try.checked os 9 .any (Rows.sealJoinsSpec.pre6 enc Try.prog Try.f9 Rows.sealJoinsRow.domain false) (Rows.sealJoinsSpec.post enc Try.prog Try.f9 false true false false) := by
  refine returnsInHanded_of_change (C := Try.checked) own started (by kernel_rfl) Try.func9
    (ChangeSpec.witness6 (enc := enc) (C := Try.checked) false ⟨#[], #[.slice none 0 0, .slice none 0 0, .slice none 0 0], []⟩ 8 (by kernel_rfl) (by kernel_rfl) (by kernel_rfl) (by kernel_rfl)) ?_
  intro W base args ds gs before hval0 hW hcnd _
  have hval : ∀ (j : Nat) t v, Try.f9.params[j]? = some t → args[j]? = some v → Value.okWide Try.prog W .any base t v := hval0
  have hW' := hW
  obtain ⟨p, q, hA0, hV, rfl, hfz, hnd⟩ := hW
  have hA : DataW.TrodAll enc Try.prog W 0 (fun _ => true) true Try.f9.params.toList args.toList ds p := hA0
  obtain ⟨rfl, rfl⟩ := trodVars_none hV
  simp only [List.append_nil] at hW'
  have hlow : ∀ x ∈ p, x.block < W.heap.size := fun x hx => hW'.lt x hx
  have hA2 := hA
  rw [Try.params9] at hval hA2
  obtain ⟨v0, vs0, d0, ds0, p0, q0, hargs, rfl, rfl, h0, r0⟩ := trodAll_cons hA2
  obtain ⟨v1, vs1, d1, ds1, p1, q1, rfl, rfl, rfl, h1, r1⟩ := trodAll_cons r0
  obtain ⟨v2, vs2, d2, ds2, p2, q2, rfl, rfl, rfl, h2, r2⟩ := trodAll_cons r1
  obtain ⟨rfl, rfl, rfl⟩ := trodAll_nil r2
  obtain rfl : args = #[v0, v1, v2] := by cases args; simp_all
  obtain ⟨A0, c0, xs0, rfl, hx0, hr0, hl0, hm0⟩ := open_row 256 Try.underlying24 Try.underlying5 (by kernel_rfl) (by intro x h; simp [Lit.wf, IntKind.min, IntKind.max, IntKind.signed, IntKind.bits] at h; omega) (hval 0 24 v0 rfl rfl) h0 (fun x hx => hlow x (by simp [hx]))
  obtain ⟨A1, c1, xs1, rfl, hx1, hr1, hl1, hm1⟩ := open_row 256 Try.underlying24 Try.underlying5 (by kernel_rfl) (by intro x h; simp [Lit.wf, IntKind.min, IntKind.max, IntKind.signed, IntKind.bits] at h; omega) (hval 1 24 v1 rfl rfl) h1 (fun x hx => hlow x (by simp [hx]))
  obtain ⟨A2, c2, xs2, rfl, hx2, hr2, hl2, hm2⟩ := open_row 256 Try.underlying24 Try.underlying5 (by kernel_rfl) (by intro x h; simp [Lit.wf, IntKind.min, IntKind.max, IntKind.signed, IntKind.bits] at h; omega) (hval 2 24 v2 rfl rfl) h2 (fun x hx => hlow x (by simp [hx]))
  refine (walk A0 c0 xs0 A1 c1 xs1 A2 c2 xs2 hx0 hl0 hm0 hx1 hl1 hm1 hx2 hl2 hm2 W hr0 hr1 hr2).mono fun e W' ⟨he, hg⟩ => ?_
  subst he
  exact ⟨_, rfl, law_true laid_out (by kernel_rfl) rfl Try.underlying4 (by kernel_rfl) hW' hA rfl rfl rfl hg⟩

theorem over : Rows.sealJoinsRow.holds Try.pinned (OpenSpec.ofChange Rows.sealJoinsSpec) :=
  OpenClaim.holds_of_wide 9 Try.f9 rfl rfl rfl rfl rfl rfl rfl ⟨rfl, rfl, rfl, rfl, rfl⟩ rfl rfl rfl rfl rfl (by kernel_rfl) Try.func9 (by kernel_rfl)
    (of_decide_eq_true (by kernel_rfl)) (by unfold Func.isWrapper; first | (rw [if_pos (by decide +kernel)]; kernel_rfl) | (rw [if_neg (by decide +kernel)]; exact ⟨rfl, rfl⟩))
    (fun os started H enc _ => lifted os started H enc)

/-- The statement. -/
theorem proved : Rows.SealJoinsSaid := over
end Go.Proofs.Ytmodafmnokiceaa.sealJoins
