/-
  PnumNear: the number that a part stands for is that part, modulo the window, and no further than half a window from the next one, unless it would be no number, whatever the part, the size and the next one. No condition.
-/
import Derived.Test.YtnpccaebehajgaaPnmW
import Derived.Test.YtnpccaebehajgaaOpen
import Derived.Deep.DeepCutAuto
namespace Go.Proofs.Ytnpccaebehajgaa.pnumNear
open Go.ChangeShapes Go.WideShapes Go.ChangeAt Go.RowKit
set_option linter.unusedVariables false

theorem up_alone (p : Nat) (i : Int) (n : Nat) (w : World) (h : decide (i < 1) = true ∨ (decide (i < 1) = false ∧ (decide (4 < i) = true ∨ (decide (4 < i) = false ∧ decide ((4611686018427387903 : Int) < (n : Int)) = true)))) :
    Calls Try.prog 5 #[.int .u64 (p : Int), .int .i64 i, .int .u64 (n : Int)] w fun e w' => e = .returned (.bool true) ∧ Below w.heap.size w w' := by
  have C0 := Lib.hid (fun w => awake_any w)
  rcases h with t1 | ⟨t1, t2 | ⟨t2, t3⟩⟩
  all_goals
    go_enter Try.func5, Try.ntmps5
    go_wp2_with fail
    refine (C0.out _).mono ?_
    rintro e w1 ⟨rfl, hb1⟩
    have B1 := Lib.hid hb1
    clear hb1
    go_wp2_with fail
    go_ret
    exact ⟨rfl, B1.out⟩

/-- What is asked of the whole, reckoned: x1, x2 the distances as Go reckons them; E: the end of the numbers. -/
def Asked (h n r x1 x2 : Nat) (b1 b2 : Bool) : Prop :=
  (decide (x1 ≤ h) = true ∧ decide (n ≤ r) = true) ∨ (decide (x1 ≤ h) = false ∧ decide (x2 < h) = true ∧ decide (r < n) = true) ∨ (decide (x1 ≤ h) = false ∧ decide (x2 < h) = false ∧ (b1 = true ∨ (b1 = false ∧ b2 = true)))

set_option maxRecDepth 20000 in
set_option maxHeartbeats 2000000 in
theorem near (p k n g : Nat) (b1 b2 : Bool) (w : World) (hp : p < 18446744073709551616) (k1 : 1 ≤ k) (k4 : k ≤ 4) (hn : n ≤ 4611686018427387903) (hg : g = Wig.pwin k) (hb1 : decide (n < g) = b1) (hb2 : decide (4611686018427387903 - 2 * g < n) = b2) :
    Calls Try.prog 5 #[.int .u64 (p : Int), .int .i64 (k : Int), .int .u64 (n : Int)] w fun e w' => e = .returned (.bool true) ∧ Below w.heap.size w w' := by
  have hk : Wig.pk (k : Int) = k := by have := Wig.pk_cases (k : Int); omega
  have g4 := Wig.pwin_four k
  rw [← hg] at g4
  obtain ⟨r, hr⟩ : ∃ r, r = Wig.pwhole p g n := ⟨_, rfl⟩
  have rl : r < 9223372036854775808 := by rw [hr]; exact Wig.pwhole_le g4 hn
  have rp : r % g = p % g := by rw [hr]; exact Wig.ppart g4
  have rn := Wig.pnear (p := p) g4 hn
  rw [← hr] at rn
  obtain ⟨c, hc⟩ : ∃ c, c = p % g := ⟨_, rfl⟩
  obtain ⟨h, hh⟩ : ∃ h, h = g / 2 := ⟨_, rfl⟩
  obtain ⟨x1, hx1⟩ : ∃ x1 : Nat, x1 = if n ≤ r then r - n else 18446744073709551616 - (n - r) := ⟨_, rfl⟩
  obtain ⟨x2, hx2⟩ : ∃ x2 : Nat, x2 = if r ≤ n then n - r else 18446744073709551616 - (r - n) := ⟨_, rfl⟩
  obtain ⟨gg, hgg⟩ : ∃ gg, gg = 2 * g := ⟨_, rfl⟩
  obtain ⟨q, hq⟩ : ∃ q, q = 4611686018427387903 - gg := ⟨_, rfl⟩
  have A : Asked h n r x1 x2 b1 b2 := by
    unfold Asked
    rw [← hb1, ← hb2]
    simp only [decide_eq_true_eq, decide_eq_false_iff_not]
    rw [hx1, hx2, hh]
    split <;> split <;> omega
  have e1 : IntKind.u64.wrap ((r : Int) - (n : Int)) = (x1 : Int) := by rw [IntKind.wrap_u64, hx1]; split <;> omega
  have e2 : IntKind.u64.wrap ((n : Int) - (r : Int)) = (x2 : Int) := by rw [IntKind.wrap_u64, hx2]; split <;> omega
  have e3 : (g : Int) / 2 = (h : Int) := by omega
  have e4 : IntKind.u64.wrap (h : Int) = (h : Int) := by rw [IntKind.wrap_u64]; omega
  have e5 : (r : Int) % (g : Int) = (c : Int) := by rw [hc, ← rp]; rfl
  have e6 : (p : Int) % (g : Int) = (c : Int) := by rw [hc]; rfl
  have e7 : IntKind.u64.wrap (2 * (g : Int)) = (gg : Int) := by rw [IntKind.wrap_u64]; omega
  have e8 : IntKind.u64.wrap (4611686018427387903 - (gg : Int)) = (q : Int) := by rw [IntKind.wrap_u64]; omega
  have g0 : ¬ g = 0 := by omega
  rw [← hgg, ← hq] at hb2
  have C0 := Lib.hid (fun w => awake_any w)
  have C1 := Lib.hid (fun w => whole_gives p (k : Int) n r w (by rw [hk, ← hg, Wig.pcap_of hn, hr]) hp (by omega))
  have C2 := Lib.hid (fun w => cut_gives r (k : Int) c w (by rw [hk, ← hg, rp, hc]))
  have t1 : decide ((k : Int) < 1) = false := decide_eq_false (by omega)
  have t2 : decide ((4 : Int) < (k : Int)) = false := decide_eq_false (by omega)
  have t3 : decide ((4611686018427387903 : Int) < (n : Int)) = false := decide_eq_false (by omega)
  have E1 := fun _ : Unit => e1
  have E2 := fun _ : Unit => e2
  have E3 := fun _ : Unit => e3
  have E4 := fun _ : Unit => e4
  have E5 := fun _ : Unit => e5
  have E6 := fun _ : Unit => e6
  have E7 := fun _ : Unit => e7
  have E8 := fun _ : Unit => e8
  have HA := fun _ : Unit => A
  have T1 := fun _ : Unit => hb1
  have T2 := fun _ : Unit => hb2
  clear e1 e2 e3 e4 e5 e6 e7 e8 A hb1 hb2 hx1 hx2 hgg hq hh hc hr rl rp rn g4 hk hn hp
  go_enter Try.func5, Try.ntmps5
  go_wp2_with fail
  refine (C0.out _).mono ?_
  rintro e w1 ⟨rfl, hb1⟩
  have B1 := Lib.hid hb1
  clear hb1
  go_upto_region 4 with fail
  go_cut [8] (fun s8 wx => w1 = wx ∧ s8 = .int .u64 (g : Int))
  case first =>
    have ck : k = 1 ∨ k = 2 ∨ k = 3 ∨ k = 4 := by omega
    clear t1 t2 t3 E1 E2 E3 E4 E5 E6 E7 E8 HA T1 T2 g0 C1 C2 k1 k4
    have G := fun _ : Unit => hg
    clear hg
    rcases ck with rfl | rfl | rfl | rfl
    · rw [show ((1 : Nat) : Int) = 1 from rfl]
      go_wp2_with fail
      go_meet
      case rel => exact ⟨rfl, by rw [G ()]; rfl⟩
    · rw [show ((2 : Nat) : Int) = 2 from rfl]
      go_wp2_with fail
      go_meet
      case rel => exact ⟨rfl, by rw [G ()]; rfl⟩
    · rw [show ((3 : Nat) : Int) = 3 from rfl]
      go_wp2_with fail
      go_meet
      case rel => exact ⟨rfl, by rw [G ()]; rfl⟩
    · rw [show ((4 : Nat) : Int) = 4 from rfl]
      go_wp2_with fail
      go_meet
      case rel => exact ⟨rfl, by rw [G ()]; rfl⟩
  case rest =>
    obtain ⟨rfl, rfl⟩ := hcut
    clear hg k1 k4 t1 t2 t3
    go_wp2_with fail
    refine (C1.out _).mono ?_
    rintro e w2 ⟨rfl, hb2⟩
    have B2 := Lib.hid (below_trans' B1.out hb2)
    clear hb2
    have e5 := E5 ()
    have e6 := E6 ()
    go_wp2_with fail
    go_quiet (fail)
    go_upto_region 8 with fail
    generalize hw3 : w2.drewN _ = w3
    have B3 : Below w.heap.size w w3 := by rw [← hw3]; exact below_drewN' B2.out _
    replace B3 := Lib.hid B3
    clear hw3 B2
    have e1 := E1 ()
    have e2 := E2 ()
    have e3 := E3 ()
    have e4 := E4 ()
    have e7 := E7 ()
    have e8 := E8 ()
    have A := HA ()
    have a1 := T1 ()
    have a2 := T2 ()
    clear E1 E2 E3 E4 E5 E6 E7 E8 HA T1 T2
    unfold Asked at A
    rcases A with ⟨s1, s2⟩ | ⟨s1, s2, s3⟩ | ⟨s1, s2, rfl | ⟨rfl, rfl⟩⟩
    · cases b1 <;> cases b2
      all_goals
        go_wp2_with fail
        go_quiet ((go_at_call 11; exact quiet_eq (C2.out _)))
        go_wp2_with fail
        go_ret
        exact ⟨rfl, below_drewN' B3.out _⟩
    · cases b1 <;> cases b2
      all_goals
        go_wp2_with fail
        go_quiet ((go_at_call 11; exact quiet_eq (C2.out _)))
        go_wp2_with fail
        go_ret
        exact ⟨rfl, below_drewN' B3.out _⟩
    · cases b2
      all_goals
        go_wp2_with fail
        go_quiet ((go_at_call 11; exact quiet_eq (C2.out _)))
        go_wp2_with fail
        go_ret
        exact ⟨rfl, below_drewN' B3.out _⟩
    · go_wp2_with fail
      go_quiet ((go_at_call 11; exact quiet_eq (C2.out _)))
      go_wp2_with fail
      go_ret
      exact ⟨rfl, below_drewN' B3.out _⟩

theorem walk (p : Nat) (i : Int) (n : Nat) (hp : p < 18446744073709551616) (hi : -9223372036854775808 ≤ i) (hj : i ≤ 9223372036854775807) (hn : n < 18446744073709551616) (w : World) :
    Calls Try.prog 5 #[.int .u64 (p : Int), .int .i64 i, .int .u64 (n : Int)] w fun e w' => e = .returned (.bool true) ∧ Below w.heap.size w w' := by
  by_cases h1 : i < 1
  · exact up_alone p i n w (.inl (decide_eq_true h1))
  · by_cases h2 : 4 < i
    · exact up_alone p i n w (.inr ⟨decide_eq_false h1, .inl (decide_eq_true h2)⟩)
    · by_cases h3 : n ≤ 4611686018427387903
      · obtain ⟨k, rfl⟩ : ∃ k : Nat, i = (k : Int) := ⟨i.toNat, by omega⟩
        exact near p k n _ _ _ w hp (by omega) (by omega) h3 rfl rfl rfl
      · exact up_alone p i n w (.inr ⟨decide_eq_false h1, .inr ⟨decide_eq_false h2, decide_eq_true (by omega)⟩⟩)

set_option maxRecDepth 100000 in
theorem lifted (os : Os) (started : os.Started) (H : Type) (enc : TypeId × Value → H) :
    ReturnsInHanded {} Try.checked os 5 .any (Rows.pnumNearSpec.pre6 enc Try.prog Try.f5 Rows.pnumNearRow.domain false) (Rows.pnumNearSpec.post enc Try.prog Try.f5 false true false false) := by
  refine returnsInHanded_of_change (C := Try.checked) own started (by kernel_rfl) Try.func5
    (ChangeSpec.witness6 (enc := enc) (C := Try.checked) false ⟨#[], #[.int .u64 0, .int .i64 0, .int .u64 0], []⟩ 8 (by kernel_rfl) (by kernel_rfl) (by kernel_rfl) (by kernel_rfl)) ?_
  intro W base args ds gs before hval0 hW hcnd _
  have hval : ∀ (j : Nat) t v, Try.f5.params[j]? = some t → args[j]? = some v → Value.okWide Try.prog W .any base t v := hval0
  have hW' := hW
  obtain ⟨p, q, hA0, hV, rfl, hfz, hnd⟩ := hW
  have hA : DataW.TrodAll enc Try.prog W 0 (fun _ => true) true Try.f5.params.toList args.toList ds p := hA0
  obtain ⟨rfl, rfl⟩ := trodVars_none hV
  simp only [List.append_nil] at hW'
  have hlow : ∀ x ∈ p, x.block < W.heap.size := fun x hx => hW'.lt x hx
  have hA2 := hA
  rw [Try.params5] at hval hA2
  obtain ⟨v0, vs0, d0, ds0, p0, q0, hargs, rfl, rfl, h0, r0⟩ := trodAll_cons hA2
  obtain ⟨v1, vs1, d1, ds1, p1, q1, rfl, rfl, rfl, h1, r1⟩ := trodAll_cons r0
  obtain ⟨v2, vs2, d2, ds2, p2, q2, rfl, rfl, rfl, h2, r2⟩ := trodAll_cons r1
  obtain ⟨rfl, rfl, rfl⟩ := trodAll_nil r2
  obtain rfl : args = #[v0, v1, v2] := by cases args; simp_all
  obtain ⟨n0, rfl, hn0⟩ := open_u64 Try.underlying22 (hval 0 22 v0 rfl rfl) h0
  obtain ⟨i1, rfl, hi1, hj1⟩ := open_i64 Try.underlying3 (hval 1 3 v1 rfl rfl) h1
  obtain ⟨n2, rfl, hn2⟩ := open_u64 Try.underlying22 (hval 2 22 v2 rfl rfl) h2
  refine (walk n0 i1 n2 hn0 hi1 hj1 hn2 W).mono fun e W' ⟨he, hg⟩ => ?_
  subst he
  exact ⟨_, rfl, law_true laid_out (by kernel_rfl) rfl Try.underlying4 (by kernel_rfl) hW' hA rfl rfl rfl hg⟩

theorem over : Rows.pnumNearRow.holds Try.pinned (OpenSpec.ofChange Rows.pnumNearSpec) :=
  OpenClaim.holds_of_wide 5 Try.f5 rfl rfl rfl rfl rfl rfl rfl ⟨rfl, rfl, rfl, rfl, rfl⟩ rfl rfl rfl rfl rfl (by kernel_rfl) Try.func5 (by kernel_rfl)
    (of_decide_eq_true (by kernel_rfl)) (by unfold Func.isWrapper; first | (rw [if_pos (by decide +kernel)]; kernel_rfl) | (rw [if_neg (by decide +kernel)]; exact ⟨rfl, rfl⟩))
    (fun os started H enc _ => lifted os started H enc)

/-- The statement. -/
theorem proved : Rows.PnumNearSaid := over
end Go.Proofs.Ytnpccaebehajgaa.pnumNear
