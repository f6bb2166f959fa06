/-
  RenoFalls: losses, each behind the one ahead, halve a window again and again, down to the least; at most thirty. No condition.
-/
import Derived.Test.YtfifhllckhdkfaaRnW
import Derived.Test.YtfifhllckhdkfaaOpen
import Derived.Deep.CutBlock
import Derived.Deep.DeepCutAuto
namespace Go.Proofs.Ytfifhllckhdkfaa.renoFalls
open Go.ChangeShapes Go.WideShapes Go.ChangeAt Go.RowKit Go.Deep
set_option linter.unusedVariables false

/-- At a round's head: what lies in the box. -/
def FaRel (n p : Nat) (w : World) (i : Value) (wr : World) : Prop :=
  ∃ j c t s : Nat, j ≤ n ∧ i = .int .i64 (j : Int) ∧ 2400 ≤ c ∧ c ≤ 16777216 ∧ t ≤ 16777216 ∧ s = 10 * j ∧ BxRn p c t s 0 wr ∧ p < wr.heap.size ∧ Below w.heap.size w wr

set_option maxHeartbeats 4000000 in
theorem walk (k : Int) (hk0 : -9223372036854775808 ≤ k) (hk1 : k ≤ 9223372036854775807) (w : World) :
    Calls Try.prog 9 #[.int .i64 k] w fun e w' => e = .returned (.bool true) ∧ Below w.heap.size w w' := by
  obtain ⟨t, ht⟩ : ∃ t : Nat, t = (if k < 0 then -(k + 1) else k).toNat := ⟨_, rfl⟩
  obtain ⟨n, hn⟩ : ∃ n : Nat, n = t % 30 := ⟨_, rfl⟩
  have C0 := Lib.hid (fun w => awake_any w)
  have CN := Lib.hid (fun w => new_any w)
  have n1 : n < 30 := by omega
  have TN : (t : Int).tmod 30 = (n : Int) := by rw [Int.tmod_eq_emod_of_nonneg (by omega)]; omega
  have TM : (t : Int) % 30 = (n : Int) := by omega
  have HT := Lib.hid ht
  have HK := Lib.hid (And.intro hk0 (And.intro hk1 (And.intro hn n1)))
  clear ht hn hk0 hk1 n1
  have B0 := Lib.hid (Below.refl w.heap.size w)
  go_enter Try.func9, Try.ntmps9
  go_wp2_with fail
  refine (C0.out _).mono ?_
  rintro e w1 ⟨rfl, hb⟩
  have B1 := Lib.hid (below_trans' B0.out hb)
  clear hb B0
  go_upto_if 9 with fail
  go_cut [0] (fun s1 wx => w1 = wx ∧ s1 = .int .i64 (t : Int))
  case first =>
    by_cases h : k < 0
    · have t1 : decide (k < 0) = true := decide_eq_true h
      obtain ⟨k1, hk1⟩ : ∃ k1, k1 = k + 1 := ⟨_, rfl⟩
      have e1 : IntKind.i64.wrap (k + 1) = k1 := by have := HK.out; rw [IntKind.wrap_i64] <;> omega
      have e2 : IntKind.i64.wrap (-k1) = (t : Int) := by have := HK.out; have q := HT.out; rw [if_pos h] at q; rw [IntKind.wrap_i64] <;> omega
      clear h hk1
      rw [t1]
      go_wp2_with fail
      go_meet
      case rel => exact ⟨rfl, rfl⟩
    · have t1 : decide (k < 0) = false := decide_eq_false h
      have q := HT.out
      rw [if_neg h] at q
      obtain rfl : k = (t : Int) := by omega
      clear h q
      rw [t1]
      go_wp2_with fail
      go_meet
      case rel => exact ⟨rfl, rfl⟩
  case rest =>
  obtain ⟨rfl, rfl⟩ := hcut
  go_wp2_with fail
  refine (CN.out _).mono ?_
  rintro e w2 ⟨rfl, hb⟩
  have B2 := Lib.hid (below_trans' B1.out hb)
  clear hb B1
  go_upto_region 5 with fail
  obtain ⟨w3, hw⟩ : ∃ wx, wx = w2.alloc (.cells #[.int .u64 12000, .int .u64 16777216, .int .u64 0, .int .u64 0] 25) := ⟨_, rfl⟩
  rw [← hw]
  obtain ⟨pC, hp⟩ : ∃ px, px = w2.heap.size := ⟨_, rfl⟩
  rw [← hp]
  have hb : Below w2.heap.size w2 w3 := by rw [hw]; exact (Below.refl _ _).alloc (Nat.le_refl _) _
  have hx : BxRn pC 12000 16777216 0 0 w3 := by rw [hp, hw]; exact BxRn.new _ 12000 16777216 0 0
  have hs : pC < w3.heap.size := by rw [hp, hw]; simp
  have GC := Lib.hid (show w.heap.size ≤ pC by rw [hp]; exact B2.out.size)
  have B3 := Lib.hid (below_trans' B2.out hb)
  clear hb B2
  have XC3 := Lib.hid hx
  have SC3 := Lib.hid hs
  clear hx hs hw hp
  have ST := Lib.hid (show FaRel n pC w (.int .i64 0) w3 from ⟨0, 12000, 16777216, 0, Nat.zero_le _, rfl, by decide, by decide, Nat.le_refl _, rfl, XC3.out, SC3.out, B3.out⟩)
  go_wp2_with fail
  go_loopw [5] (fun i wr => FaRel n pC w i wr) (fun i _ => n - (intOf i).toNat)
  case atStart => exact ST.out
  case round =>
    obtain ⟨j, c, h, s, hj, rfl, h1, h2, h3, h4, hx, hlt, hbel⟩ := hrel
    have XC20 := Lib.hid hx
    have SC20 := Lib.hid hlt
    have B20 := Lib.hid hbel
    clear XC3 SC3 B3 ST hx hlt hbel
    by_cases hjn : j < n
    · obtain ⟨m, hm⟩ : ∃ m, m = max (c / 2) 2400 := ⟨_, rfl⟩
      obtain ⟨q, hq⟩ : ∃ q, q = c / 2 := ⟨_, rfl⟩
      obtain ⟨j1, hj1⟩ : ∃ j1, j1 = j + 1 := ⟨_, rfl⟩
      obtain ⟨x5, hx5⟩ : ∃ x5, x5 = s + 5 := ⟨_, rfl⟩
      obtain ⟨x9, hx9⟩ : ∃ x9, x9 = s + 9 := ⟨_, rfl⟩
      obtain ⟨s1, hs1⟩ : ∃ s1, s1 = 10 * (j + 1) := ⟨_, rfl⟩
      have hl : Wig.nloss ⟨c, h, s, 0⟩ x5 x9 = ⟨m, m, s1, 0⟩ := by rw [hx5, hx9, h4, hm, hs1]; exact Wig.nfalls h2 (Nat.le_refl _) (by have := HK.out.2.2.2; omega)
      have hn1 := HK.out.2.2.2
      have C2 := Lib.hid (fun w => loss_any c h s 0 x5 x9 m m s1 0 w ⟨by show c < _; omega, by show h < _; omega, by show s < _; omega, by show 0 < _; omega⟩ (by omega) (by omega) hl)
      have t1 : decide (j < n) = true := decide_eq_true hjn
      have e1 : IntKind.i64.wrap (10 * (j : Int)) = (s : Int) := by rw [IntKind.wrap_i64] <;> omega
      have e2 : IntKind.i64.wrap ((s : Int) + 5) = (x5 : Int) := by rw [IntKind.wrap_i64] <;> omega
      have e3 : IntKind.i64.wrap ((s : Int) + 9) = (x9 : Int) := by rw [IntKind.wrap_i64] <;> omega
      have e4 : IntKind.u64.wrap (x5 : Int) = (x5 : Int) := by rw [IntKind.wrap_u64]; omega
      have e5 : IntKind.u64.wrap (x9 : Int) = (x9 : Int) := by rw [IntKind.wrap_u64]; omega
      have e6 : IntKind.i64.wrap ((j : Int) + 1) = (j1 : Int) := by rw [IntKind.wrap_i64] <;> omega
      have e7 : (c : Int) / 2 = (q : Int) := by omega
      have e8 : IntKind.u64.wrap (q : Int) = (q : Int) := by rw [IntKind.wrap_u64]; omega
      have m1 : ∀ ts t w, (Builtin.max_ ts t #[.int .u64 (q : Int), .int .u64 2400]).run Try.prog w = .ok (.int .u64 (m : Int)) w := by
        intro ts t w
        rw [run_max_int2, show (if (2400 : Int) > (q : Int) then (2400 : Int) else (q : Int)) = (m : Int) by split <;> omega]
      have t2 : ((m : Int) != (m : Int)) = false := by simp
      have HR := Lib.hid (show j1 ≤ n ∧ 2400 ≤ m ∧ m ≤ 16777216 ∧ s1 = 10 * j1 ∧ n - j1 < n - j from ⟨by omega, by omega, by omega, by omega, by omega⟩)
      clear hj h1 h2 h3 h4 hjn hm hq hj1 hx5 hx9 hs1 hl hn1
      obtain ⟨c0, c1, c2, c3, -, -, -, -⟩ := XC20.out
      go_wp2_with fail
      refine (C2.out _).mono ?_
      rintro e w21 ⟨rfl, hb⟩
      have B21 := Lib.hid (below_trans' B20.out hb)
      have XC21 := Lib.hid (XC20.out.below hb SC20.out)
      have SC21 := Lib.hid (Nat.lt_of_lt_of_le SC20.out hb.size)
      clear c0 c1 c2 c3
      clear hb B20 XC20 SC20
      go_upto_region 9 with fail
      obtain ⟨w22, hw⟩ : ∃ wx, wx = w21.alloc (.cells #[.int .u64 (m : Int), .int .u64 (m : Int), .int .u64 (s1 : Int), .int .u64 0] 25) := ⟨_, rfl⟩
      rw [← hw]
      obtain ⟨pD, hp⟩ : ∃ px, px = w21.heap.size := ⟨_, rfl⟩
      rw [← hp]
      have hb : Below w21.heap.size w21 w22 := by rw [hw]; exact (Below.refl _ _).alloc (Nat.le_refl _) _
      have hx : BxRn pD m m s1 0 w22 := by rw [hp, hw]; exact BxRn.new _ m m s1 0
      have hs : pD < w22.heap.size := by rw [hp, hw]; simp
      have GD := Lib.hid (show w.heap.size ≤ pD by rw [hp]; exact B21.out.size)
      have OCD := Lib.hid (show pC < pD by rw [hp]; exact SC21.out)
      have B22 := Lib.hid (below_trans' B21.out hb)
      have XC22 := Lib.hid (XC21.out.below hb SC21.out)
      have SC22 := Lib.hid (Nat.lt_of_lt_of_le SC21.out hb.size)
      clear hb B21 XC21 SC21
      have XD22 := Lib.hid hx
      have SD22 := Lib.hid hs
      clear hx hs hw hp
      have RZ := Lib.hid (show FaRel n pC w (.int .i64 (j1 : Int)) (putRn pC m m s1 0 w22) from ⟨j1, m, m, s1, HR.out.1, rfl, HR.out.2.1, HR.out.2.2.1, HR.out.2.2.1, HR.out.2.2.2.1, XC22.out.put, Nat.lt_of_lt_of_le SC22.out (putRn_below (B := 0) (Nat.zero_le _)).size, B22.out.trans (putRn_below GC.out)⟩)
      obtain ⟨c0, c1, c2, c3, cf0, cf1, cf2, cf3⟩ := XC22.out
      obtain ⟨d0, d1, d2, d3, -, -, -, -⟩ := XD22.out
      go_wp2_with fail
      go_roundw
      case rel => exact RZ.out
      case measure => have := HR.out; simp [intOf]; omega
    · obtain rfl : j = n := by omega
      have t1 : decide (j < j) = false := by simp
      have t2 : decide (2400 ≤ c) = true := decide_eq_true h1
      have t3 : decide ((2400 : Int) ≤ (c : Int)) = true := decide_eq_true (by omega)
      clear hj h1 h2 h3 h4 hjn
      obtain ⟨c0, c1, c2, c3, -, -, -, -⟩ := XC20.out
      go_wp2_with fail
      go_ret
      exact ⟨rfl, B20.out⟩

set_option maxRecDepth 100000 in
theorem lifted (os : Os) (started : os.Started) (H : Type) (enc : TypeId × Value → H) :
    ReturnsInHanded {} Try.checked os 9 .any (Rows.renoFallsSpec.pre6 enc Try.prog Try.f9 Rows.renoFallsRow.domain false) (Rows.renoFallsSpec.post enc Try.prog Try.f9 false true false false) := by
  refine returnsInHanded_of_change (C := Try.checked) own started (by kernel_rfl) Try.func9
    (ChangeSpec.witness6 (enc := enc) (C := Try.checked) false ⟨#[], #[.int .i64 0], []⟩ 8 (by kernel_rfl) (by kernel_rfl) (by kernel_rfl) (by kernel_rfl)) ?_
  intro W base args ds gs before hval0 hW hcnd _
  have hval : ∀ (j : Nat) t v, Try.f9.params[j]? = some t → args[j]? = some v → Value.okWide Try.prog W .any base t v := hval0
  have hW' := hW
  obtain ⟨p, q, hA0, hV, rfl, hfz, hnd⟩ := hW
  have hA : DataW.TrodAll enc Try.prog W 0 (fun _ => true) true Try.f9.params.toList args.toList ds p := hA0
  obtain ⟨rfl, rfl⟩ := trodVars_none hV
  simp only [List.append_nil] at hW'
  have hlow : ∀ x ∈ p, x.block < W.heap.size := fun x hx => hW'.lt x hx
  have hA2 := hA
  rw [Try.params9] at hval hA2
  obtain ⟨v0, vs0, d0, ds0, p0, q0, hargs, rfl, rfl, h0, r0⟩ := trodAll_cons hA2
  obtain ⟨rfl, rfl, rfl⟩ := trodAll_nil r0
  obtain rfl : args = #[v0] := by cases args; simp_all
  obtain ⟨i0, rfl, hi0, hj0⟩ := open_i64 Try.underlying3 (hval 0 3 v0 rfl rfl) h0
  refine (walk i0 hi0 hj0 W).mono fun e W' ⟨he, hg⟩ => ?_
  subst he
  exact ⟨_, rfl, law_true laid_out (by kernel_rfl) rfl Try.underlying4 (by kernel_rfl) hW' hA rfl rfl rfl hg⟩

theorem over : Rows.renoFallsRow.holds Try.pinned (OpenSpec.ofChange Rows.renoFallsSpec) :=
  OpenClaim.holds_of_wide 9 Try.f9 rfl rfl rfl rfl rfl rfl rfl ⟨rfl, rfl, rfl, rfl, rfl⟩ rfl rfl rfl rfl rfl (by kernel_rfl) Try.func9 (by kernel_rfl)
    (of_decide_eq_true (by kernel_rfl)) (by unfold Func.isWrapper; first | (rw [if_pos (by decide +kernel)]; kernel_rfl) | (rw [if_neg (by decide +kernel)]; exact ⟨rfl, rfl⟩))
    (fun os started H enc _ => lifted os started H enc)

/-- The statement. -/
theorem proved : Rows.RenoFallsSaid := over
end Go.Proofs.Ytfifhllckhdkfaa.renoFalls
