/-
  RttStays: of equal samples without a delay the least one stays it, and the smooth one is it, or less by at most seven, for all samples of 32 bits and up to sixty of them. No condition.
-/
import Derived.Test.YteaodhgfmbcmfaaRtW
import Derived.Test.YteaodhgfmbcmfaaOpen
import Derived.Deep.CutBlock
import Derived.Deep.DeepCutAuto
namespace Wig
theorem stays_step {a s v : Nat} (ha : a < 4294967296) (h1 : s ≤ a) (h2 : a ≤ s + 7) (h3 : v ≤ a) :
    ∃ s' v', rup ⟨true, a, a, s, v⟩ a 0 25 = ⟨true, a, a, s', v'⟩ ∧ s' ≤ a ∧ a ≤ s' + 7 ∧ v' ≤ a := by
  have e0 : fadd a 0 = a := by unfold fadd; rw [if_pos (by omega)]; rfl
  have e : rown a a 0 = a := by unfold rown; rw [e0, if_neg (by omega)]; rfl
  have e2 : rup ⟨true, a, a, s, v⟩ a 0 25 = ⟨true, a, a, fadd (s - s / 8) (a / 8), fadd (v - v / 4) (rgap a s / 4)⟩ := by
    unfold rup
    rw [if_pos rfl]
    simp only [Nat.min_self, Nat.zero_min, e]
  refine ⟨_, _, e2, ?_, ?_, ?_⟩
  · unfold fadd; rw [if_pos (by omega)]; omega
  · unfold fadd; rw [if_pos (by omega)]; omega
  · unfold fadd rgap
    rw [if_pos (by omega)]
    omega
end Wig
namespace Go.Proofs.Yteaodhgfmbcmfaa.rttStays
open Go.ChangeShapes Go.WideShapes Go.ChangeAt Go.RowKit Go.Deep
set_option linter.unusedVariables false

/-- At a round's head: what is known lies in its box. -/
def StRel (a n p : Nat) (w : World) (i : Value) (wr : World) : Prop :=
  ∃ j s v : Nat, j ≤ n ∧ i = .int .i64 (j : Int) ∧ Bx p true a a s v wr ∧ s ≤ a ∧ a ≤ s + 7 ∧ v ≤ a ∧ Below w.heap.size w wr ∧ p < wr.heap.size

set_option maxHeartbeats 4000000 in
theorem walk (a : Nat) (k : Int) (ha : a < 4294967296) (hk0 : -9223372036854775808 ≤ k) (hk1 : k ≤ 9223372036854775807) (w : World) :
    Calls Try.prog 5 #[.int .u32 (a : Int), .int .i64 k] w fun e w' => e = .returned (.bool true) ∧ Below w.heap.size w w' := by
  have ok0 : Wig.Rt.Ok ⟨false, 0, 0, 0, 0⟩ := ⟨by decide, by decide, by decide, by decide⟩
  obtain ⟨t, ht⟩ : ∃ t : Nat, t = (if k < 0 then -(k + 1) else k).toNat := ⟨_, rfl⟩
  obtain ⟨n, hn⟩ : ∃ n : Nat, n = t % 60 := ⟨_, rfl⟩
  obtain ⟨aq, haq⟩ : ∃ aq, aq = a / 2 := ⟨_, rfl⟩
  have C0 := Lib.hid (fun w => awake_any w)
  have C1 := Lib.hid (show ∀ w, Calls Try.prog 9 #[.agg #[.bool false, .int .u64 0, .int .u64 0, .int .u64 0, .int .u64 0], .int .u64 (a : Int), .int .u64 0, .int .u64 25] w fun e w' =>
      e = .returned (.agg #[.bool true, .int .u64 (a : Int), .int .u64 (a : Int), .int .u64 (a : Int), .int .u64 (aq : Int)]) ∧ Below w.heap.size w w' from
    fun w => update_any false 0 0 0 0 a 0 25 a a a aq w ok0 (by omega) (by decide) (by decide) (by rw [haq]; rfl))
  have v1 : IntKind.u64.wrap (a : Int) = (a : Int) := by rw [IntKind.wrap_u64]; omega
  have Z := Lib.hid (fun (w : World) (o : Obj) => (show (w.alloc o).heap.size = w.heap.size + 1 by simp))
  have A := Lib.hid (fun (w : World) (o : Obj) => (show Below w.heap.size w (w.alloc o) from (Below.refl _ _).alloc (Nat.le_refl _) o))
  have n1 : n < 60 := by omega
  have TN : (t : Int).tmod 60 = (n : Int) := by rw [Int.tmod_eq_emod_of_nonneg (by omega)]; omega
  have TM : (t : Int) % 60 = (n : Int) := by omega
  have HA := Lib.hid (And.intro ha haq)
  have HT := Lib.hid ht
  go_enter Try.func5, Try.ntmps5
  go_wp2_with fail
  refine (C0.out _).mono ?_
  rintro e w2 ⟨rfl, hb⟩
  have B2 := Lib.hid hb
  have HK := Lib.hid (And.intro hk0 (And.intro hk1 (And.intro hn n1)))
  clear hb C0 ha haq ok0 ht hn hk0 hk1 n1
  go_upto_if 11 with fail
  go_cut [1] (fun s1 wx => w2 = wx ∧ s1 = .int .i64 (t : Int))
  case first =>
    by_cases h : k < 0
    · have t1 : decide (k < 0) = true := decide_eq_true h
      obtain ⟨k1, hk1⟩ : ∃ k1, k1 = k + 1 := ⟨_, rfl⟩
      have e1 : IntKind.i64.wrap (k + 1) = k1 := by have := HK.out; rw [IntKind.wrap_i64] <;> omega
      have e2 : IntKind.i64.wrap (-k1) = (t : Int) := by have := HK.out; have q := HT.out; rw [if_pos h] at q; rw [IntKind.wrap_i64] <;> omega
      clear h hk1
      rw [t1]
      go_wp2_with fail
      go_meet
      case rel => exact ⟨rfl, rfl⟩
    · have t1 : decide (k < 0) = false := decide_eq_false h
      have q := HT.out
      rw [if_neg h] at q
      obtain rfl : k = (t : Int) := by omega
      clear h q
      rw [t1]
      go_wp2_with fail
      go_meet
      case rel => exact ⟨rfl, rfl⟩
  case rest =>
  obtain ⟨rfl, rfl⟩ := hcut
  go_wp2_with fail
  refine (C1.out _).mono ?_
  rintro e w3 ⟨rfl, hb⟩
  have B3 := Lib.hid (below_trans' B2.out hb)
  clear hb C1
  go_upto_region 6 with fail
  obtain ⟨w4, hw4⟩ : ∃ w4, w4 = w3.alloc (.cells #[.bool true, .int .u64 (a : Int), .int .u64 (a : Int), .int .u64 (a : Int), .int .u64 (aq : Int)] 24) := ⟨_, rfl⟩
  rw [← hw4]
  obtain ⟨p, hp⟩ : ∃ p, p = w3.heap.size := ⟨_, rfl⟩
  have ST := Lib.hid (show StRel a n p w (.int .i64 0) w4 from ⟨0, a, aq, Nat.zero_le _, rfl, by rw [hw4, hp]; exact Bx.new w3 true a a a aq, Nat.le_refl _, by omega, by have := HA.out; omega, below_trans' B3.out (hw4 ▸ A.out w3 _), by rw [hp, hw4, Z.out]; omega⟩)
  have LP := Lib.hid (show w.heap.size ≤ p by rw [hp]; exact B3.out.size)
  rw [← hp]
  clear hp hw4
  go_wp2_with fail
  go_loopw [7] (fun i wr => StRel a n p w i wr) (fun i _ => n - (intOf i).toNat)
  case atStart => exact ST.out
  case round =>
    obtain ⟨j, s, v, hj, rfl, hx, h1, h2, h3, hbel, hlt⟩ := hrel
    have X0 := Lib.hid hx
    have B0 := Lib.hid hbel
    have L0 := Lib.hid hlt
    by_cases hjn : j < n
    · obtain ⟨s', v', hup, g1, g2, g3⟩ := Wig.stays_step HA.out.1 h1 h2 h3
      obtain ⟨j1, hj1⟩ : ∃ j1, j1 = j + 1 := ⟨_, rfl⟩
      obtain ⟨s7, hs7⟩ : ∃ s7, s7 = s' + 7 := ⟨_, rfl⟩
      have okr : Wig.Rt.Ok ⟨true, a, a, s, v⟩ := ⟨by have := HA.out.1; show a < _; omega, by have := HA.out.1; show a < _; omega, by have := HA.out.1; show s < _; omega, by have := HA.out.1; show v < _; omega⟩
      have C2 := Lib.hid (show ∀ w, Calls Try.prog 9 #[.agg #[.bool true, .int .u64 (a : Int), .int .u64 (a : Int), .int .u64 (s : Int), .int .u64 (v : Int)], .int .u64 (a : Int), .int .u64 0, .int .u64 25] w fun e w' =>
          e = .returned (.agg #[.bool true, .int .u64 (a : Int), .int .u64 (a : Int), .int .u64 (s' : Int), .int .u64 (v' : Int)]) ∧ Below w.heap.size w w' from
        fun w => update_any true a a s v a 0 25 a a s' v' w okr (by have := HA.out.1; omega) (by decide) (by decide) hup)
      have t1 : decide (j < n) = true := decide_eq_true hjn
      have t2 : decide (a < s') = false := decide_eq_false (by omega)
      have t3 : decide (s7 < a) = false := decide_eq_false (by omega)
      have t4 : decide (a < v') = false := decide_eq_false (by omega)
      have e7 : IntKind.u64.wrap ((s' : Int) + 7) = (s7 : Int) := by have := HA.out.1; rw [IntKind.wrap_u64]; omega
      have e1 : IntKind.i64.wrap ((j : Int) + 1) = (j1 : Int) := by have := HK.out; rw [IntKind.wrap_i64] <;> omega
      have G := Lib.hid (And.intro g1 (And.intro g2 (And.intro g3 (And.intro hj1 hjn))))
      obtain ⟨k0, k1, k2, k3, k4, -, -, -, -, -⟩ := X0.out
      clear hj hx h1 h2 h3 hbel hlt hjn hup g1 g2 g3 hj1 hs7 okr
      go_wp2_with fail
      refine (C2.out _).mono ?_
      rintro e w5 ⟨rfl, hb⟩
      have X5 := Lib.hid (X0.out.below hb L0.out)
      have B5 := Lib.hid (B0.out.trans (hb.mono B0.out.size))
      have L5 := Lib.hid (Nat.lt_of_lt_of_le L0.out hb.size)
      clear hb k0 k1 k2 k3 k4 X0 B0 L0 C2
      go_upto_region 10 with fail
      obtain ⟨w6, hw6⟩ : ∃ w6, w6 = w5.alloc (.cells #[.bool true, .int .u64 (a : Int), .int .u64 (a : Int), .int .u64 (s' : Int), .int .u64 (v' : Int)] 24) := ⟨_, rfl⟩
      rw [← hw6]
      have Y6 := Lib.hid (show Bx w5.heap.size true a a s' v' w6 by rw [hw6]; exact Bx.new w5 true a a s' v')
      have A6 := Lib.hid (show Below w5.heap.size w5 w6 from hw6 ▸ A.out w5 _)
      have X6 := Lib.hid (X5.out.below A6.out L5.out)
      have B6 := Lib.hid (B5.out.trans (A6.out.mono B5.out.size))
      have L6 := Lib.hid (Nat.lt_of_lt_of_le L5.out A6.out.size)
      clear hw6 X5 B5 L5 A6
      obtain ⟨k0, k1, k2, k3, k4, -, -, -, -, -⟩ := Y6.out
      obtain ⟨n0, n1, n2, n3, n4, l0, l1, l2, l3, l4⟩ := X6.out
      have RZ := Lib.hid (show StRel a n p w (.int .i64 (j1 : Int)) (put p true a a s' v' w6) from
        ⟨j1, s', v', by have := G.out; omega, rfl, X6.out.put, G.out.1, G.out.2.1, G.out.2.2.1, B6.out.trans (put_below LP.out), Nat.lt_of_lt_of_le L6.out (put_below (B := p) (Nat.le_refl _)).size⟩)
      go_wp2_with fail
      go_roundw
      case rel => exact RZ.out
      case measure => have := G.out; simp [intOf]; omega
    · obtain rfl : j = n := by omega
      clear hj hx h1 h2 h3 hbel hlt hjn
      go_wp2_with fail
      go_ret
      exact ⟨rfl, B0.out⟩

set_option maxRecDepth 100000 in
theorem lifted (os : Os) (started : os.Started) (H : Type) (enc : TypeId × Value → H) :
    ReturnsInHanded {} Try.checked os 5 .any (Rows.rttStaysSpec.pre6 enc Try.prog Try.f5 Rows.rttStaysRow.domain false) (Rows.rttStaysSpec.post enc Try.prog Try.f5 false true false false) := by
  refine returnsInHanded_of_change (C := Try.checked) own started (by kernel_rfl) Try.func5
    (ChangeSpec.witness6 (enc := enc) (C := Try.checked) false ⟨#[], #[.int .u32 0, .int .i64 0], []⟩ 8 (by kernel_rfl) (by kernel_rfl) (by kernel_rfl) (by kernel_rfl)) ?_
  intro W base args ds gs before hval0 hW hcnd _
  have hval : ∀ (j : Nat) t v, Try.f5.params[j]? = some t → args[j]? = some v → Value.okWide Try.prog W .any base t v := hval0
  have hW' := hW
  obtain ⟨p, q, hA0, hV, rfl, hfz, hnd⟩ := hW
  have hA : DataW.TrodAll enc Try.prog W 0 (fun _ => true) true Try.f5.params.toList args.toList ds p := hA0
  obtain ⟨rfl, rfl⟩ := trodVars_none hV
  simp only [List.append_nil] at hW'
  have hlow : ∀ x ∈ p, x.block < W.heap.size := fun x hx => hW'.lt x hx
  have hA2 := hA
  rw [Try.params5] at hval hA2
  obtain ⟨v0, vs0, d0, ds0, p0, q0, hargs, rfl, rfl, h0, r0⟩ := trodAll_cons hA2
  obtain ⟨v1, vs1, d1, ds1, p1, q1, rfl, rfl, rfl, h1, r1⟩ := trodAll_cons r0
  obtain ⟨rfl, rfl, rfl⟩ := trodAll_nil r1
  obtain rfl : args = #[v0, v1] := by cases args; simp_all
  obtain ⟨n0, rfl, hn0⟩ := open_u32 Try.underlying31 (hval 0 31 v0 rfl rfl) h0
  obtain ⟨i1, rfl, hi1, hj1⟩ := open_i64 Try.underlying3 (hval 1 3 v1 rfl rfl) h1
  refine (walk n0 i1 hn0 hi1 hj1 W).mono fun e W' ⟨he, hg⟩ => ?_
  subst he
  exact ⟨_, rfl, law_true laid_out (by kernel_rfl) rfl Try.underlying4 (by kernel_rfl) hW' hA rfl rfl rfl hg⟩

theorem over : Rows.rttStaysRow.holds Try.pinned (OpenSpec.ofChange Rows.rttStaysSpec) :=
  OpenClaim.holds_of_wide 5 Try.f5 rfl rfl rfl rfl rfl rfl rfl ⟨rfl, rfl, rfl, rfl, rfl⟩ rfl rfl rfl rfl rfl (by kernel_rfl) Try.func5 (by kernel_rfl)
    (of_decide_eq_true (by kernel_rfl)) (by unfold Func.isWrapper; first | (rw [if_pos (by decide +kernel)]; kernel_rfl) | (rw [if_neg (by decide +kernel)]; exact ⟨rfl, rfl⟩))
    (fun os started H enc _ => lifted os started H enc)

/-- The statement. -/
theorem proved : Rows.RttStaysSaid := over
end Go.Proofs.Yteaodhgfmbcmfaa.rttStays
