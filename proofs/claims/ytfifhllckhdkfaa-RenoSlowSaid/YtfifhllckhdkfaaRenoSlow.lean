/-
  RenoSlow: ahead of its thresh a window grows by just the bytes that came, in however many parts, up to the greatest; at most fifty parts. No condition.
-/
import Derived.Test.YtfifhllckhdkfaaRnW
import Derived.Test.YtfifhllckhdkfaaOpen
import Derived.Test.YtfifhllckhdkfaaByt
import Derived.Test.YtfifhllckhdkfaaRgn
import Derived.Deep.CutBlock
import Derived.Deep.DeepCutAuto
namespace Go.Proofs.Ytfifhllckhdkfaa.renoSlow
open Go.ChangeShapes Go.WideShapes Go.ChangeAt Go.RowKit Go.Deep
set_option linter.unusedVariables false

/-- At a round's head: what lies in the box, and the sum. -/
def SlRel (m p : Nat) (w : World) (l i : Value) (wr : World) : Prop :=
  ∃ k s : Nat, k ≤ m ∧ k ≤ 50 ∧ l = .int .u64 (s : Int) ∧ i = .int .i64 (k : Int) ∧ 12000 ≤ s ∧ s < 16777216 ∧ BxRn p s 16777216 0 0 wr ∧ p < wr.heap.size ∧ Below w.heap.size w wr

set_option maxHeartbeats 4000000 in
theorem walk (A : Option Addr) (cc : Nat) (xs : List Nat) (hx : ∀ x ∈ xs, x < 4294967296) (hl : xs.length ≤ cc) (hm : cc ≤ maxLen) (w : World) (hr : RdN .u32 w w.heap.size A xs) :
    Calls Try.prog 8 #[.slice A xs.length cc] w fun e w' => e = .returned (.bool true) ∧ Below w.heap.size w w' := by
  obtain ⟨m, hmx⟩ : ∃ m, m = xs.length := ⟨_, rfl⟩
  rw [← hmx]
  rw [← hmx] at hl
  have C0 := Lib.hid (fun w => awake_any w)
  have CN := Lib.hid (fun w => new_any w)
  have HX := Lib.hid (And.intro hx (And.intro hmx (And.intro hl hm)))
  have HD := Lib.hid hr
  clear hx hl hm hr hmx
  have B0 := Lib.hid (Below.refl w.heap.size w)
  go_enter Try.func8, Try.ntmps8
  go_wp2_with fail
  refine (C0.out _).mono ?_
  rintro e w1 ⟨rfl, hb⟩
  have B1 := Lib.hid (below_trans' B0.out hb)
  clear hb B0
  go_wp2_with fail
  refine (CN.out _).mono ?_
  rintro e w2 ⟨rfl, hb⟩
  have B2 := Lib.hid (below_trans' B1.out hb)
  clear hb B1
  go_upto_region 3 with fail
  obtain ⟨w3, hw⟩ : ∃ wx, wx = w2.alloc (.cells #[.int .u64 12000, .int .u64 16777216, .int .u64 0, .int .u64 0] 25) := ⟨_, rfl⟩
  rw [← hw]
  obtain ⟨pC, hp⟩ : ∃ px, px = w2.heap.size := ⟨_, rfl⟩
  rw [← hp]
  have hb : Below w2.heap.size w2 w3 := by rw [hw]; exact (Below.refl _ _).alloc (Nat.le_refl _) _
  have hx : BxRn pC 12000 16777216 0 0 w3 := by rw [hp, hw]; exact BxRn.new _ 12000 16777216 0 0
  have hs : pC < w3.heap.size := by rw [hp, hw]; simp
  have GC := Lib.hid (show w.heap.size ≤ pC by rw [hp]; exact B2.out.size)
  have B3 := Lib.hid (below_trans' B2.out hb)
  clear hb B2
  have XC3 := Lib.hid hx
  have SC3 := Lib.hid hs
  clear hx hs hw hp
  have ST := Lib.hid (show SlRel m pC w (.int .u64 12000) (.int .i64 0) w3 from ⟨0, 12000, Nat.zero_le _, Nat.zero_le _, rfl, rfl, Nat.le_refl _, by decide, XC3.out, SC3.out, B3.out⟩)
  go_wp2_with fail
  go_loopw [5, 6] (fun l i wr => SlRel m pC w l i wr) (fun _ i _ => 50 - (intOf i).toNat)
  case atStart => exact ST.out
  case round =>
    obtain ⟨k, s, hk, hk2, rfl, rfl, h0, h1, hbx, hlt, hbel⟩ := hrel
    have XC20 := Lib.hid hbx
    have SC20 := Lib.hid hlt
    have B20 := Lib.hid hbel
    clear XC3 SC3 B3 ST hbx hlt hbel
    by_cases hkm : k < m
    · by_cases hk5 : k < 50
      · have t1 : decide (k < m) = true := decide_eq_true hkm
        have t2 : decide ((k : Int) < 50) = true := decide_eq_true (by omega)
        obtain ⟨p, hp⟩ : ∃ p, xs[k]? = some p := ⟨_, List.getElem?_eq_getElem (by have := HX.out.2.1; omega)⟩
        have pl : p < 4294967296 := HX.out.1 p (List.mem_of_getElem? hp)
        obtain ⟨bb, off, rfl, hbb, hc⟩ := HD.out.at_ hp
        have HC := Lib.hid hc
        have HBB := Lib.hid (show (⟨bb, off + k, none⟩ : Addr).block < w.heap.size from hbb)
        obtain ⟨z, hz⟩ : ∃ z, z = s + p := ⟨_, rfl⟩
        obtain ⟨s1, hs1⟩ : ∃ s1, s1 = min (s + p) 16777216 := ⟨_, rfl⟩
        obtain ⟨k1, hk1⟩ : ∃ k1, k1 = k + 1 := ⟨_, rfl⟩
        have C2 := Lib.hid (show ∀ w, Calls Try.prog 11 #[.agg #[.int .u64 (s : Int), .int .u64 16777216, .int .u64 0, .int .u64 0], .int .u64 (p : Int), .int .u64 0, .bool false] w fun e w' =>
            e = .returned (.agg #[.int .u64 (s1 : Int), .int .u64 16777216, .int .u64 0, .int .u64 0]) ∧ Below w.heap.size w w' from
          fun w => ack_any s 16777216 0 0 p 0 s1 16777216 0 0 false w ⟨by show s < _; omega, by show 16777216 < _; omega, by show 0 < _; omega, by show 0 < _; omega⟩ (by omega) (by omega) (by rw [hs1]; exact Wig.nslow_ack h0 h1 pl))
        have i0 : (0 : Int) ≤ (k : Int) := by omega
        have i1 : (k : Int) < (m : Int) := by omega
        have q1 : IntKind.u64.wrap (p : Int) = (p : Int) := by rw [IntKind.wrap_u64]; omega
        have q2 : IntKind.u64.wrap ((s : Int) + (p : Int)) = (z : Int) := by rw [IntKind.wrap_u64]; omega
        have q3 : IntKind.i64.wrap ((k : Int) + 1) = (k1 : Int) := by rw [IntKind.wrap_i64] <;> omega
        have m1 : ∀ ts t w, (Builtin.min_ ts t #[.int .u64 (z : Int), .int .u64 16777216]).run Try.prog w = .ok (.int .u64 (s1 : Int)) w := by
          intro ts t w
          rw [run_min_int2, show (if (16777216 : Int) < (z : Int) then (16777216 : Int) else (z : Int)) = (s1 : Int) by split <;> omega]
        have ne : ((s1 : Int) != (s1 : Int)) = false := by simp
        have HR := Lib.hid (show k1 ≤ m ∧ k1 ≤ 50 ∧ 12000 ≤ s1 ∧ s1 ≤ 16777216 ∧ 50 - k1 < 50 - k from ⟨by omega, by omega, by omega, by omega, by omega⟩)
        clear hk hk2 h0 h1 hkm hk5 hp pl hz hs1 hk1 hc hbb
        go_upto_region 7 with fail
        obtain ⟨c0, c1, c2, c3, -, -, -, -⟩ := XC20.out
        refine wp_region_held_drew (S := fun wx => wx.cell? ⟨bb, off + k, none⟩ = some (.int .u32 (p : Int))) (by kernel_rfl) ?_ (fun hHeld => ?_)
        · exact (B20.out.drew.cell HBB.out).trans HC.out
        refine held_take (v := ?vv101) 1 rfl (by kernel_rfl) (by kernel_rfl) (by kernel_rfl) (fun _ _ _ h => h) (by rfl) ?yy101 (by assumption) ?nn101
        case yy101 =>
          intro w hSw
          (try dsimp only at hSw)
          go_simp
          try with_reducible rfl
        try simp only [Act.put, List.setIfInBounds_toArray, List.set_cons_zero, List.set_cons_succ]
        refine held_take (v := ?vv102) 2 rfl (by kernel_rfl) (by kernel_rfl) (by kernel_rfl) (fun _ _ _ h => h) (by rfl) ?yy102 (by assumption) ?nn102
        case yy102 =>
          intro w hSw
          (try dsimp only at hSw)
          go_simp
          try with_reducible rfl
        try simp only [Act.put, List.setIfInBounds_toArray, List.set_cons_zero, List.set_cons_succ]
        refine held_take (v := ?vv103) 3 rfl (by kernel_rfl) (by kernel_rfl) (by kernel_rfl) (fun _ _ _ h => h) (by rfl) ?yy103 (by assumption) ?nn103
        case yy103 =>
          intro w hSw
          (try dsimp only at hSw)
          go_simp
          try with_reducible rfl
        try simp only [Act.put, List.setIfInBounds_toArray, List.set_cons_zero, List.set_cons_succ]
        refine held_take (v := .int .u32 (p : Int)) 4 rfl (by kernel_rfl) (by kernel_rfl) (by kernel_rfl) (fun _ _ _ h => h) (by rfl) (fun wx hSw => by clear HC; (try dsimp only at hSw); go_simp) (by assumption) ?_
        try simp only [Act.put, List.setIfInBounds_toArray, List.set_cons_zero, List.set_cons_succ]
        refine held_take (v := ?vv105) 5 rfl (by kernel_rfl) (by kernel_rfl) (by kernel_rfl) (fun _ _ _ h => h) (by rfl) ?yy105 (by assumption) ?nn105
        case yy105 =>
          intro w hSw
          (try dsimp only at hSw)
          go_simp
          try with_reducible rfl
        try simp only [Act.put, List.setIfInBounds_toArray, List.set_cons_zero, List.set_cons_succ]
        refine held_do 0 rfl (by kernel_rfl) (by rfl) (fun K hK => ?_)
        go_wp2_with fail
        refine hK.out _ _ ?_ (fun hHeld => ?_)
        · exact (B20.out.drew.cell HBB.out).trans HC.out
        clear hK K
        try simp only [Act.put, List.setIfInBounds_toArray, List.set_cons_zero, List.set_cons_succ]
        refine held_do 6 rfl (by kernel_rfl) (by rfl) (fun K hK => ?_)
        go_wp2_with (go_at_call 11; refine (C2.out _).mono ?_; rintro e w21 ⟨rfl, hb21⟩; have HB := Lib.hid hb21; clear hb21)
        refine hK.out _ _ ?_ (fun hHeld => ?_)
        · exact ((below_trans' B20.out.drew HB.out).cell HBB.out).trans HC.out
        clear hK K
        try simp only [Act.put, List.setIfInBounds_toArray, List.set_cons_zero, List.set_cons_succ]
        have B21 := Lib.hid (below_trans' B20.out.drew HB.out)
        have XC21 := Lib.hid (XC20.out.drew.below HB.out SC20.out)
        have SC21 := Lib.hid (Nat.lt_of_lt_of_le SC20.out HB.out.size)
        clear c0 c1 c2 c3
        clear HB B20 XC20 SC20
        obtain ⟨c0, c1, c2, c3, cf0, cf1, cf2, cf3⟩ := XC21.out
        refine held_do 7 rfl (by kernel_rfl) (by rfl) (fun K hK => ?_)
        go_wp2_with fail
        refine hK.out _ _ ?_ (fun hHeld => ?_)
        · exact ((B21.out.trans (putRn_below (p := pC) GC.out)).cell HBB.out).trans HC.out
        clear hK K
        try simp only [Act.put, List.setIfInBounds_toArray, List.set_cons_zero, List.set_cons_succ]
        refine wpAnyH_done (by kernel_rfl) ?_ _
        clear hHeld
        obtain ⟨w22, hw⟩ : ∃ wx, wx = putRn pC s1 16777216 0 0 w21 := ⟨_, rfl⟩
        have XC22 := Lib.hid (show BxRn pC s1 16777216 0 0 w22 by rw [hw]; exact XC21.out.put)
        have B22 := Lib.hid (show Below w.heap.size w w22 by rw [hw]; exact B21.out.trans (putRn_below GC.out))
        have hz : w21.heap.size ≤ w22.heap.size := by rw [hw]; exact (putRn_below (B := 0) (Nat.zero_le _)).size
        have SC22 := Lib.hid (Nat.lt_of_lt_of_le SC21.out hz)
        rw [show (((w21.setCell ⟨pC, 0, none⟩ (.int .u64 (s1 : Int))).setCell ⟨pC, 1, none⟩ (.int .u64 16777216)).setCell ⟨pC, 2, none⟩ (.int .u64 0)).setCell ⟨pC, 3, none⟩ (.int .u64 0) = w22 from hw.symm]
        clear c0 c1 c2 c3 cf0 cf1 cf2 cf3
        clear hw hz B21 XC21 SC21
        have hc := (B22.out.cell HBB.out).trans HC.out
        obtain ⟨c0, c1, c2, c3, -, -, -, -⟩ := XC22.out
        by_cases hs : s1 = 16777216
        · have d1 : ((s1 : Int) == 16777216) = true := by simp; omega
          clear hs HR
          go_wp2_with fail
          go_ret
          exact ⟨rfl, B22.out⟩
        · have d1 : ((s1 : Int) == 16777216) = false := by simp; omega
          have RZ := Lib.hid (show SlRel m pC w (.int .u64 (s1 : Int)) (.int .i64 (k1 : Int)) w22 from ⟨k1, s1, HR.out.1, HR.out.2.1, rfl, rfl, HR.out.2.2.1, by have := HR.out; omega, XC22.out, SC22.out, B22.out⟩)
          clear hs
          go_wp2_with fail
          go_roundw
          case rel => exact RZ.out
          case measure => have := HR.out; simp [intOf]; omega
      · have t1 : decide (k < m) = true := decide_eq_true hkm
        have t2 : decide ((k : Int) < 50) = false := decide_eq_false (by omega)
        clear hk hk2 h0 h1 hkm hk5
        obtain ⟨c0, c1, c2, c3, -, -, -, -⟩ := XC20.out
        go_wp2_with fail
        go_ret
        exact ⟨rfl, B20.out⟩
    · have t1 : decide (k < m) = false := decide_eq_false hkm
      clear hk hk2 h0 h1 hkm 
      obtain ⟨c0, c1, c2, c3, -, -, -, -⟩ := XC20.out
      go_wp2_with fail
      go_ret
      exact ⟨rfl, B20.out⟩

set_option maxRecDepth 100000 in
theorem lifted (os : Os) (started : os.Started) (H : Type) (enc : TypeId × Value → H) :
    ReturnsInHanded {} Try.checked os 8 .any (Rows.renoSlowSpec.pre6 enc Try.prog Try.f8 Rows.renoSlowRow.domain false) (Rows.renoSlowSpec.post enc Try.prog Try.f8 false true false false) := by
  refine returnsInHanded_of_change (C := Try.checked) own started (by kernel_rfl) Try.func8
    (ChangeSpec.witness6 (enc := enc) (C := Try.checked) false ⟨#[], #[.slice none 0 0], []⟩ 8 (by kernel_rfl) (by kernel_rfl) (by kernel_rfl) (by kernel_rfl)) ?_
  intro W base args ds gs before hval0 hW hcnd _
  have hval : ∀ (j : Nat) t v, Try.f8.params[j]? = some t → args[j]? = some v → Value.okWide Try.prog W .any base t v := hval0
  have hW' := hW
  obtain ⟨p, q, hA0, hV, rfl, hfz, hnd⟩ := hW
  have hA : DataW.TrodAll enc Try.prog W 0 (fun _ => true) true Try.f8.params.toList args.toList ds p := hA0
  obtain ⟨rfl, rfl⟩ := trodVars_none hV
  simp only [List.append_nil] at hW'
  have hlow : ∀ x ∈ p, x.block < W.heap.size := fun x hx => hW'.lt x hx
  have hA2 := hA
  rw [Try.params8] at hval hA2
  obtain ⟨v0, vs0, d0, ds0, p0, q0, hargs, rfl, rfl, h0, r0⟩ := trodAll_cons hA2
  obtain ⟨rfl, rfl, rfl⟩ := trodAll_nil r0
  obtain rfl : args = #[v0] := by cases args; simp_all
  obtain ⟨A0, c0, xs0, rfl, hx0, hr0, hl0, hm0⟩ := open_row 4294967296 Try.underlying41 Try.underlying36 (by kernel_rfl) (by intro x h; simp [Lit.wf, IntKind.min, IntKind.max, IntKind.signed, IntKind.bits] at h; omega) (hval 0 41 v0 rfl rfl) h0 (fun x hx => hlow x (by simp [hx]))
  refine (walk A0 c0 xs0 hx0 hl0 hm0 W hr0).mono fun e W' ⟨he, hg⟩ => ?_
  subst he
  exact ⟨_, rfl, law_true laid_out (by kernel_rfl) rfl Try.underlying4 (by kernel_rfl) hW' hA rfl rfl rfl hg⟩

theorem over : Rows.renoSlowRow.holds Try.pinned (OpenSpec.ofChange Rows.renoSlowSpec) :=
  OpenClaim.holds_of_wide 8 Try.f8 rfl rfl rfl rfl rfl rfl rfl ⟨rfl, rfl, rfl, rfl, rfl⟩ rfl rfl rfl rfl rfl (by kernel_rfl) Try.func8 (by kernel_rfl)
    (of_decide_eq_true (by kernel_rfl)) (by unfold Func.isWrapper; first | (rw [if_pos (by decide +kernel)]; kernel_rfl) | (rw [if_neg (by decide +kernel)]; exact ⟨rfl, rfl⟩))
    (fun os started H enc _ => lifted os started H enc)

/-- The statement. -/
theorem proved : Rows.RenoSlowSaid := over
end Go.Proofs.Ytfifhllckhdkfaa.renoSlow
