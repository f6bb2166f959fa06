/-
  HystartSteady: where all answers take the same time a slow start goes on, however many rounds; at most two hundred answers. No condition.
-/
import Derived.Test.YtaiephdacioedaaHyW
import Derived.Test.YtaiephdacioedaaOpen
import Derived.Test.YtaiephdacioedaaByt
import Derived.Test.YtaiephdacioedaaRgn
import Derived.Deep.CutBlock
import Derived.Deep.DeepCutAuto
namespace Go.Proofs.Ytaiephdacioedaa.hystartSteady
open Go.ChangeShapes Go.WideShapes Go.ChangeAt Go.RowKit Go.Deep
set_option linter.unusedVariables false

/-- At a round's head: what lies in the box. -/
def StRel (m t nx p : Nat) (w : World) (l i : Value) (wr : World) : Prop :=
  ∃ (k n b c d f y r : Nat), k ≤ m ∧ k ≤ 200 ∧ l = .int .u64 (n : Int) ∧ i = .int .i64 (k : Int) ∧ n ≤ nx + 2 * k ∧ Wig.HSteady t ⟨0, b, c, d, f, y, r⟩ ∧ Wig.Sw.Ok ⟨0, b, c, d, f, y, r⟩ ∧ BxSl p 0 b c d f y r wr ∧ p < wr.heap.size ∧ Below w.heap.size w wr
theorem steady_sample {b c d f y r m n t : Nat} (h : Wig.HSteady t ⟨0, b, c, d, f, y, r⟩) (ok : Wig.Sw.Ok ⟨0, b, c, d, f, y, r⟩) (hn : n < 18446744073709551616) (ht : t < 18446744073709551615) :
    ∃ b' c' f' y' r', Wig.hsample ⟨0, b, c, d, f, y, r⟩ m n t = ⟨0, b', c', t, f', y', r'⟩ ∧ Wig.HSteady t ⟨0, b', c', t, f', y', r'⟩ ∧ Wig.Sw.Ok ⟨0, b', c', t, f', y', r'⟩ := by
  have h1 := Wig.hsteady_sample (m := m) (n := n) h ht
  have h2 := Wig.hsample_ok (m := m) (n := n) (t := t) ok hn
  obtain ⟨⟨a', b', c', d', f', y', r'⟩, hq⟩ : ∃ q, Wig.hsample ⟨0, b, c, d, f, y, r⟩ m n t = q := ⟨_, rfl⟩
  rw [hq] at h1 h2
  obtain ⟨h3, h4⟩ := h1
  obtain rfl : d' = t := h4
  obtain rfl : a' = 0 := h3.1
  exact ⟨b', c', f', y', r', hq, h3, h2⟩

set_option maxHeartbeats 4000000 in
theorem walk (nx t : Nat) (A : Option Addr) (cc : Nat) (xs : List Nat) (hnx : nx < 18446744073709551616) (ht : t < 18446744073709551616) (hx : ∀ x ∈ xs, x < 256) (hl : xs.length ≤ cc) (hm : cc ≤ maxLen) (w : World) (hr : RdN .u8 w w.heap.size A xs) :
    Calls Try.prog 8 #[.int .u64 (nx : Int), .int .u64 (t : Int), .slice A xs.length cc] w fun e w' => e = .returned (.bool true) ∧ Below w.heap.size w w' := by
  obtain ⟨m, hmx⟩ : ∃ m, m = xs.length := ⟨_, rfl⟩
  rw [← hmx]
  rw [← hmx] at hl
  have C0 := Lib.hid (fun w => awake_any w)
  have CN := Lib.hid (fun w => new_any nx w)
  have HX := Lib.hid (And.intro hx (And.intro hmx (And.intro hl hm)))
  have HD := Lib.hid hr
  clear hx hl hm hr hmx
  by_cases h1 : 4611686018427387904 < nx
  · have t1 : decide ((4611686018427387904 : Int) < (nx : Int)) = true := decide_eq_true (by omega)
    clear h1 hnx ht
    have B0 := Lib.hid (Below.refl w.heap.size w)
    go_enter Try.func8, Try.ntmps8
    go_wp2_with fail
    refine (C0.out _).mono ?_
    rintro e w1 ⟨rfl, hb⟩
    have B1 := Lib.hid (below_trans' B0.out hb)
    clear hb B0
    go_wp2_with fail
    go_ret
    exact ⟨rfl, B1.out⟩
  · have t1 : decide ((4611686018427387904 : Int) < (nx : Int)) = false := decide_eq_false (by omega)
    by_cases h2 : t = 18446744073709551615
    · have t2 : ((t : Int) == 18446744073709551615) = true := by simp; omega
      clear h1 h2 hnx ht
      have B0 := Lib.hid (Below.refl w.heap.size w)
      go_enter Try.func8, Try.ntmps8
      go_wp2_with fail
      refine (C0.out _).mono ?_
      rintro e w1 ⟨rfl, hb⟩
      have B1 := Lib.hid (below_trans' B0.out hb)
      clear hb B0
      go_wp2_with fail
      go_ret
      exact ⟨rfl, B1.out⟩
    · have t2 : ((t : Int) == 18446744073709551615) = false := by simp; omega
      have HT := Lib.hid (show nx ≤ 4611686018427387904 ∧ t < 18446744073709551615 from ⟨by omega, by omega⟩)
      have HN := Lib.hid (show Wig.HSteady t ⟨0, nx, 18446744073709551615, 18446744073709551615, 0, 18446744073709551615, 0⟩ ∧ Wig.Sw.Ok ⟨0, nx, 18446744073709551615, 18446744073709551615, 0, 18446744073709551615, 0⟩ from ⟨Wig.hsteady_new t nx, Wig.hnew_ok hnx⟩)
      clear h1 h2 hnx ht
      have B0 := Lib.hid (Below.refl w.heap.size w)
      go_enter Try.func8, Try.ntmps8
      go_wp2_with fail
      refine (C0.out _).mono ?_
      rintro e w1 ⟨rfl, hb⟩
      have B1 := Lib.hid (below_trans' B0.out hb)
      clear hb B0
      go_wp2_with fail
      refine (CN.out _).mono ?_
      rintro e w2 ⟨rfl, hb⟩
      have B2 := Lib.hid (below_trans' B1.out hb)
      clear hb B1
      go_upto_region 5 with fail
      obtain ⟨w3, hw⟩ : ∃ wx, wx = w2.alloc (.cells #[.int .i64 0, .int .u64 (nx : Int), .int .u64 18446744073709551615, .int .u64 18446744073709551615, .int .u64 0, .int .u64 18446744073709551615, .int .u64 0] 25) := ⟨_, rfl⟩
      rw [← hw]
      obtain ⟨pS, hp⟩ : ∃ px, px = w2.heap.size := ⟨_, rfl⟩
      rw [← hp]
      have hb : Below w2.heap.size w2 w3 := by rw [hw]; exact (Below.refl _ _).alloc (Nat.le_refl _) _
      have hx : BxSl pS 0 nx 18446744073709551615 18446744073709551615 0 18446744073709551615 0 w3 := by rw [hp, hw]; exact BxSl.new _ 0 nx 18446744073709551615 18446744073709551615 0 18446744073709551615 0
      have hs : pS < w3.heap.size := by rw [hp, hw]; simp
      have GS := Lib.hid (show w.heap.size ≤ pS by rw [hp]; exact B2.out.size)
      have B3 := Lib.hid (below_trans' B2.out hb)
      clear hb B2
      have XS3 := Lib.hid hx
      have SS3 := Lib.hid hs
      clear hx hs hw hp
      have ST := Lib.hid (show StRel m t nx pS w (.int .u64 (nx : Int)) (.int .i64 0) w3 from ⟨0, nx, nx, 18446744073709551615, 18446744073709551615, 0, 18446744073709551615, 0, Nat.zero_le _, Nat.zero_le _, rfl, rfl, Nat.le_refl _, HN.out.1, HN.out.2, XS3.out, SS3.out, B3.out⟩)
      clear t1 t2 HN
      go_wp2_with fail
      go_loopw [9, 10] (fun l i wr => StRel m t nx pS w l i wr) (fun _ i _ => 200 - (intOf i).toNat)
      case atStart => exact ST.out
      case round =>
        obtain ⟨k, n, b, c, d, f, y, r, hk, hk2, rfl, rfl, hnk, hst, ok, hbx, hlt, hbel⟩ := hrel
        have XS20 := Lib.hid hbx
        have SS20 := Lib.hid hlt
        have B20 := Lib.hid hbel
        clear XS3 SS3 B3 ST hbx hlt hbel
        by_cases hkm : k < m
        · by_cases hk5 : k < 200
          · have t1 : decide (k < m) = true := decide_eq_true hkm
            have t2 : decide ((k : Int) < 200) = true := decide_eq_true (by omega)
            obtain ⟨p, hp⟩ : ∃ p, xs[k]? = some p := ⟨_, List.getElem?_eq_getElem (by have := HX.out.2.1; omega)⟩
            have pl : p < 256 := HX.out.1 p (List.mem_of_getElem? hp)
            obtain ⟨bb, off, rfl, hbb, hc⟩ := HD.out.at_ hp
            have HC := Lib.hid hc
            have HBB := Lib.hid (show (⟨bb, off + k, none⟩ : Addr).block < w.heap.size from hbb)
            obtain ⟨z3, hz3⟩ : ∃ z, z = p % 3 := ⟨_, rfl⟩
            obtain ⟨z9, hz9⟩ : ∃ z, z = p % 9 := ⟨_, rfl⟩
            obtain ⟨n1, hn1⟩ : ∃ z, z = n + z3 := ⟨_, rfl⟩
            obtain ⟨x1, hx1⟩ : ∃ z, z = n1 + z9 := ⟨_, rfl⟩
            obtain ⟨k1, hk1⟩ : ∃ k1, k1 = k + 1 := ⟨_, rfl⟩
            have hT := HT.out
            obtain ⟨b', c', f', y', r', hsam, hst2, ok2⟩ := steady_sample (m := n1) (n := x1) hst ok (by omega) hT.2
            have C2 := Lib.hid (show ∀ w, Calls Try.prog 10 #[.agg #[.int .i64 0, .int .u64 (b : Int), .int .u64 (c : Int), .int .u64 (d : Int), .int .u64 (f : Int), .int .u64 (y : Int), .int .u64 (r : Int)], .int .u64 (n1 : Int), .int .u64 (x1 : Int), .int .u64 (t : Int)] w fun e w' =>
                e = .returned (.agg #[.int .i64 0, .int .u64 (b' : Int), .int .u64 (c' : Int), .int .u64 (t : Int), .int .u64 (f' : Int), .int .u64 (y' : Int), .int .u64 (r' : Int)]) ∧ Below w.heap.size w w' from
              fun w => sample_any 0 b c d f y r n1 x1 t 0 b' c' t f' y' r' w ok (by omega) (by omega) (by omega) hsam)
            have i0 : (0 : Int) ≤ (k : Int) := by omega
            have i1 : (k : Int) < (m : Int) := by omega
            have q1 : IntKind.u64.wrap (p : Int) = (p : Int) := by rw [IntKind.wrap_u64]; omega
            have q2 : (p : Int) % 3 = (z3 : Int) := by omega
            have q3 : (p : Int) % 9 = (z9 : Int) := by omega
            have q7 : (p : Int).tmod 9 = (z9 : Int) := by rw [Int.tmod_eq_emod_of_nonneg (by omega)]; exact q3
            have q4 : IntKind.u64.wrap ((n : Int) + (z3 : Int)) = (n1 : Int) := by rw [IntKind.wrap_u64]; omega
            have q5 : IntKind.u64.wrap ((n1 : Int) + (z9 : Int)) = (x1 : Int) := by rw [IntKind.wrap_u64]; omega
            have q6 : IntKind.i64.wrap ((k : Int) + 1) = (k1 : Int) := by rw [IntKind.wrap_i64] <;> omega
            have HR := Lib.hid (show k1 ≤ m ∧ k1 ≤ 200 ∧ n1 ≤ nx + 2 * k1 ∧ Wig.HSteady t ⟨0, b', c', t, f', y', r'⟩ ∧ Wig.Sw.Ok ⟨0, b', c', t, f', y', r'⟩ ∧ 200 - k1 < 200 - k from ⟨by omega, by omega, by omega, hst2, ok2, by omega⟩)
            have ne : ((t : Int) != (t : Int)) = false := by simp
            clear hk hk2 hnk hst ok hkm hk5 hp pl hz3 hz9 hn1 hx1 hk1 hT hsam hst2 ok2 hc hbb
            have c00 := (B20.out.cell HBB.out).trans HC.out
            go_upto_region 10 with fail
            clear c00
            obtain ⟨s0, s1, s2, s3, s4, s5, s6, -, -, -, -, -, -, -⟩ := XS20.out
            refine wp_region_held_drew (S := fun wx => wx.cell? ⟨bb, off + k, none⟩ = some (.int .u8 (p : Int))) (by kernel_rfl) ?_ (fun hHeld => ?_)
            · exact (B20.out.drew.cell HBB.out).trans HC.out
            refine held_take (v := ?vv101) 1 rfl (by kernel_rfl) (by kernel_rfl) (by kernel_rfl) (fun _ _ _ h => h) (by rfl) ?yy101 (by assumption) ?nn101
            case yy101 =>
              intro w hSw
              (try dsimp only at hSw)
              go_simp
              try with_reducible rfl
            try simp only [Act.put, List.setIfInBounds_toArray, List.set_cons_zero, List.set_cons_succ]
            refine held_take (v := ?vv102) 2 rfl (by kernel_rfl) (by kernel_rfl) (by kernel_rfl) (fun _ _ _ h => h) (by rfl) ?yy102 (by assumption) ?nn102
            case yy102 =>
              intro w hSw
              (try dsimp only at hSw)
              go_simp
              try with_reducible rfl
            try simp only [Act.put, List.setIfInBounds_toArray, List.set_cons_zero, List.set_cons_succ]
            refine held_take (v := ?vv103) 3 rfl (by kernel_rfl) (by kernel_rfl) (by kernel_rfl) (fun _ _ _ h => h) (by rfl) ?yy103 (by assumption) ?nn103
            case yy103 =>
              intro w hSw
              (try dsimp only at hSw)
              go_simp
              try with_reducible rfl
            try simp only [Act.put, List.setIfInBounds_toArray, List.set_cons_zero, List.set_cons_succ]
            refine held_take (v := ?vv104) 4 rfl (by kernel_rfl) (by kernel_rfl) (by kernel_rfl) (fun _ _ _ h => h) (by rfl) ?yy104 (by assumption) ?nn104
            case yy104 =>
              intro w hSw
              (try dsimp only at hSw)
              go_simp
              try with_reducible rfl
            try simp only [Act.put, List.setIfInBounds_toArray, List.set_cons_zero, List.set_cons_succ]
            refine held_take (v := ?vv105) 5 rfl (by kernel_rfl) (by kernel_rfl) (by kernel_rfl) (fun _ _ _ h => h) (by rfl) ?yy105 (by assumption) ?nn105
            case yy105 =>
              intro w hSw
              (try dsimp only at hSw)
              go_simp
              try with_reducible rfl
            try simp only [Act.put, List.setIfInBounds_toArray, List.set_cons_zero, List.set_cons_succ]
            refine held_take (v := .int .u8 (p : Int)) 6 rfl (by kernel_rfl) (by kernel_rfl) (by kernel_rfl) (fun _ _ _ h => h) (by rfl) (fun wx hSw => by clear HC; (try dsimp only at hSw); go_simp) (by assumption) ?_
            try simp only [Act.put, List.setIfInBounds_toArray, List.set_cons_zero, List.set_cons_succ]
            refine held_take (v := ?vv107) 7 rfl (by kernel_rfl) (by kernel_rfl) (by kernel_rfl) (fun _ _ _ h => h) (by rfl) ?yy107 (by assumption) ?nn107
            case yy107 =>
              intro w hSw
              (try dsimp only at hSw)
              go_simp
              try with_reducible rfl
            try simp only [Act.put, List.setIfInBounds_toArray, List.set_cons_zero, List.set_cons_succ]
            refine held_take (v := ?vv108) 8 rfl (by kernel_rfl) (by kernel_rfl) (by kernel_rfl) (fun _ _ _ h => h) (by rfl) ?yy108 (by assumption) ?nn108
            case yy108 =>
              intro w hSw
              (try dsimp only at hSw)
              go_simp
              try with_reducible rfl
            try simp only [Act.put, List.setIfInBounds_toArray, List.set_cons_zero, List.set_cons_succ]
            refine held_take (v := ?vv109) 9 rfl (by kernel_rfl) (by kernel_rfl) (by kernel_rfl) (fun _ _ _ h => h) (by rfl) ?yy109 (by assumption) ?nn109
            case yy109 =>
              intro w hSw
              (try dsimp only at hSw)
              go_simp
              try with_reducible rfl
            try simp only [Act.put, List.setIfInBounds_toArray, List.set_cons_zero, List.set_cons_succ]
            refine held_take (v := ?vv110) 10 rfl (by kernel_rfl) (by kernel_rfl) (by kernel_rfl) (fun _ _ _ h => h) (by rfl) ?yy110 (by assumption) ?nn110
            case yy110 =>
              intro w hSw
              (try dsimp only at hSw)
              go_simp
              try with_reducible rfl
            try simp only [Act.put, List.setIfInBounds_toArray, List.set_cons_zero, List.set_cons_succ]
            refine held_do 0 rfl (by kernel_rfl) (by rfl) (fun K hK => ?_)
            go_wp2_with fail
            refine hK.out _ _ ?_ (fun hHeld => ?_)
            · exact (B20.out.drew.cell HBB.out).trans HC.out
            clear hK K
            try simp only [Act.put, List.setIfInBounds_toArray, List.set_cons_zero, List.set_cons_succ]
            refine held_do 11 rfl (by kernel_rfl) (by rfl) (fun K hK => ?_)
            go_wp2_with (go_at_call 10; refine (C2.out _).mono ?_; rintro e w21 ⟨rfl, hb21⟩; have HB := Lib.hid hb21; clear hb21)
            refine hK.out _ _ ?_ (fun hHeld => ?_)
            · exact ((below_trans' B20.out.drew HB.out).cell HBB.out).trans HC.out
            clear hK K
            try simp only [Act.put, List.setIfInBounds_toArray, List.set_cons_zero, List.set_cons_succ]
            have B21 := Lib.hid (below_trans' B20.out.drew HB.out)
            have XS21 := Lib.hid (XS20.out.drew.below HB.out SS20.out)
            have SS21 := Lib.hid (Nat.lt_of_lt_of_le SS20.out HB.out.size)
            clear s0 s1 s2 s3 s4 s5 s6
            clear HB B20 XS20 SS20
            obtain ⟨s0, s1, s2, s3, s4, s5, s6, sf0, sf1, sf2, sf3, sf4, sf5, sf6⟩ := XS21.out
            refine held_do 12 rfl (by kernel_rfl) (by rfl) (fun K hK => ?_)
            go_wp2_with fail
            refine hK.out _ _ ?_ (fun hHeld => ?_)
            · exact ((B21.out.trans (putSl_below (p := pS) GS.out)).cell HBB.out).trans HC.out
            clear hK K
            try simp only [Act.put, List.setIfInBounds_toArray, List.set_cons_zero, List.set_cons_succ]
            refine wpAnyH_done (by kernel_rfl) ?_ _
            clear hHeld
            obtain ⟨w22, hw⟩ : ∃ wx, wx = putSl pS 0 b' c' t f' y' r' w21 := ⟨_, rfl⟩
            have XS22 := Lib.hid (show BxSl pS 0 b' c' t f' y' r' w22 by rw [hw]; exact XS21.out.put)
            have B22 := Lib.hid (show Below w.heap.size w w22 by rw [hw]; exact B21.out.trans (putSl_below GS.out))
            have hz : w21.heap.size ≤ w22.heap.size := by rw [hw]; exact (putSl_below (B := 0) (Nat.zero_le _)).size
            have SS22 := Lib.hid (Nat.lt_of_lt_of_le SS21.out hz)
            rw [show ((((((w21.setCell ⟨pS, 0, none⟩ (.int .i64 0)).setCell ⟨pS, 1, none⟩ (.int .u64 (b' : Int))).setCell ⟨pS, 2, none⟩ (.int .u64 (c' : Int))).setCell ⟨pS, 3, none⟩ (.int .u64 (t : Int))).setCell ⟨pS, 4, none⟩ (.int .u64 (f' : Int))).setCell ⟨pS, 5, none⟩ (.int .u64 (y' : Int))).setCell ⟨pS, 6, none⟩ (.int .u64 (r' : Int)) = w22 from hw.symm]
            clear s0 s1 s2 s3 s4 s5 s6 sf0 sf1 sf2 sf3 sf4 sf5 sf6
            clear hw hz B21 XS21 SS21
            obtain ⟨s0, s1, s2, s3, s4, s5, s6, -, -, -, -, -, -, -⟩ := XS22.out
            have RZ := Lib.hid (show StRel m t nx pS w (.int .u64 (n1 : Int)) (.int .i64 (k1 : Int)) w22 from ⟨k1, n1, b', c', t, f', y', r', HR.out.1, HR.out.2.1, rfl, rfl, HR.out.2.2.1, HR.out.2.2.2.1, HR.out.2.2.2.2.1, XS22.out, SS22.out, B22.out⟩)
            clear q1 q2 q3 q4 q5 q7
            go_wp2_with fail
            go_roundw
            case rel => exact RZ.out
            case measure => have := HR.out; simp [intOf]; omega
          · have t1 : decide (k < m) = true := decide_eq_true hkm
            have t2 : decide ((k : Int) < 200) = false := decide_eq_false (by omega)
            clear hk hk2 hnk hst ok hkm hk5
            go_wp2_with fail
            go_ret
            exact ⟨rfl, B20.out⟩
        · have t1 : decide (k < m) = false := decide_eq_false hkm
          clear hk hk2 hnk hst ok hkm 
          go_wp2_with fail
          go_ret
          exact ⟨rfl, B20.out⟩

set_option maxRecDepth 100000 in
theorem lifted (os : Os) (started : os.Started) (H : Type) (enc : TypeId × Value → H) :
    ReturnsInHanded {} Try.checked os 8 .any (Rows.hystartSteadySpec.pre6 enc Try.prog Try.f8 Rows.hystartSteadyRow.domain false) (Rows.hystartSteadySpec.post enc Try.prog Try.f8 false true false false) := by
  refine returnsInHanded_of_change (C := Try.checked) own started (by kernel_rfl) Try.func8
    (ChangeSpec.witness6 (enc := enc) (C := Try.checked) false ⟨#[], #[.int .u64 0, .int .u64 0, .slice none 0 0], []⟩ 8 (by kernel_rfl) (by kernel_rfl) (by kernel_rfl) (by kernel_rfl)) ?_
  intro W base args ds gs before hval0 hW hcnd _
  have hval : ∀ (j : Nat) t v, Try.f8.params[j]? = some t → args[j]? = some v → Value.okWide Try.prog W .any base t v := hval0
  have hW' := hW
  obtain ⟨p, q, hA0, hV, rfl, hfz, hnd⟩ := hW
  have hA : DataW.TrodAll enc Try.prog W 0 (fun _ => true) true Try.f8.params.toList args.toList ds p := hA0
  obtain ⟨rfl, rfl⟩ := trodVars_none hV
  simp only [List.append_nil] at hW'
  have hlow : ∀ x ∈ p, x.block < W.heap.size := fun x hx => hW'.lt x hx
  have hA2 := hA
  rw [Try.params8] at hval hA2
  obtain ⟨v0, vs0, d0, ds0, p0, q0, hargs, rfl, rfl, h0, r0⟩ := trodAll_cons hA2
  obtain ⟨v1, vs1, d1, ds1, p1, q1, rfl, rfl, rfl, h1, r1⟩ := trodAll_cons r0
  obtain ⟨v2, vs2, d2, ds2, p2, q2, rfl, rfl, rfl, h2, r2⟩ := trodAll_cons r1
  obtain ⟨rfl, rfl, rfl⟩ := trodAll_nil r2
  obtain rfl : args = #[v0, v1, v2] := by cases args; simp_all
  obtain ⟨n0, rfl, hn0⟩ := open_u64 Try.underlying23 (hval 0 23 v0 rfl rfl) h0
  obtain ⟨n1, rfl, hn1⟩ := open_u64 Try.underlying23 (hval 1 23 v1 rfl rfl) h1
  obtain ⟨A2, c2, xs2, rfl, hx2, hr2, hl2, hm2⟩ := open_row 256 Try.underlying38 Try.underlying5 (by kernel_rfl) (by intro x h; simp [Lit.wf, IntKind.min, IntKind.max, IntKind.signed, IntKind.bits] at h; omega) (hval 2 38 v2 rfl rfl) h2 (fun x hx => hlow x (by simp [hx]))
  refine (walk n0 n1 A2 c2 xs2 hn0 hn1 hx2 hl2 hm2 W hr2).mono fun e W' ⟨he, hg⟩ => ?_
  subst he
  exact ⟨_, rfl, law_true laid_out (by kernel_rfl) rfl Try.underlying4 (by kernel_rfl) hW' hA rfl rfl rfl hg⟩

theorem over : Rows.hystartSteadyRow.holds Try.pinned (OpenSpec.ofChange Rows.hystartSteadySpec) :=
  OpenClaim.holds_of_wide 8 Try.f8 rfl rfl rfl rfl rfl rfl rfl ⟨rfl, rfl, rfl, rfl, rfl⟩ rfl rfl rfl rfl rfl (by kernel_rfl) Try.func8 (by kernel_rfl)
    (of_decide_eq_true (by kernel_rfl)) (by unfold Func.isWrapper; first | (rw [if_pos (by decide +kernel)]; kernel_rfl) | (rw [if_neg (by decide +kernel)]; exact ⟨rfl, rfl⟩))
    (fun os started H enc _ => lifted os started H enc)

/-- The statement. -/
theorem proved : Rows.HystartSteadySaid := over
end Go.Proofs.Ytaiephdacioedaa.hystartSteady
