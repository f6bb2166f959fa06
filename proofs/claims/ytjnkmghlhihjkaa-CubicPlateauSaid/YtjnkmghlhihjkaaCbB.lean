/-
  What package cubic's Target and begun return, and the document's, for all numbers of 64 bits. No condition.
-/
import Derived.Test.YtjnkmghlhihjkaaCbA
import Derived.Test.YtjnkmghlhihjkaaRgn
import Derived.Deep.QuietTactic
import Derived.BigQuiet
namespace Go.Proofs.Ytjnkmghlhihjkaa
open Go.ChangeShapes Go.WideShapes Go.ChangeAt Go.RowKit
set_option linter.unusedVariables false

/-- A window whose epoch begins. -/
theorem begun_max (c t s : Nat) (e m k es n : Nat) : Wig.cbegun ⟨c, t, s, false, e, m, k, es⟩ n = ⟨c, t, s, true, n, max m c, Wig.fcbrt (Wig.fmuldiv (max m c - c) 1000000000 480), c⟩ := by
  unfold Wig.cbegun
  rw [if_neg (by simp)]
  by_cases h : c < m
  · rw [if_pos h, show max m c = m by omega]
  · rw [if_neg h, show max m c = c by omega, Nat.sub_self, show Wig.fcbrt (Wig.fmuldiv 0 1000000000 480) = 0 by decide +kernel]

set_option maxHeartbeats 2000000 in
theorem target_any (c t s : Nat) (h : Bool) (e m k es x r : Nat) (w : World) (hok : Wig.Cb.Ok ⟨c, t, s, h, e, m, k, es⟩) (hx : x < 18446744073709551616) (hr : Wig.ctarget ⟨c, t, s, h, e, m, k, es⟩ x = r) :
    Calls Try.prog 15 #[aggCu c t s h e m k es, .int .u64 (x : Int)] w fun e w' => e = .returned (.int .u64 (r : Int)) ∧ Below w.heap.size w w' := by
  obtain ⟨hc, -, -, -, hm, hk, -⟩ := hok
  simp only at hc hm hk
  obtain ⟨w1, hw1⟩ : ∃ wx, wx = w.alloc (.cells #[.int .u64 (c : Int), .int .u64 (t : Int), .int .u64 (s : Int), .bool h, .int .u64 (e : Int), .int .u64 (m : Int), .int .u64 (k : Int), .int .u64 (es : Int)] 24) := ⟨_, rfl⟩
  have z1 : w1.heap.size = w.heap.size + 1 := by rw [hw1]; simp
  have t1 : Below w1.heap.size w1 w1 := Below.refl _ _
  have t0 : Below w.heap.size w w1 := (show Below w.heap.size w w1 by rw [hw1]; exact (Below.refl _ _).alloc (Nat.le_refl _) _).trans (t1.mono (by omega))
  have BN := Lib.hid t0
  have ZN := Lib.hid z1
  have XC := Lib.hid (show BxCu w.heap.size c t s h e m k es w1 from (show BxCu w.heap.size c t s h e m k es w1 by rw [hw1]; exact BxCu.new _ c t s h e m k es).below t1 (by omega))
  clear t0 t1 z1
  have B1 := BN
  have XC1 := XC
  have SC1 := Lib.hid (show w.heap.size < w1.heap.size by have := ZN.out; omega)
  have GC := Lib.hid (show w.heap.size ≤ w.heap.size by omega)
  clear ZN BN XC
  have hmf : ∀ (fn : Fn) (first cap : Array Value) (w : World), (Instr.makeFunc fn first cap).run Try.prog w = .ok (.func fn first cap) w := fun _ _ _ _ => rfl
  obtain ⟨y, hy⟩ : ∃ y, Wig.ccube (max x k - min x k) = y := ⟨_, rfl⟩
  have y1 : y < 18446744073709551616 := by rw [← hy]; exact Wig.ccube_lt _
  obtain ⟨a, hA⟩ : ∃ a, a = Wig.fadd m y := ⟨_, rfl⟩
  obtain ⟨b, hB⟩ : ∃ b, b = c / 2 := ⟨_, rfl⟩
  obtain ⟨g, hg⟩ : ∃ g, g = Wig.fadd c b := ⟨_, rfl⟩
  have CC := Lib.hid (fun (w0 : World) (n : Nat) (hc : w0.cell? ⟨w.heap.size, 6, none⟩ = some (.int .u64 (k : Int))) => quiet_dr (cube_any x k y w.heap.size (w0.drewN n) hx hk hc hy))
  have CA := Lib.hid (fun w => (show Calls Try.prog 21 #[.int .u64 (m : Int), .int .u64 (y : Int)] w fun e w' => e = .returned (.int .u64 (a : Int)) ∧ w = w' by rw [hA]; exact add_any m y w hm y1))
  have CG := Lib.hid (fun w => (show Calls Try.prog 21 #[.int .u64 (c : Int), .int .u64 (b : Int)] w fun e w' => e = .returned (.int .u64 (g : Int)) ∧ w = w' by rw [hg]; exact add_any c b w hc (by omega)))
  have e1 : (c : Int) / 2 = (b : Int) := by omega
  have e2 : IntKind.u64.wrap (b : Int) = (b : Int) := by rw [IntKind.wrap_u64]; omega
  unfold Wig.ctarget at hr
  rw [Wig.cbound_eq hc] at hr
  try simp only at hr
  rw [← hB, ← hg] at hr
  have gup : c ≤ g := by rw [hg]; exact Wig.fadd_up hc
  by_cases hx2 : x < k
  · obtain ⟨d, hd⟩ : ∃ d, d = Wig.fsub m y := ⟨_, rfl⟩
    have CS := Lib.hid (fun w => (show Calls Try.prog 24 #[.int .u64 (m : Int), .int .u64 (y : Int)] w fun e w' => e = .returned (.int .u64 (d : Int)) ∧ w = w' by rw [hd]; exact sub_any m y w hm y1))
    have hs : Wig.cout ⟨c, t, s, h, e, m, k, es⟩ x = d := by unfold Wig.cout; rw [if_neg (by simp only; omega), hd, ← hy, show max x k - min x k = k - x by omega]
    have t1 : decide (x < k) = true := decide_eq_true hx2
    rw [hs] at hr
    obtain ⟨v, hv⟩ : ∃ v, v = max d c := ⟨_, rfl⟩
    have m1 : ∀ ts ty w, (Builtin.max_ ts ty #[.int .u64 (d : Int), .int .u64 (c : Int)]).run Try.prog w = .ok (.int .u64 (v : Int)) w := by
      intro ts ty w
      rw [run_max_int2, show (if (c : Int) > (d : Int) then (c : Int) else (d : Int)) = (v : Int) by split <;> omega]
    have m2 : ∀ ts ty w, (Builtin.min_ ts ty #[.int .u64 (v : Int), .int .u64 (g : Int)]).run Try.prog w = .ok (.int .u64 (r : Int)) w := by
      intro ts ty w
      rw [run_min_int2, show (if (g : Int) < (v : Int) then (g : Int) else (v : Int)) = (r : Int) by split <;> omega]
    clear hs hr hv gup hg hB hA hy hc hm hk hx y1 hx2 hd
    go_enter Try.func15, Try.ntmps15
    go_upto_region 1 with fail
    rw [← hw1]
    clear hw1
    obtain ⟨k0, k1, k2, k3, k4, k5, k6, k7, -, -, -, -, -, -, -, -⟩ := XC1.out
    go_wp2_with fail
    go_quiet (first | (go_at_call 30; with_reducible exact CC.out _ _ k6) | (go_at_call 21; with_reducible exact quiet_eq (CA.out _)) | fail)
    obtain ⟨w2, hw⟩ : ∃ wx, wx = w1.drewN nq := ⟨_, rfl⟩
    rw [← hw]
    have B2 := Lib.hid (show Below w.heap.size w w2 by rw [hw]; exact below_drewN' B1.out nq)
    have XC2 := Lib.hid (show BxCu w.heap.size c t s h e m k es w2 by rw [hw]; exact XC1.out.drewN nq)
    have SC2 := Lib.hid (show w.heap.size < w2.heap.size by rw [hw]; exact SC1.out)
    clear k0 k1 k2 k3 k4 k5 k6 k7
    clear hw B1 XC1 SC1
    obtain ⟨k0, k1, k2, k3, k4, k5, k6, k7, -, -, -, -, -, -, -, -⟩ := XC2.out
    go_wp2_with fail
    go_quiet (first | (go_at_call 30; with_reducible exact CC.out _ _ k6) | (go_at_call 24; with_reducible exact quiet_eq (CS.out _)) | fail)
    obtain ⟨w3, hw⟩ : ∃ wx, wx = w2.drewN nq := ⟨_, rfl⟩
    rw [← hw]
    have B3 := Lib.hid (show Below w.heap.size w w3 by rw [hw]; exact below_drewN' B2.out nq)
    have XC3 := Lib.hid (show BxCu w.heap.size c t s h e m k es w3 by rw [hw]; exact XC2.out.drewN nq)
    have SC3 := Lib.hid (show w.heap.size < w3.heap.size by rw [hw]; exact SC2.out)
    clear k0 k1 k2 k3 k4 k5 k6 k7
    clear hw B2 XC2 SC2
    obtain ⟨k0, k1, k2, k3, k4, k5, k6, k7, -, -, -, -, -, -, -, -⟩ := XC3.out
    go_wp2_with fail
    go_quiet (first | (go_at_call 21; with_reducible exact quiet_eq (CG.out _)) | fail)
    obtain ⟨w4, hw⟩ : ∃ wx, wx = w3.drewN nq := ⟨_, rfl⟩
    rw [← hw]
    have B4 := Lib.hid (show Below w.heap.size w w4 by rw [hw]; exact below_drewN' B3.out nq)
    have XC4 := Lib.hid (show BxCu w.heap.size c t s h e m k es w4 by rw [hw]; exact XC3.out.drewN nq)
    have SC4 := Lib.hid (show w.heap.size < w4.heap.size by rw [hw]; exact SC3.out)
    clear k0 k1 k2 k3 k4 k5 k6 k7
    clear hw B3 XC3 SC3
    go_wp2_with fail
    go_ret
    exact ⟨rfl, B4.out⟩
  · have hs : Wig.cout ⟨c, t, s, h, e, m, k, es⟩ x = a := by unfold Wig.cout; rw [if_pos (by simp only; omega), hA, ← hy, show max x k - min x k = x - k by omega]
    have t1 : decide (x < k) = false := decide_eq_false hx2
    rw [hs] at hr
    obtain ⟨v, hv⟩ : ∃ v, v = max a c := ⟨_, rfl⟩
    have m1 : ∀ ts ty w, (Builtin.max_ ts ty #[.int .u64 (a : Int), .int .u64 (c : Int)]).run Try.prog w = .ok (.int .u64 (v : Int)) w := by
      intro ts ty w
      rw [run_max_int2, show (if (c : Int) > (a : Int) then (c : Int) else (a : Int)) = (v : Int) by split <;> omega]
    have m2 : ∀ ts ty w, (Builtin.min_ ts ty #[.int .u64 (v : Int), .int .u64 (g : Int)]).run Try.prog w = .ok (.int .u64 (r : Int)) w := by
      intro ts ty w
      rw [run_min_int2, show (if (g : Int) < (v : Int) then (g : Int) else (v : Int)) = (r : Int) by split <;> omega]
    clear hs hr hv gup hg hB hA hy hc hm hk hx y1 hx2
    go_enter Try.func15, Try.ntmps15
    go_upto_region 1 with fail
    rw [← hw1]
    clear hw1
    obtain ⟨k0, k1, k2, k3, k4, k5, k6, k7, -, -, -, -, -, -, -, -⟩ := XC1.out
    go_wp2_with fail
    go_quiet (first | (go_at_call 30; with_reducible exact CC.out _ _ k6) | (go_at_call 21; with_reducible exact quiet_eq (CA.out _)) | fail)
    obtain ⟨w2, hw⟩ : ∃ wx, wx = w1.drewN nq := ⟨_, rfl⟩
    rw [← hw]
    have B2 := Lib.hid (show Below w.heap.size w w2 by rw [hw]; exact below_drewN' B1.out nq)
    have XC2 := Lib.hid (show BxCu w.heap.size c t s h e m k es w2 by rw [hw]; exact XC1.out.drewN nq)
    have SC2 := Lib.hid (show w.heap.size < w2.heap.size by rw [hw]; exact SC1.out)
    clear k0 k1 k2 k3 k4 k5 k6 k7
    clear hw B1 XC1 SC1
    obtain ⟨k0, k1, k2, k3, k4, k5, k6, k7, -, -, -, -, -, -, -, -⟩ := XC2.out
    go_wp2_with fail
    go_quiet (first | (go_at_call 21; with_reducible exact quiet_eq (CG.out _)) | fail)
    obtain ⟨w3, hw⟩ : ∃ wx, wx = w2.drewN nq := ⟨_, rfl⟩
    rw [← hw]
    have B3 := Lib.hid (show Below w.heap.size w w3 by rw [hw]; exact below_drewN' B2.out nq)
    have XC3 := Lib.hid (show BxCu w.heap.size c t s h e m k es w3 by rw [hw]; exact XC2.out.drewN nq)
    have SC3 := Lib.hid (show w.heap.size < w3.heap.size by rw [hw]; exact SC2.out)
    clear k0 k1 k2 k3 k4 k5 k6 k7
    clear hw B2 XC2 SC2
    go_wp2_with fail
    go_ret
    exact ⟨rfl, B3.out⟩

set_option maxHeartbeats 2000000 in
theorem rtarget_any (c t s : Nat) (h : Bool) (e m k es x r : Nat) (w : World) (hok : Wig.Cb.Ok ⟨c, t, s, h, e, m, k, es⟩) (hx : x < 18446744073709551616) (hr : Wig.ctarget ⟨c, t, s, h, e, m, k, es⟩ x = r) :
    Calls Try.prog 16 #[aggCu c t s h e m k es, .int .u64 (x : Int)] w fun e w' => e = .returned (.int .u64 (r : Int)) ∧ Below w.heap.size w w' := by
  obtain ⟨hc, -, -, -, hm, hk, -⟩ := hok
  simp only at hc hm hk
  obtain ⟨w1, hw1⟩ : ∃ wx, wx = w.alloc (.cells #[.int .u64 (c : Int), .int .u64 (t : Int), .int .u64 (s : Int), .bool h, .int .u64 (e : Int), .int .u64 (m : Int), .int .u64 (k : Int), .int .u64 (es : Int)] 24) := ⟨_, rfl⟩
  have z1 : w1.heap.size = w.heap.size + 1 := by rw [hw1]; simp
  have t1 : Below w1.heap.size w1 w1 := Below.refl _ _
  have t0 : Below w.heap.size w w1 := (show Below w.heap.size w w1 by rw [hw1]; exact (Below.refl _ _).alloc (Nat.le_refl _) _).trans (t1.mono (by omega))
  have BN := Lib.hid t0
  have ZN := Lib.hid z1
  have XC := Lib.hid (show BxCu w.heap.size c t s h e m k es w1 from (show BxCu w.heap.size c t s h e m k es w1 by rw [hw1]; exact BxCu.new _ c t s h e m k es).below t1 (by omega))
  clear t0 t1 z1
  have B1 := BN
  have XC1 := XC
  have SC1 := Lib.hid (show w.heap.size < w1.heap.size by have := ZN.out; omega)
  have GC := Lib.hid (show w.heap.size ≤ w.heap.size by omega)
  clear ZN BN XC
  obtain ⟨b, hB⟩ : ∃ b, b = c / 2 := ⟨_, rfl⟩
  obtain ⟨g, hg⟩ : ∃ g, g = Wig.fadd c b := ⟨_, rfl⟩
  have CG := Lib.hid (fun w => (show Calls Try.prog 26 #[.int .u64 (c : Int), .int .u64 (b : Int)] w fun e w' => e = .returned (.int .u64 (g : Int)) ∧ w = w' by rw [hg]; exact radd_any c b w hc (by omega)))
  have e1 : (c : Int) / 2 = (b : Int) := by omega
  have e2 : IntKind.u64.wrap (b : Int) = (b : Int) := by rw [IntKind.wrap_u64]; omega
  unfold Wig.ctarget Wig.cbound at hr
  simp only at hr
  rw [← hB, ← hg] at hr
  by_cases hx2 : k ≤ x
  · obtain ⟨z, hz⟩ : ∃ z, z = x - k := ⟨_, rfl⟩
    obtain ⟨y, hy⟩ : ∃ y, Wig.ccube z = y := ⟨_, rfl⟩
    have y1 : y < 18446744073709551616 := by rw [← hy]; exact Wig.ccube_lt _
    have e3 : IntKind.u64.wrap ((x : Int) - (k : Int)) = (z : Int) := by rw [IntKind.wrap_u64]; omega
    have CC := Lib.hid (fun w => (show Calls Try.prog 31 #[.int .u64 (z : Int)] w fun e w' => e = .returned (.int .u64 (y : Int)) ∧ w = w' by exact rcube_any z y w (by omega) hy))
    obtain ⟨v, hv⟩ : ∃ v, v = Wig.fadd m y := ⟨_, rfl⟩
    have CA := Lib.hid (fun w => (show Calls Try.prog 26 #[.int .u64 (m : Int), .int .u64 (y : Int)] w fun e w' => e = .returned (.int .u64 (v : Int)) ∧ w = w' by rw [hv]; exact radd_any m y w hm y1))
    have hs : Wig.cout ⟨c, t, s, h, e, m, k, es⟩ x = v := by unfold Wig.cout; rw [if_pos (by simp only; omega)]; simp only; rw [← hz, hy, hv]
    have t1 : decide (k ≤ x) = true := decide_eq_true hx2
    rw [hs] at hr
    clear hs hv hy y1 hz hx2 hx hk hm hc hg hB
    by_cases q1 : v < c
    · rw [if_pos q1] at hr
      subst hr
      have t2 : decide (v < c) = true := decide_eq_true q1
      clear q1
      go_enter Try.func16, Try.ntmps16
      go_upto_region 1 with fail
      rw [← hw1]
      clear hw1
      obtain ⟨k0, k1, k2, k3, k4, k5, k6, k7, -, -, -, -, -, -, -, -⟩ := XC1.out
      go_wp2_with fail
      go_quiet (first | (go_at_call 31; with_reducible exact quiet_eq (CC.out _)) | (go_at_call 26; with_reducible exact quiet_eq (CA.out _)) | fail)
      obtain ⟨w2, hw⟩ : ∃ wx, wx = w1.drewN nq := ⟨_, rfl⟩
      rw [← hw]
      have B2 := Lib.hid (show Below w.heap.size w w2 by rw [hw]; exact below_drewN' B1.out nq)
      have XC2 := Lib.hid (show BxCu w.heap.size c t s h e m k es w2 by rw [hw]; exact XC1.out.drewN nq)
      have SC2 := Lib.hid (show w.heap.size < w2.heap.size by rw [hw]; exact SC1.out)
      clear k0 k1 k2 k3 k4 k5 k6 k7
      clear hw B1 XC1 SC1
      obtain ⟨k0, k1, k2, k3, k4, k5, k6, k7, -, -, -, -, -, -, -, -⟩ := XC2.out
      go_wp2_with fail
      refine (CG.out _).mono ?_
      rintro e _ ⟨rfl, rfl⟩
      go_wp2_with fail
      go_ret
      exact ⟨rfl, B2.out⟩
    · rw [if_neg q1] at hr
      have t2 : decide (v < c) = false := decide_eq_false q1
      clear q1
      by_cases q2 : g < v
      · rw [if_pos q2] at hr
        subst hr
        have t3 : decide (g < v) = true := decide_eq_true q2
        clear q2
        go_enter Try.func16, Try.ntmps16
        go_upto_region 1 with fail
        rw [← hw1]
        clear hw1
        obtain ⟨k0, k1, k2, k3, k4, k5, k6, k7, -, -, -, -, -, -, -, -⟩ := XC1.out
        go_wp2_with fail
        go_quiet (first | (go_at_call 31; with_reducible exact quiet_eq (CC.out _)) | (go_at_call 26; with_reducible exact quiet_eq (CA.out _)) | fail)
        obtain ⟨w2, hw⟩ : ∃ wx, wx = w1.drewN nq := ⟨_, rfl⟩
        rw [← hw]
        have B2 := Lib.hid (show Below w.heap.size w w2 by rw [hw]; exact below_drewN' B1.out nq)
        have XC2 := Lib.hid (show BxCu w.heap.size c t s h e m k es w2 by rw [hw]; exact XC1.out.drewN nq)
        have SC2 := Lib.hid (show w.heap.size < w2.heap.size by rw [hw]; exact SC1.out)
        clear k0 k1 k2 k3 k4 k5 k6 k7
        clear hw B1 XC1 SC1
        obtain ⟨k0, k1, k2, k3, k4, k5, k6, k7, -, -, -, -, -, -, -, -⟩ := XC2.out
        go_wp2_with fail
        refine (CG.out _).mono ?_
        rintro e _ ⟨rfl, rfl⟩
        go_wp2_with fail
        go_ret
        exact ⟨rfl, B2.out⟩
      · rw [if_neg q2] at hr
        subst hr
        have t3 : decide (g < v) = false := decide_eq_false q2
        clear q2
        go_enter Try.func16, Try.ntmps16
        go_upto_region 1 with fail
        rw [← hw1]
        clear hw1
        obtain ⟨k0, k1, k2, k3, k4, k5, k6, k7, -, -, -, -, -, -, -, -⟩ := XC1.out
        go_wp2_with fail
        go_quiet (first | (go_at_call 31; with_reducible exact quiet_eq (CC.out _)) | (go_at_call 26; with_reducible exact quiet_eq (CA.out _)) | fail)
        obtain ⟨w2, hw⟩ : ∃ wx, wx = w1.drewN nq := ⟨_, rfl⟩
        rw [← hw]
        have B2 := Lib.hid (show Below w.heap.size w w2 by rw [hw]; exact below_drewN' B1.out nq)
        have XC2 := Lib.hid (show BxCu w.heap.size c t s h e m k es w2 by rw [hw]; exact XC1.out.drewN nq)
        have SC2 := Lib.hid (show w.heap.size < w2.heap.size by rw [hw]; exact SC1.out)
        clear k0 k1 k2 k3 k4 k5 k6 k7
        clear hw B1 XC1 SC1
        obtain ⟨k0, k1, k2, k3, k4, k5, k6, k7, -, -, -, -, -, -, -, -⟩ := XC2.out
        go_wp2_with fail
        refine (CG.out _).mono ?_
        rintro e _ ⟨rfl, rfl⟩
        go_wp2_with fail
        go_ret
        exact ⟨rfl, B2.out⟩
  · obtain ⟨z, hz⟩ : ∃ z, z = k - x := ⟨_, rfl⟩
    obtain ⟨y, hy⟩ : ∃ y, Wig.ccube z = y := ⟨_, rfl⟩
    have y1 : y < 18446744073709551616 := by rw [← hy]; exact Wig.ccube_lt _
    have e3 : IntKind.u64.wrap ((k : Int) - (x : Int)) = (z : Int) := by rw [IntKind.wrap_u64]; omega
    have CC := Lib.hid (fun w => (show Calls Try.prog 31 #[.int .u64 (z : Int)] w fun e w' => e = .returned (.int .u64 (y : Int)) ∧ w = w' by exact rcube_any z y w (by omega) hy))
    obtain ⟨v, hv⟩ : ∃ v, v = Wig.fsub m y := ⟨_, rfl⟩
    have CA := Lib.hid (fun w => (show Calls Try.prog 29 #[.int .u64 (m : Int), .int .u64 (y : Int)] w fun e w' => e = .returned (.int .u64 (v : Int)) ∧ w = w' by rw [hv]; exact rsub_any m y w hm y1))
    have hs : Wig.cout ⟨c, t, s, h, e, m, k, es⟩ x = v := by unfold Wig.cout; rw [if_neg (by simp only; omega)]; simp only; rw [← hz, hy, hv]
    have t1 : decide (k ≤ x) = false := decide_eq_false hx2
    rw [hs] at hr
    clear hs hv hy y1 hz hx2 hx hk hm hc hg hB
    by_cases q1 : v < c
    · rw [if_pos q1] at hr
      subst hr
      have t2 : decide (v < c) = true := decide_eq_true q1
      clear q1
      go_enter Try.func16, Try.ntmps16
      go_upto_region 1 with fail
      rw [← hw1]
      clear hw1
      obtain ⟨k0, k1, k2, k3, k4, k5, k6, k7, -, -, -, -, -, -, -, -⟩ := XC1.out
      go_wp2_with fail
      go_quiet (first | (go_at_call 31; with_reducible exact quiet_eq (CC.out _)) | (go_at_call 29; with_reducible exact quiet_eq (CA.out _)) | fail)
      obtain ⟨w2, hw⟩ : ∃ wx, wx = w1.drewN nq := ⟨_, rfl⟩
      rw [← hw]
      have B2 := Lib.hid (show Below w.heap.size w w2 by rw [hw]; exact below_drewN' B1.out nq)
      have XC2 := Lib.hid (show BxCu w.heap.size c t s h e m k es w2 by rw [hw]; exact XC1.out.drewN nq)
      have SC2 := Lib.hid (show w.heap.size < w2.heap.size by rw [hw]; exact SC1.out)
      clear k0 k1 k2 k3 k4 k5 k6 k7
      clear hw B1 XC1 SC1
      obtain ⟨k0, k1, k2, k3, k4, k5, k6, k7, -, -, -, -, -, -, -, -⟩ := XC2.out
      go_wp2_with fail
      refine (CG.out _).mono ?_
      rintro e _ ⟨rfl, rfl⟩
      go_wp2_with fail
      go_ret
      exact ⟨rfl, B2.out⟩
    · rw [if_neg q1] at hr
      have t2 : decide (v < c) = false := decide_eq_false q1
      clear q1
      by_cases q2 : g < v
      · rw [if_pos q2] at hr
        subst hr
        have t3 : decide (g < v) = true := decide_eq_true q2
        clear q2
        go_enter Try.func16, Try.ntmps16
        go_upto_region 1 with fail
        rw [← hw1]
        clear hw1
        obtain ⟨k0, k1, k2, k3, k4, k5, k6, k7, -, -, -, -, -, -, -, -⟩ := XC1.out
        go_wp2_with fail
        go_quiet (first | (go_at_call 31; with_reducible exact quiet_eq (CC.out _)) | (go_at_call 29; with_reducible exact quiet_eq (CA.out _)) | fail)
        obtain ⟨w2, hw⟩ : ∃ wx, wx = w1.drewN nq := ⟨_, rfl⟩
        rw [← hw]
        have B2 := Lib.hid (show Below w.heap.size w w2 by rw [hw]; exact below_drewN' B1.out nq)
        have XC2 := Lib.hid (show BxCu w.heap.size c t s h e m k es w2 by rw [hw]; exact XC1.out.drewN nq)
        have SC2 := Lib.hid (show w.heap.size < w2.heap.size by rw [hw]; exact SC1.out)
        clear k0 k1 k2 k3 k4 k5 k6 k7
        clear hw B1 XC1 SC1
        obtain ⟨k0, k1, k2, k3, k4, k5, k6, k7, -, -, -, -, -, -, -, -⟩ := XC2.out
        go_wp2_with fail
        refine (CG.out _).mono ?_
        rintro e _ ⟨rfl, rfl⟩
        go_wp2_with fail
        go_ret
        exact ⟨rfl, B2.out⟩
      · rw [if_neg q2] at hr
        subst hr
        have t3 : decide (g < v) = false := decide_eq_false q2
        clear q2
        go_enter Try.func16, Try.ntmps16
        go_upto_region 1 with fail
        rw [← hw1]
        clear hw1
        obtain ⟨k0, k1, k2, k3, k4, k5, k6, k7, -, -, -, -, -, -, -, -⟩ := XC1.out
        go_wp2_with fail
        go_quiet (first | (go_at_call 31; with_reducible exact quiet_eq (CC.out _)) | (go_at_call 29; with_reducible exact quiet_eq (CA.out _)) | fail)
        obtain ⟨w2, hw⟩ : ∃ wx, wx = w1.drewN nq := ⟨_, rfl⟩
        rw [← hw]
        have B2 := Lib.hid (show Below w.heap.size w w2 by rw [hw]; exact below_drewN' B1.out nq)
        have XC2 := Lib.hid (show BxCu w.heap.size c t s h e m k es w2 by rw [hw]; exact XC1.out.drewN nq)
        have SC2 := Lib.hid (show w.heap.size < w2.heap.size by rw [hw]; exact SC1.out)
        clear k0 k1 k2 k3 k4 k5 k6 k7
        clear hw B1 XC1 SC1
        obtain ⟨k0, k1, k2, k3, k4, k5, k6, k7, -, -, -, -, -, -, -, -⟩ := XC2.out
        go_wp2_with fail
        refine (CG.out _).mono ?_
        rintro e _ ⟨rfl, rfl⟩
        go_wp2_with fail
        go_ret
        exact ⟨rfl, B2.out⟩

set_option maxHeartbeats 2000000 in
theorem begun_any (c t s : Nat) (h : Bool) (e m k es n m' k' : Nat) (w : World) (hc : c < 18446744073709551616) (hm : m < 18446744073709551616) (h1 : max m c = m') (h2 : Wig.fcbrt (Wig.fmuldiv (max m c - c) 1000000000 480) = k') :
    Calls Try.prog 22 #[aggCu c t s h e m k es, .int .u64 (n : Int)] w fun e w' => e = .returned (aggCu c t s true n m' k' c) ∧ Below w.heap.size w w' := by
  obtain ⟨w1, hw1⟩ : ∃ wx, wx = w.alloc (.cells #[.int .u64 (c : Int), .int .u64 (t : Int), .int .u64 (s : Int), .bool h, .int .u64 (e : Int), .int .u64 (m : Int), .int .u64 (k : Int), .int .u64 (es : Int)] 24) := ⟨_, rfl⟩
  have z1 : w1.heap.size = w.heap.size + 1 := by rw [hw1]; simp
  obtain ⟨w2, hw2⟩ : ∃ wx, wx = w1.alloc (.cells #[.int .u64 0, .int .u64 0, .int .u64 0, .bool false, .int .u64 0, .int .u64 0, .int .u64 0, .int .u64 0] 24) := ⟨_, rfl⟩
  have z2 : w2.heap.size = w.heap.size + 2 := by rw [hw2]; simp; omega
  have t2 : Below w2.heap.size w2 w2 := Below.refl _ _
  have t1 : Below w1.heap.size w1 w2 := (show Below w1.heap.size w1 w2 by rw [hw2]; exact (Below.refl _ _).alloc (Nat.le_refl _) _).trans (t2.mono (by omega))
  have t0 : Below w.heap.size w w2 := (show Below w.heap.size w w1 by rw [hw1]; exact (Below.refl _ _).alloc (Nat.le_refl _) _).trans (t1.mono (by omega))
  have BN := Lib.hid t0
  have ZN := Lib.hid z2
  have XC := Lib.hid (show BxCu w.heap.size c t s h e m k es w2 from (show BxCu w.heap.size c t s h e m k es w1 by rw [hw1]; exact BxCu.new _ c t s h e m k es).below t1 (by omega))
  have XZ := Lib.hid (show BxCu (w.heap.size + 1) 0 0 0 false 0 0 0 0 w2 from (show BxCu (w.heap.size + 1) 0 0 0 false 0 0 0 0 w2 by rw [hw2, ← z1]; exact BxCu.new _ 0 0 0 false 0 0 0 0).below t2 (by omega))
  clear t0 t1 t2 z1 z2
  have B2 := BN
  have XC2 := XC
  have SC2 := Lib.hid (show w.heap.size < w2.heap.size by have := ZN.out; omega)
  have GC := Lib.hid (show w.heap.size ≤ w.heap.size by omega)
  have XZ2 := XZ
  have SZ2 := Lib.hid (show (w.heap.size + 1) < w2.heap.size by have := ZN.out; omega)
  have GZ := Lib.hid (show w.heap.size ≤ (w.heap.size + 1) by omega)
  have OCZ := Lib.hid (show w.heap.size < (w.heap.size + 1) by omega)
  clear ZN BN XC XZ
  rw [h1] at h2
  obtain ⟨d, hd⟩ : ∃ d, d = m' - c := ⟨_, rfl⟩
  obtain ⟨p, hp⟩ : ∃ p, p = Wig.fmuldiv d 1000000000 480 := ⟨_, rfl⟩
  rw [← hd, ← hp] at h2
  have e1 : IntKind.u64.wrap ((m' : Int) - (c : Int)) = (d : Int) := by rw [IntKind.wrap_u64]; omega
  have CM := Lib.hid (fun w => (show Calls Try.prog 23 #[.int .u64 (d : Int), .int .u64 1000000000, .int .u64 480] w fun e w' => e = .returned (.int .u64 (p : Int)) ∧ Below w.heap.size w w' by rw [hp]; exact drew_below (muldiv_any d 1000000000 480 w (by omega) (by omega) (by omega))))
  have CC := Lib.hid (fun w => (show Calls Try.prog 33 #[.int .u64 (p : Int)] w fun e w' => e = .returned (.int .u64 (k' : Int)) ∧ Below w.heap.size w w' by rw [← h2]; exact cbrt_any p w (by rw [hp]; exact Wig.fmuldiv_lt _ _ _)))
  have m1 : ∀ ts ty w, (Builtin.max_ ts ty #[.int .u64 (m : Int), .int .u64 (c : Int)]).run Try.prog w = .ok (.int .u64 (m' : Int)) w := by
    intro ts ty w
    rw [run_max_int2, show (if (c : Int) > (m : Int) then (c : Int) else (m : Int)) = (m' : Int) by split <;> omega]
  clear hc hm h1 h2 hd hp
  go_enter Try.func22, Try.ntmps22
  go_upto_region 1 with fail
  rw [← hw1, ← hw2]
  clear hw1 hw2
  obtain ⟨k0, k1, k2, k3, k4, k5, k6, k7, kf0, kf1, kf2, kf3, kf4, kf5, kf6, kf7⟩ := XC2.out
  go_upto_region 2 with fail
  obtain ⟨w3, hw⟩ : ∃ wx, wx = w2.setCell ⟨w.heap.size, 3, none⟩ (.bool true) := ⟨_, rfl⟩
  rw [← hw]
  have XC3 := Lib.hid (show BxCu w.heap.size c t s true e m k es w3 by rw [hw]; exact XC2.out.set3)
  have B3 := Lib.hid (show Below w.heap.size w w3 by rw [hw]; exact Below.setCell B2.out GC.out _)
  have SC3 := Lib.hid (show w.heap.size < w3.heap.size by rw [hw]; have := SC2.out; simpa using this)
  have XZ3 := Lib.hid (show BxCu (w.heap.size + 1) 0 0 0 false 0 0 0 0 w3 by rw [hw]; exact XZ2.out.other rfl (Nat.ne_of_lt OCZ.out))
  have SZ3 := Lib.hid (show (w.heap.size + 1) < w3.heap.size by rw [hw]; have := SZ2.out; simpa using this)
  clear k0 k1 k2 k3 k4 k5 k6 k7 kf0 kf1 kf2 kf3 kf4 kf5 kf6 kf7
  clear hw B2 XC2 SC2 XZ2 SZ2
  obtain ⟨w4, hw⟩ : ∃ wx, wx = w3.setCell ⟨w.heap.size, 4, none⟩ (.int .u64 (n : Int)) := ⟨_, rfl⟩
  rw [← hw]
  have XC4 := Lib.hid (show BxCu w.heap.size c t s true n m k es w4 by rw [hw]; exact XC3.out.set4)
  have B4 := Lib.hid (show Below w.heap.size w w4 by rw [hw]; exact Below.setCell B3.out GC.out _)
  have SC4 := Lib.hid (show w.heap.size < w4.heap.size by rw [hw]; have := SC3.out; simpa using this)
  have XZ4 := Lib.hid (show BxCu (w.heap.size + 1) 0 0 0 false 0 0 0 0 w4 by rw [hw]; exact XZ3.out.other rfl (Nat.ne_of_lt OCZ.out))
  have SZ4 := Lib.hid (show (w.heap.size + 1) < w4.heap.size by rw [hw]; have := SZ3.out; simpa using this)
  clear hw B3 XC3 SC3 XZ3 SZ3
  obtain ⟨w5, hw⟩ : ∃ wx, wx = w4.setCell ⟨w.heap.size, 7, none⟩ (.int .u64 (c : Int)) := ⟨_, rfl⟩
  rw [← hw]
  have XC5 := Lib.hid (show BxCu w.heap.size c t s true n m k c w5 by rw [hw]; exact XC4.out.set7)
  have B5 := Lib.hid (show Below w.heap.size w w5 by rw [hw]; exact Below.setCell B4.out GC.out _)
  have SC5 := Lib.hid (show w.heap.size < w5.heap.size by rw [hw]; have := SC4.out; simpa using this)
  have XZ5 := Lib.hid (show BxCu (w.heap.size + 1) 0 0 0 false 0 0 0 0 w5 by rw [hw]; exact XZ4.out.other rfl (Nat.ne_of_lt OCZ.out))
  have SZ5 := Lib.hid (show (w.heap.size + 1) < w5.heap.size by rw [hw]; have := SZ4.out; simpa using this)
  clear hw B4 XC4 SC4 XZ4 SZ4
  obtain ⟨k0, k1, k2, k3, k4, k5, k6, k7, kf0, kf1, kf2, kf3, kf4, kf5, kf6, kf7⟩ := XC5.out
  go_upto_region 3 with fail
  obtain ⟨w6, hw⟩ : ∃ wx, wx = w5.setCell ⟨w.heap.size, 5, none⟩ (.int .u64 (m' : Int)) := ⟨_, rfl⟩
  rw [← hw]
  have XC6 := Lib.hid (show BxCu w.heap.size c t s true n m' k c w6 by rw [hw]; exact XC5.out.set5)
  have B6 := Lib.hid (show Below w.heap.size w w6 by rw [hw]; exact Below.setCell B5.out GC.out _)
  have SC6 := Lib.hid (show w.heap.size < w6.heap.size by rw [hw]; have := SC5.out; simpa using this)
  have XZ6 := Lib.hid (show BxCu (w.heap.size + 1) 0 0 0 false 0 0 0 0 w6 by rw [hw]; exact XZ5.out.other rfl (Nat.ne_of_lt OCZ.out))
  have SZ6 := Lib.hid (show (w.heap.size + 1) < w6.heap.size by rw [hw]; have := SZ5.out; simpa using this)
  clear k0 k1 k2 k3 k4 k5 k6 k7 kf0 kf1 kf2 kf3 kf4 kf5 kf6 kf7
  clear hw B5 XC5 SC5 XZ5 SZ5
  obtain ⟨k0, k1, k2, k3, k4, k5, k6, k7, -, -, -, -, -, -, -, -⟩ := XC6.out
  go_wp2_with fail
  refine (CM.out _).mono ?_
  rintro e w7 ⟨rfl, hb⟩
  have B7 := Lib.hid (below_trans' B6.out hb)
  have XC7 := Lib.hid (XC6.out.below hb SC6.out)
  have SC7 := Lib.hid (Nat.lt_of_lt_of_le SC6.out hb.size)
  have XZ7 := Lib.hid (XZ6.out.below hb SZ6.out)
  have SZ7 := Lib.hid (Nat.lt_of_lt_of_le SZ6.out hb.size)
  clear k0 k1 k2 k3 k4 k5 k6 k7
  clear hb B6 XC6 SC6 XZ6 SZ6
  obtain ⟨k0, k1, k2, k3, k4, k5, k6, k7, kf0, kf1, kf2, kf3, kf4, kf5, kf6, kf7⟩ := XC7.out
  go_wp2_with fail
  refine (CC.out _).mono ?_
  rintro e w8 ⟨rfl, hb⟩
  have B8 := Lib.hid (below_trans' B7.out hb)
  have XC8 := Lib.hid (XC7.out.below hb SC7.out)
  have SC8 := Lib.hid (Nat.lt_of_lt_of_le SC7.out hb.size)
  have XZ8 := Lib.hid (XZ7.out.below hb SZ7.out)
  have SZ8 := Lib.hid (Nat.lt_of_lt_of_le SZ7.out hb.size)
  clear k0 k1 k2 k3 k4 k5 k6 k7 kf0 kf1 kf2 kf3 kf4 kf5 kf6 kf7
  clear hb B7 XC7 SC7 XZ7 SZ7
  obtain ⟨k0, k1, k2, k3, k4, k5, k6, k7, kf0, kf1, kf2, kf3, kf4, kf5, kf6, kf7⟩ := XC8.out
  go_upto_region 4 with fail
  obtain ⟨w9, hw⟩ : ∃ wx, wx = w8.setCell ⟨w.heap.size, 6, none⟩ (.int .u64 (k' : Int)) := ⟨_, rfl⟩
  rw [← hw]
  have XC9 := Lib.hid (show BxCu w.heap.size c t s true n m' k' c w9 by rw [hw]; exact XC8.out.set6)
  have B9 := Lib.hid (show Below w.heap.size w w9 by rw [hw]; exact Below.setCell B8.out GC.out _)
  have SC9 := Lib.hid (show w.heap.size < w9.heap.size by rw [hw]; have := SC8.out; simpa using this)
  have XZ9 := Lib.hid (show BxCu (w.heap.size + 1) 0 0 0 false 0 0 0 0 w9 by rw [hw]; exact XZ8.out.other rfl (Nat.ne_of_lt OCZ.out))
  have SZ9 := Lib.hid (show (w.heap.size + 1) < w9.heap.size by rw [hw]; have := SZ8.out; simpa using this)
  clear k0 k1 k2 k3 k4 k5 k6 k7 kf0 kf1 kf2 kf3 kf4 kf5 kf6 kf7
  clear hw B8 XC8 SC8 XZ8 SZ8
  obtain ⟨k0, k1, k2, k3, k4, k5, k6, k7, -, -, -, -, -, -, -, -⟩ := XC9.out
  obtain ⟨z0, z1, z2, z3, z4, z5, z6, z7, zf0, zf1, zf2, zf3, zf4, zf5, zf6, zf7⟩ := XZ9.out
  go_wp2_with fail
  show bodyPost _ _ _ _ _ (putCu (w.heap.size + 1) c t s true n m' k' c w9)
  have BZ : Below w.heap.size w (putCu (w.heap.size + 1) c t s true n m' k' c w9) := B9.out.trans (putCu_below GZ.out)
  obtain ⟨z0, z1, z2, z3, z4, z5, z6, z7, -, -, -, -, -, -, -, -⟩ := (show BxCu (w.heap.size + 1) c t s true n m' k' c (putCu (w.heap.size + 1) c t s true n m' k' c w9) from XZ9.out.put)
  exact bodyPost_ret (v := aggCu c t s true n m' k' c) (by simp [results, Try.results22, z0, z1, z2, z3, z4, z5, z6, z7, go_sem]) rfl ⟨rfl, BZ⟩

set_option maxHeartbeats 2000000 in
theorem rbegun_any (c t s : Nat) (h : Bool) (e m k es n e' m' k' es' : Nat) (w : World) (hc : c < 18446744073709551616) (hm : m < 18446744073709551616) (he : Wig.cbegun ⟨c, t, s, h, e, m, k, es⟩ n = ⟨c, t, s, true, e', m', k', es'⟩) :
    Calls Try.prog 27 #[aggCu c t s h e m k es, .int .u64 (n : Int)] w fun e w' => e = .returned (aggCu c t s true e' m' k' es') ∧ Below w.heap.size w w' := by
  have B := Lib.hid (fun (o o' : Obj) => ((Below.refl w.heap.size w).alloc (Nat.le_refl _) o).alloc (by simp) o')
  unfold Wig.cbegun at he
  simp only at he
  cases h with
  | true =>
    rw [if_pos rfl] at he
    injection he with r1 r2 r3 r4 r5 r6 r7 r8
    subst r5 r6 r7 r8
    clear hc hm
    go_enter Try.func27, Try.ntmps27
    go_wp2_with fail
    exact bodyPost_ret (v := aggCu c t s true e m k es) (by simp [results, Try.results27, go_sem]) rfl ⟨rfl, B.out _ _⟩
  | false =>
    rw [if_neg (by simp)] at he
    by_cases h : c < m
    · rw [if_pos h] at he
      injection he with r1 r2 r3 r4 r5 r6 r7 r8
      subst r5 r6 r8
      have t1 : decide (c < m) = true := decide_eq_true h
      obtain ⟨d, hd⟩ : ∃ d, d = m - c := ⟨_, rfl⟩
      obtain ⟨p, hp⟩ : ∃ p, p = Wig.fmuldiv d 1000000000 480 := ⟨_, rfl⟩
      rw [← hd, ← hp] at r7
      have e1 : IntKind.u64.wrap ((m : Int) - (c : Int)) = (d : Int) := by rw [IntKind.wrap_u64]; omega
      have CM := Lib.hid (fun w => (show Calls Try.prog 28 #[.int .u64 (d : Int), .int .u64 1000000000, .int .u64 480] w fun e w' => e = .returned (.int .u64 (p : Int)) ∧ w = w' by rw [hp]; exact rmuldiv_any d 1000000000 480 w (by omega) (by omega) (by omega)))
      have CC := Lib.hid (fun w => (show Calls Try.prog 36 #[.int .u64 (p : Int)] w fun e w' => e = .returned (.int .u64 (k' : Int)) ∧ w = w' by rw [← r7]; exact rcbrt_any p w (by rw [hp]; exact Wig.fmuldiv_lt _ _ _)))
      clear hc hm h hd hp r7
      go_enter Try.func27, Try.ntmps27
      go_wp2_with fail
      refine (CM.out _).mono ?_
      rintro e _ ⟨rfl, rfl⟩
      go_wp2_with fail
      refine (CC.out _).mono ?_
      rintro e _ ⟨rfl, rfl⟩
      go_wp2_with fail
      exact bodyPost_ret (v := aggCu c t s true n m k' c) (by simp [results, Try.results27, go_sem]) rfl ⟨rfl, B.out _ _⟩
    · rw [if_neg h] at he
      injection he with r1 r2 r3 r4 r5 r6 r7 r8
      subst r5 r6 r7 r8
      have t1 : decide (c < m) = false := decide_eq_false h
      clear hc hm h
      go_enter Try.func27, Try.ntmps27
      go_wp2_with fail
      exact bodyPost_ret (v := aggCu c t s true n c 0 c) (by simp [results, Try.results27, go_sem]) rfl ⟨rfl, B.out _ _⟩
theorem cbegun_form (c t s : Nat) (h : Bool) (e m k es n : Nat) : ∃ E M K S, Wig.cbegun ⟨c, t, s, h, e, m, k, es⟩ n = ⟨c, t, s, true, E, M, K, S⟩ := by
  cases h with
  | true => exact ⟨e, m, k, es, rfl⟩
  | false => exact ⟨n, max m c, _, c, begun_max c t s e m k es n⟩

/-- What lies in the two boxes of Ack. -/
def CuRel (c t s : Nat) (h : Bool) (e m k es : Nat) (w wx : World) : Prop := BxCu w.heap.size c t s h e m k es wx ∧ BxCu (w.heap.size + 1) 0 0 0 false 0 0 0 0 wx ∧ Below w.heap.size w wx ∧ w.heap.size + 2 ≤ wx.heap.size

end Go.Proofs.Ytjnkmghlhihjkaa
