/-
  What package probe's New, Product, Window, Rate and the parts that a State sends by return, package reno's Held, and the document's New, best, Product, Window, part, Rate and Held. Conditions: the numbers have 64 bits, at most four hundred rates.
-/
import Derived.Test.YtjojnbeflongkaaDoorPrbM
import Derived.Test.YtjojnbeflongkaaDoorRts
import Derived.Test.YtjojnbeflongkaaDoorFixGn
import Derived.Test.YtjojnbeflongkaaDoorBxP
import Derived.Test.YtjojnbeflongkaaDoorBxG
import Derived.Test.YtjojnbeflongkaaDoorLaidP
import Derived.Test.YtjojnbeflongkaaDoorRgn
import Derived.Laws.EntriesVeiled
import Derived.Lib.BitFns
import Derived.Deep.DeepCutAuto
import Derived.Deep.QuietTactic
import Derived.BigQuiet
namespace Go.Proofs.YtjojnbeflongkaaDoor
open Go.ChangeShapes Go.WideShapes Go.ChangeAt Go.RowKit
set_option linter.unusedVariables false

theorem quiet_dr {P : Program} {f : FuncId} {args : Array Value} {w : World} {n : Nat} {v : Value}
    (h : Calls P f args (w.drewN n) fun e w' => e = .returned v ∧ ∃ k, (w.drewN n).drewN k = w') : Calls P f args (w.drewN n) fun e w'' => e = .returned v ∧ ∃ m, w'' = w.drewN m :=
  h.mono fun _ _ ⟨he, k, hk⟩ => ⟨he, n + k, by rw [← hk, World.drewN_drewN]⟩
theorem same_below {P : Program} {f : FuncId} {args : Array Value} {w : World} {v : Value} (h : Calls P f args w fun e w' => e = .returned v ∧ w = w') : Calls P f args w fun e w' => e = .returned v ∧ Below w.heap.size w w' :=
  h.mono fun _ _ ⟨he, hk⟩ => ⟨he, by rw [← hk]; exact Below.refl _ _⟩
theorem drew_below {P : Program} {f : FuncId} {args : Array Value} {w : World} {v : Value} (h : Calls P f args w fun e w' => e = .returned v ∧ ∃ n, w.drewN n = w') : Calls P f args w fun e w' => e = .returned v ∧ Below w.heap.size w w' :=
  h.mono fun _ _ ⟨he, n, hk⟩ => ⟨he, by rw [← hk]; exact below_drewN' (Below.refl _ _) n⟩
theorem held_any (n r : Nat) (w : World) (hr : Wig.nheld n = r) : Calls Tryd.prog 26 #[.int .u64 (n : Int)] w fun e w' => e = .returned (.int .u64 (r : Int)) ∧ w = w' := by
  obtain ⟨m, hm⟩ : ∃ m, m = max n 2400 := ⟨_, rfl⟩
  have e1 : ∀ ts t w, (Builtin.max_ ts t #[.int .u64 (n : Int), .int .u64 2400]).run Tryd.prog w = .ok (.int .u64 (m : Int)) w := by
    intro ts t w
    rw [run_max_int2, show (if (2400 : Int) > (n : Int) then (2400 : Int) else (n : Int)) = (m : Int) by split <;> omega]
  have e2 : ∀ ts t w, (Builtin.min_ ts t #[.int .u64 (m : Int), .int .u64 16777216]).run Tryd.prog w = .ok (.int .u64 (r : Int)) w := by
    intro ts t w
    rw [run_min_int2, show (if (16777216 : Int) < (m : Int) then (16777216 : Int) else (m : Int)) = (r : Int) by
      unfold Wig.nheld at hr
      split
      · rw [if_neg (by omega), if_pos (by omega)] at hr; omega
      · split at hr
        · omega
        · rw [if_neg (by omega)] at hr; omega]
  clear hm hr
  go_enter Tryd.func26, Tryd.ntmps26
  go_wp2_with fail
  go_ret
  exact ⟨rfl, rfl⟩
theorem rheld_any (n r : Nat) (w : World) (hr : Wig.nheld n = r) : Calls Tryd.prog 30 #[.int .u64 (n : Int)] w fun e w' => e = .returned (.int .u64 (r : Int)) ∧ w = w' := by
  unfold Wig.nheld at hr
  by_cases h1 : n < 2400
  · rw [if_pos h1] at hr
    subst hr
    have t1 : decide ((n : Int) < 2400) = true := decide_eq_true (by omega)
    clear h1
    go_enter Tryd.func30, Tryd.ntmps30
    go_wp2_with fail
    go_ret
    exact ⟨rfl, rfl⟩
  · rw [if_neg h1] at hr
    have t1 : decide ((n : Int) < 2400) = false := decide_eq_false (by omega)
    by_cases h2 : 16777216 < n
    · rw [if_pos h2] at hr
      subst hr
      have t2 : decide ((16777216 : Int) < (n : Int)) = true := decide_eq_true (by omega)
      clear h1 h2
      go_enter Tryd.func30, Tryd.ntmps30
      go_wp2_with fail
      go_ret
      exact ⟨rfl, rfl⟩
    · rw [if_neg h2] at hr
      subst hr
      have t2 : decide ((16777216 : Int) < (n : Int)) = false := decide_eq_false (by omega)
      clear h1 h2
      go_enter Tryd.func30, Tryd.ntmps30
      go_wp2_with fail
      go_ret
      exact ⟨rfl, rfl⟩
theorem new_any (t : Nat) (w : World) : Calls Tryd.prog 15 #[.int .u64 (t : Int)] w fun e w' => e = .returned (.agg #[.int .i64 0, .slice none 0 0, .int .u64 18446744073709551615, .int .u64 (t : Int), .int .u64 0, .int .u64 0, .int .u64 0, .int .u64 0, .int .u64 (t : Int), .int .u64 16777216]) ∧ Below w.heap.size w w' := by
  have B := Lib.hid (fun (o : Obj) => (Below.refl w.heap.size w).alloc (Nat.le_refl _) o)
  go_enter Tryd.func15, Tryd.ntmps15
  go_wp2_with fail
  exact bodyPost_ret (v := .agg #[.int .i64 0, .slice none 0 0, .int .u64 18446744073709551615, .int .u64 (t : Int), .int .u64 0, .int .u64 0, .int .u64 0, .int .u64 0, .int .u64 (t : Int), .int .u64 16777216]) (by simp [results, Tryd.results15, go_sem]) rfl ⟨rfl, B.out _⟩
theorem rnew_any (t : Nat) (w : World) : Calls Tryd.prog 16 #[.int .u64 (t : Int)] w fun e w' => e = .returned (.agg #[.int .i64 0, .slice none 0 0, .int .u64 18446744073709551615, .int .u64 (t : Int), .int .u64 0, .int .u64 0, .int .u64 0, .int .u64 0, .int .u64 (t : Int), .int .u64 16777216]) ∧ Below w.heap.size w w' := by
  have B := Lib.hid (fun (o : Obj) => (Below.refl w.heap.size w).alloc (Nat.le_refl _) o)
  go_enter Tryd.func16, Tryd.ntmps16
  go_wp2_with fail
  exact bodyPost_ret (v := .agg #[.int .i64 0, .slice none 0 0, .int .u64 18446744073709551615, .int .u64 (t : Int), .int .u64 0, .int .u64 0, .int .u64 0, .int .u64 0, .int .u64 (t : Int), .int .u64 16777216]) (by simp [results, Tryd.results16, go_sem]) rfl ⟨rfl, B.out _⟩
theorem rbestp_any (s : Int) (A : Option Addr) (n c lo la fu sl ro ph si hi : Nat) (ss : List Wig.Smp) (b : Nat) (w : World) (hok : Wig.Pb.Ok ⟨s, ss, lo, la, fu, sl, ro, ph, si, hi⟩) (hR : Rt w 0 w.heap.size A n ss) (hb : Wig.best ss = b) : Calls Tryd.prog 31 #[aggPb s A n c lo la fu sl ro ph si hi] w fun e w' => e = .returned (.int .u64 (b : Int)) ∧ Below w.heap.size w w' := by
  obtain ⟨w1, hw1⟩ : ∃ wx, wx = w.alloc (.cells #[.int .i64 s, .slice A n c, .int .u64 (lo : Int), .int .u64 (la : Int), .int .u64 (fu : Int), .int .u64 (sl : Int), .int .u64 (ro : Int), .int .u64 (ph : Int), .int .u64 (si : Int), .int .u64 (hi : Int)] 26) := ⟨_, rfl⟩
  have z1 : w1.heap.size = w.heap.size + 1 := by rw [hw1]; simp
  have t1 : Below w1.heap.size w1 w1 := Below.refl _ _
  have t0 : Below w.heap.size w w1 := (show Below w.heap.size w w1 by rw [hw1]; exact (Below.refl _ _).alloc (Nat.le_refl _) _).trans (t1.mono (by omega))
  have BN := Lib.hid t0
  have ZN := Lib.hid z1
  have XP := Lib.hid (show BxPb w.heap.size s A n c lo la fu sl ro ph si hi w1 from (show BxPb w.heap.size s A n c lo la fu sl ro ph si hi w1 by rw [hw1]; exact BxPb.new _ s A n c lo la fu sl ro ph si hi).below t1 (by omega))
  clear t0 t1 z1
  have B1 := BN
  have XP1 := XP
  have SP1 := Lib.hid (show w.heap.size < w1.heap.size by have := ZN.out; omega)
  have GP := Lib.hid (show w.heap.size ≤ w.heap.size by omega)
  clear ZN BN XP
  have CB := Lib.hid (fun (w0 : World) (hb0 : Below w.heap.size w w0) => (show Calls Tryd.prog 45 #[.slice A n c] w0 fun e w' => e = .returned (.int .u64 (b : Int)) ∧ w0 = w' from rbest_rt ss n b A c w0 (hR.step hb0) hb))
  clear hok hR hb
  go_enter Tryd.func31, Tryd.ntmps31
  go_upto_region 1 with fail
  rw [← hw1]
  clear hw1
  obtain ⟨k0, k1, k2, k3, k4, k5, k6, k7, k8, k9, -, -, -, -, -, -, -, -, -, -⟩ := XP1.out
  go_wp2_with fail
  refine (CB.out _ B1.out).mono ?_
  rintro e _ ⟨rfl, rfl⟩
  go_wp2_with fail
  go_ret
  exact ⟨rfl, B1.out⟩
set_option maxHeartbeats 1000000 in
theorem product_any (s : Int) (A : Option Addr) (n c lo la fu sl ro ph si hi : Nat) (ss : List Wig.Smp) (k r : Nat) (w : World) (hok : Wig.Pb.Ok ⟨s, ss, lo, la, fu, sl, ro, ph, si, hi⟩) (hR : Rt w 0 w.heap.size A n ss) (hk : k < 18446744073709551616) (he : Wig.pbprod ⟨s, ss, lo, la, fu, sl, ro, ph, si, hi⟩ k = r) : Calls Tryd.prog 17 #[aggPb s A n c lo la fu sl ro ph si hi, .int .u64 (k : Int)] w fun e w' => e = .returned (.int .u64 (r : Int)) ∧ Below w.heap.size w w' := by
  have hlo : lo < 18446744073709551616 := hok.low
  obtain ⟨w1, hw1⟩ : ∃ wx, wx = w.alloc (.cells #[.int .i64 s, .slice A n c, .int .u64 (lo : Int), .int .u64 (la : Int), .int .u64 (fu : Int), .int .u64 (sl : Int), .int .u64 (ro : Int), .int .u64 (ph : Int), .int .u64 (si : Int), .int .u64 (hi : Int)] 26) := ⟨_, rfl⟩
  have z1 : w1.heap.size = w.heap.size + 1 := by rw [hw1]; simp
  have t1 : Below w1.heap.size w1 w1 := Below.refl _ _
  have t0 : Below w.heap.size w w1 := (show Below w.heap.size w w1 by rw [hw1]; exact (Below.refl _ _).alloc (Nat.le_refl _) _).trans (t1.mono (by omega))
  have BN := Lib.hid t0
  have ZN := Lib.hid z1
  have XP := Lib.hid (show BxPb w.heap.size s A n c lo la fu sl ro ph si hi w1 from (show BxPb w.heap.size s A n c lo la fu sl ro ph si hi w1 by rw [hw1]; exact BxPb.new _ s A n c lo la fu sl ro ph si hi).below t1 (by omega))
  clear t0 t1 z1
  have B1 := BN
  have XP1 := XP
  have SP1 := Lib.hid (show w.heap.size < w1.heap.size by have := ZN.out; omega)
  have GP := Lib.hid (show w.heap.size ≤ w.heap.size by omega)
  clear ZN BN XP
  unfold Wig.pbprod at he
  simp only at he
  by_cases h0 : lo = 18446744073709551615
  · rw [if_pos h0] at he
    subst he
    have t1 : ((lo : Int) == 18446744073709551615) = true := by simp; omega
    clear hok hR hlo h0 hk
    go_enter Tryd.func17, Tryd.ntmps17
    go_upto_region 1 with fail
    rw [← hw1]
    clear hw1
    obtain ⟨k0, k1, k2, k3, k4, k5, k6, k7, k8, k9, -, -, -, -, -, -, -, -, -, -⟩ := XP1.out
    go_wp2_with fail
    go_ret
    exact ⟨rfl, B1.out⟩
  · rw [if_neg h0] at he
    have t1 : ((lo : Int) == 18446744073709551615) = false := by simp; omega
    obtain ⟨b, hb⟩ : ∃ b, Wig.best ss = b := ⟨_, rfl⟩
    obtain ⟨x, hx⟩ : ∃ x, Wig.fmuldiv b lo 1000 = x := ⟨_, rfl⟩
    rw [hb, hx] at he
    have b1 : b < 18446744073709551616 := by rw [← hb]; exact Wig.best_le hok.rates
    have x1 : x < 18446744073709551616 := by rw [← hx]; exact Wig.fmuldiv_lt _ _ _
    have CB := Lib.hid (fun (w0 : World) (hb0 : Below w.heap.size w w0) => (show Calls Tryd.prog 23 #[.slice A n c] w0 fun e w' => e = .returned (.int .u64 (b : Int)) ∧ w0 = w' from best_rt ss n b A c w0 (hR.step hb0) hb))
    have CM := Lib.hid (fun w => (show Calls Tryd.prog 35 #[.int .u64 (b : Int), .int .u64 (lo : Int), .int .u64 1000] w fun e w' => e = .returned (.int .u64 (x : Int)) ∧ ∃ n, w.drewN n = w' by rw [← hx]; exact muldiv_any b lo 1000 w b1 hlo (by omega)))
    have CG := Lib.hid (fun w => (show Calls Tryd.prog 37 #[.int .u64 (x : Int), .int .u64 (k : Int)] w fun e w' => e = .returned (.int .u64 (r : Int)) ∧ ∃ n, w.drewN n = w' by rw [← he]; exact gain_any x k w x1 hk))
    clear hok hR hlo h0 hk b1 x1 hb hx he
    go_enter Tryd.func17, Tryd.ntmps17
    go_upto_region 1 with fail
    rw [← hw1]
    clear hw1
    obtain ⟨k0, k1, k2, k3, k4, k5, k6, k7, k8, k9, -, -, -, -, -, -, -, -, -, -⟩ := XP1.out
    go_wp2_with fail
    go_quiet (first | (go_at_call 23; with_reducible exact quiet_eq (CB.out _ (below_drewN' B1.out _))) | (go_at_call 35; with_reducible exact quiet_dr (CM.out _)) | (go_at_call 37; with_reducible exact quiet_dr (CG.out _)) | fail)
    obtain ⟨w2, hw⟩ : ∃ wx, wx = w1.drewN nq := ⟨_, rfl⟩
    rw [← hw]
    have B2 := Lib.hid (show Below w.heap.size w w2 by rw [hw]; exact below_drewN' B1.out nq)
    have XP2 := Lib.hid (show BxPb w.heap.size s A n c lo la fu sl ro ph si hi w2 by rw [hw]; exact XP1.out.drewN nq)
    have SP2 := Lib.hid (show w.heap.size < w2.heap.size by rw [hw]; exact SP1.out)
    clear k0 k1 k2 k3 k4 k5 k6 k7 k8 k9
    clear hw B1 XP1 SP1
    go_wp2_with fail
    go_ret
    exact ⟨rfl, B2.out⟩
set_option maxHeartbeats 1000000 in
theorem rproduct_any (s : Int) (A : Option Addr) (n c lo la fu sl ro ph si hi : Nat) (ss : List Wig.Smp) (k r : Nat) (w : World) (hok : Wig.Pb.Ok ⟨s, ss, lo, la, fu, sl, ro, ph, si, hi⟩) (hR : Rt w 0 w.heap.size A n ss) (hk : k < 18446744073709551616) (he : Wig.pbprod ⟨s, ss, lo, la, fu, sl, ro, ph, si, hi⟩ k = r) : Calls Tryd.prog 18 #[aggPb s A n c lo la fu sl ro ph si hi, .int .u64 (k : Int)] w fun e w' => e = .returned (.int .u64 (r : Int)) ∧ Below w.heap.size w w' := by
  have hlo : lo < 18446744073709551616 := hok.low
  obtain ⟨w1, hw1⟩ : ∃ wx, wx = w.alloc (.cells #[.int .i64 s, .slice A n c, .int .u64 (lo : Int), .int .u64 (la : Int), .int .u64 (fu : Int), .int .u64 (sl : Int), .int .u64 (ro : Int), .int .u64 (ph : Int), .int .u64 (si : Int), .int .u64 (hi : Int)] 26) := ⟨_, rfl⟩
  have z1 : w1.heap.size = w.heap.size + 1 := by rw [hw1]; simp
  have t1 : Below w1.heap.size w1 w1 := Below.refl _ _
  have t0 : Below w.heap.size w w1 := (show Below w.heap.size w w1 by rw [hw1]; exact (Below.refl _ _).alloc (Nat.le_refl _) _).trans (t1.mono (by omega))
  have BN := Lib.hid t0
  have ZN := Lib.hid z1
  have XP := Lib.hid (show BxPb w.heap.size s A n c lo la fu sl ro ph si hi w1 from (show BxPb w.heap.size s A n c lo la fu sl ro ph si hi w1 by rw [hw1]; exact BxPb.new _ s A n c lo la fu sl ro ph si hi).below t1 (by omega))
  clear t0 t1 z1
  have B1 := BN
  have XP1 := XP
  have SP1 := Lib.hid (show w.heap.size < w1.heap.size by have := ZN.out; omega)
  have GP := Lib.hid (show w.heap.size ≤ w.heap.size by omega)
  clear ZN BN XP
  unfold Wig.pbprod at he
  simp only at he
  by_cases h0 : lo = 18446744073709551615
  · rw [if_pos h0] at he
    subst he
    have t1 : ((lo : Int) == 18446744073709551615) = true := by simp; omega
    clear hok hR hlo h0 hk
    go_enter Tryd.func18, Tryd.ntmps18
    go_upto_region 1 with fail
    rw [← hw1]
    clear hw1
    obtain ⟨k0, k1, k2, k3, k4, k5, k6, k7, k8, k9, -, -, -, -, -, -, -, -, -, -⟩ := XP1.out
    go_wp2_with fail
    go_ret
    exact ⟨rfl, B1.out⟩
  · rw [if_neg h0] at he
    have t1 : ((lo : Int) == 18446744073709551615) = false := by simp; omega
    obtain ⟨b, hb⟩ : ∃ b, Wig.best ss = b := ⟨_, rfl⟩
    obtain ⟨x, hx⟩ : ∃ x, Wig.fmuldiv b lo 1000 = x := ⟨_, rfl⟩
    rw [hb, hx] at he
    have b1 : b < 18446744073709551616 := by rw [← hb]; exact Wig.best_le hok.rates
    have x1 : x < 18446744073709551616 := by rw [← hx]; exact Wig.fmuldiv_lt _ _ _
    have CB := Lib.hid (fun (w0 : World) (hb0 : Below w.heap.size w w0) => (show Calls Tryd.prog 31 #[aggPb s A n c lo la fu sl ro ph si hi] w0 fun e w' => e = .returned (.int .u64 (b : Int)) ∧ Below w0.heap.size w0 w' from rbestp_any s A n c lo la fu sl ro ph si hi ss b w0 hok (hR.step hb0) hb))
    have CM := Lib.hid (fun w => (show Calls Tryd.prog 36 #[.int .u64 (b : Int), .int .u64 (lo : Int), .int .u64 1000] w fun e w' => e = .returned (.int .u64 (x : Int)) ∧ w = w' by rw [← hx]; exact rmuldiv_any b lo 1000 w b1 hlo (by omega)))
    have CG := Lib.hid (fun w => (show Calls Tryd.prog 38 #[.int .u64 (x : Int), .int .u64 (k : Int)] w fun e w' => e = .returned (.int .u64 (r : Int)) ∧ w = w' by rw [← he]; exact rgain_any x k w x1 hk))
    clear hok hR hlo h0 hk b1 x1 hb hx he
    go_enter Tryd.func18, Tryd.ntmps18
    go_upto_region 1 with fail
    rw [← hw1]
    clear hw1
    obtain ⟨k0, k1, k2, k3, k4, k5, k6, k7, k8, k9, -, -, -, -, -, -, -, -, -, -⟩ := XP1.out
    go_wp2_with fail
    clear k0 k1 k2 k3 k4 k5 k6 k7 k8 k9
    refine wp_region_held_drew (S := fun wx => BxPb w.heap.size s A n c lo la fu sl ro ph si hi wx ∧ Below w1.heap.size w1 wx) (by kernel_rfl) ?_ (fun hHeld => ?_)
    · exact ⟨XP1.out.drew, (Below.refl _ _).drew⟩
    refine held_take (v := .agg #[.int .i64 s, .slice A n c, .int .u64 (lo : Int), .int .u64 (la : Int), .int .u64 (fu : Int), .int .u64 (sl : Int), .int .u64 (ro : Int), .int .u64 (ph : Int), .int .u64 (si : Int), .int .u64 (hi : Int)]) 0 rfl (by kernel_rfl) (by kernel_rfl) (by kernel_rfl) (fun _ _ _ h => h) (by rfl) (fun wx hSw => by obtain ⟨c0, c1, c2, c3, c4, c5, c6, c7, c8, c9, -, -, -, -, -, -, -, -, -, -⟩ := hSw.1; clear hSw; go_simp) (by assumption) ?_
    try simp only [Act.put, List.setIfInBounds_toArray, List.set_cons_zero, List.set_cons_succ]
    refine held_take (v := ?vv102) 2 rfl (by kernel_rfl) (by kernel_rfl) (by kernel_rfl) (fun _ _ _ h => h) (by rfl) ?yy102 (by assumption) ?nn102
    case yy102 =>
      intro w hSw
      (try dsimp only at hSw)
      go_simp
      try with_reducible rfl
    try simp only [Act.put, List.setIfInBounds_toArray, List.set_cons_zero, List.set_cons_succ]
    refine held_take (v := .int .u64 (lo : Int)) 3 rfl (by kernel_rfl) (by kernel_rfl) (by kernel_rfl) (fun _ _ _ h => h) (by rfl) (fun wx hSw => by have c := hSw.1.c2; clear hSw; go_simp) (by assumption) ?_
    try simp only [Act.put, List.setIfInBounds_toArray, List.set_cons_zero, List.set_cons_succ]
    refine held_take (v := ?vv104) 5 rfl (by kernel_rfl) (by kernel_rfl) (by kernel_rfl) (fun _ _ _ h => h) (by rfl) ?yy104 (by assumption) ?nn104
    case yy104 =>
      intro w hSw
      (try dsimp only at hSw)
      go_simp
      try with_reducible rfl
    try simp only [Act.put, List.setIfInBounds_toArray, List.set_cons_zero, List.set_cons_succ]
    refine held_do 1 rfl (by kernel_rfl) (by rfl) (fun K hK => ?_)
    go_wp2_with (go_at_call 31; refine (CB.out _ (below_trans' B1.out hHeld.2)).mono ?_; rintro e w2 ⟨rfl, hb2⟩; have K2 := Lib.hid (Below.trans hHeld.2 (hb2.mono hHeld.2.size)); clear hb2)
    refine hK.out _ _ ?_ (fun hHeld => ?_)
    · exact ⟨XP1.out.below K2.out SP1.out, K2.out⟩
    clear hK K
    try simp only [Act.put, List.setIfInBounds_toArray, List.set_cons_zero, List.set_cons_succ]
    refine held_do 4 rfl (by kernel_rfl) (by rfl) (fun K hK => ?_)
    go_wp2_with (go_at_call 36; with_reducible refine (CM.out _).mono ?_; rintro e _ ⟨rfl, rfl⟩)
    refine hK.out _ _ ?_ (fun hHeld => ?_)
    · exact hHeld
    clear hK K
    try simp only [Act.put, List.setIfInBounds_toArray, List.set_cons_zero, List.set_cons_succ]
    refine held_do 6 rfl (by kernel_rfl) (by rfl) (fun K hK => ?_)
    go_wp2_with (go_at_call 38; with_reducible refine (CG.out _).mono ?_; rintro e _ ⟨rfl, rfl⟩)
    refine hK.out _ _ ?_ (fun hHeld => ?_)
    · exact hHeld
    clear hK K
    try simp only [Act.put, List.setIfInBounds_toArray, List.set_cons_zero, List.set_cons_succ]
    refine held_take (v := ?vv108) 7 rfl (by kernel_rfl) (by kernel_rfl) (by kernel_rfl) (fun _ _ _ h => h) (by rfl) ?yy108 (by assumption) ?nn108
    case yy108 =>
      intro w hSw
      (try dsimp only at hSw)
      go_simp
      try with_reducible rfl
    try simp only [Act.put, List.setIfInBounds_toArray, List.set_cons_zero, List.set_cons_succ]
    refine wpAnyH_done (by kernel_rfl) ?_ _
    clear hHeld
    have B2 := Lib.hid (below_trans' B1.out K2.out)
    have XP2 := Lib.hid (XP1.out.below K2.out SP1.out)
    have SP2 := Lib.hid (Nat.lt_of_lt_of_le SP1.out K2.out.size)
    clear B1 XP1 SP1
    go_wp2_with fail
    go_ret
    exact ⟨rfl, B2.out⟩
set_option maxHeartbeats 4000000 in
theorem window_any (s : Int) (A : Option Addr) (n c lo la fu sl ro ph si hi : Nat) (ss : List Wig.Smp) (r : Nat) (w : World) (hok : Wig.Pb.Ok ⟨s, ss, lo, la, fu, sl, ro, ph, si, hi⟩) (hR : Rt w 0 w.heap.size A n ss) (he : Wig.pbwindow ⟨s, ss, lo, la, fu, sl, ro, ph, si, hi⟩ = r) : Calls Tryd.prog 19 #[aggPb s A n c lo la fu sl ro ph si hi] w fun e w' => e = .returned (.int .u64 (r : Int)) ∧ Below w.heap.size w w' := by
  have hhi : hi < 18446744073709551616 := hok.high
  obtain ⟨w1, hw1⟩ : ∃ wx, wx = w.alloc (.cells #[.int .i64 s, .slice A n c, .int .u64 (lo : Int), .int .u64 (la : Int), .int .u64 (fu : Int), .int .u64 (sl : Int), .int .u64 (ro : Int), .int .u64 (ph : Int), .int .u64 (si : Int), .int .u64 (hi : Int)] 26) := ⟨_, rfl⟩
  have z1 : w1.heap.size = w.heap.size + 1 := by rw [hw1]; simp
  have t1 : Below w1.heap.size w1 w1 := Below.refl _ _
  have t0 : Below w.heap.size w w1 := (show Below w.heap.size w w1 by rw [hw1]; exact (Below.refl _ _).alloc (Nat.le_refl _) _).trans (t1.mono (by omega))
  have BN := Lib.hid t0
  have ZN := Lib.hid z1
  have XP := Lib.hid (show BxPb w.heap.size s A n c lo la fu sl ro ph si hi w1 from (show BxPb w.heap.size s A n c lo la fu sl ro ph si hi w1 by rw [hw1]; exact BxPb.new _ s A n c lo la fu sl ro ph si hi).below t1 (by omega))
  clear t0 t1 z1
  have B1 := BN
  have XP1 := XP
  have SP1 := Lib.hid (show w.heap.size < w1.heap.size by have := ZN.out; omega)
  have GP := Lib.hid (show w.heap.size ≤ w.heap.size by omega)
  clear ZN BN XP
  unfold Wig.pbwindow at he
  simp only at he
  by_cases h3 : s = 3
  · rw [if_pos h3] at he
    subst he
    have t1 : (s == 3) = true := by simp [h3]
    clear hok hR hhi h3
    go_enter Tryd.func19, Tryd.ntmps19
    go_upto_region 1 with fail
    rw [← hw1]
    clear hw1
    obtain ⟨k0, k1, k2, k3, k4, k5, k6, k7, k8, k9, -, -, -, -, -, -, -, -, -, -⟩ := XP1.out
    go_wp2_with fail
    go_ret
    exact ⟨rfl, B1.out⟩
  · rw [if_neg h3] at he
    have t1 : (s == 3) = false := by simp [h3]
    obtain ⟨z, hz⟩ : ∃ z, Wig.pbprod ⟨s, ss, lo, la, fu, sl, ro, ph, si, hi⟩ 256 = z := ⟨_, rfl⟩
    rw [hz] at he
    have CZ := Lib.hid (fun (w0 : World) (hb0 : Below w.heap.size w w0) => (show Calls Tryd.prog 17 #[aggPb s A n c lo la fu sl ro ph si hi, .int .u64 256] w0 fun e w' => e = .returned (.int .u64 (z : Int)) ∧ Below w0.heap.size w0 w' from product_any s A n c lo la fu sl ro ph si hi ss 256 z w0 hok (hR.step hb0) (by decide) hz))
    by_cases hz0 : z = 0
    · rw [if_pos hz0] at he
      subst he
      have t2 : ((z : Int) == 0) = true := by simp [hz0]
      clear hok hR hhi h3 hz hz0
      go_enter Tryd.func19, Tryd.ntmps19
      go_upto_region 1 with fail
      rw [← hw1]
      clear hw1
      obtain ⟨k0, k1, k2, k3, k4, k5, k6, k7, k8, k9, -, -, -, -, -, -, -, -, -, -⟩ := XP1.out
      go_wp2_with fail
      refine (CZ.out _ B1.out).mono ?_
      rintro e w2 ⟨rfl, hb⟩
      have B2 := Lib.hid (below_trans' B1.out hb)
      have XP2 := Lib.hid (XP1.out.below hb SP1.out)
      have SP2 := Lib.hid (Nat.lt_of_lt_of_le SP1.out hb.size)
      clear k0 k1 k2 k3 k4 k5 k6 k7 k8 k9
      clear hb B1 XP1 SP1
      go_wp2_with fail
      go_ret
      exact ⟨rfl, B2.out⟩
    · rw [if_neg hz0] at he
      have t2 : ((z : Int) == 0) = false := by simp [hz0]
      clear hz hz0 h3
      by_cases h4 : s = 0
      · rw [if_pos h4] at he
        have t3 : (s == 0) = true := by simp [h4]
        clear h4
        obtain ⟨q, hq⟩ : ∃ q, Wig.pbprod ⟨s, ss, lo, la, fu, sl, ro, ph, si, hi⟩ 739 = q := ⟨_, rfl⟩
        obtain ⟨x, hx⟩ : ∃ x, Wig.nheld q = x := ⟨_, rfl⟩
        rw [hq, hx] at he
        have q1 : q < 18446744073709551616 := by rw [← hq]; exact Wig.pbprod_lt _ _
        have CQ := Lib.hid (fun (w0 : World) (hb0 : Below w.heap.size w w0) => (show Calls Tryd.prog 17 #[aggPb s A n c lo la fu sl ro ph si hi, .int .u64 739] w0 fun e w' => e = .returned (.int .u64 (q : Int)) ∧ Below w0.heap.size w0 w' from product_any s A n c lo la fu sl ro ph si hi ss 739 q w0 hok (hR.step hb0) (by decide) hq))
        have CH := Lib.hid (fun w => held_any q x w hx)
        obtain ⟨m, hm⟩ : ∃ m, m = min x hi := ⟨_, rfl⟩
        have m1 : ∀ ts ty w, (Builtin.min_ ts ty #[.int .u64 (x : Int), .int .u64 (hi : Int)]).run Tryd.prog w = .ok (.int .u64 (m : Int)) w := by
          intro ts ty w
          rw [run_min_int2, show (if (hi : Int) < (x : Int) then (hi : Int) else (x : Int)) = (m : Int) by split <;> omega]
        have HM := Lib.hid hm
        have HE := Lib.hid he
        have HHI := Lib.hid hhi
        clear hok hR hq hx q1 hm he hhi
        go_enter Tryd.func19, Tryd.ntmps19
        go_upto_region 1 with fail
        rw [← hw1]
        clear hw1
        obtain ⟨k0, k1, k2, k3, k4, k5, k6, k7, k8, k9, -, -, -, -, -, -, -, -, -, -⟩ := XP1.out
        go_wp2_with fail
        refine (CZ.out _ B1.out).mono ?_
        rintro e w2 ⟨rfl, hb⟩
        have B2 := Lib.hid (below_trans' B1.out hb)
        have XP2 := Lib.hid (XP1.out.below hb SP1.out)
        have SP2 := Lib.hid (Nat.lt_of_lt_of_le SP1.out hb.size)
        clear k0 k1 k2 k3 k4 k5 k6 k7 k8 k9
        clear hb B1 XP1 SP1
        obtain ⟨k0, k1, k2, k3, k4, k5, k6, k7, k8, k9, -, -, -, -, -, -, -, -, -, -⟩ := XP2.out
        go_wp2_with fail
        clear k0 k1 k2 k3 k4 k5 k6 k7 k8 k9
        refine wp_region_held_drew (S := fun wx => BxPb w.heap.size s A n c lo la fu sl ro ph si hi wx ∧ Below w2.heap.size w2 wx) (by kernel_rfl) ?_ (fun hHeld => ?_)
        · exact ⟨XP2.out.drew, (Below.refl _ _).drew⟩
        refine held_take (v := .agg #[.int .i64 s, .slice A n c, .int .u64 (lo : Int), .int .u64 (la : Int), .int .u64 (fu : Int), .int .u64 (sl : Int), .int .u64 (ro : Int), .int .u64 (ph : Int), .int .u64 (si : Int), .int .u64 (hi : Int)]) 0 rfl (by kernel_rfl) (by kernel_rfl) (by kernel_rfl) (fun _ _ _ h => h) (by rfl) (fun wx hSw => by obtain ⟨c0, c1, c2, c3, c4, c5, c6, c7, c8, c9, -, -, -, -, -, -, -, -, -, -⟩ := hSw.1; clear hSw; go_simp) (by assumption) ?_
        try simp only [Act.put, List.setIfInBounds_toArray, List.set_cons_zero, List.set_cons_succ]
        refine held_take (v := ?vv111) 1 rfl (by kernel_rfl) (by kernel_rfl) (by kernel_rfl) (fun _ _ _ h => h) (by rfl) ?yy111 (by assumption) ?nn111
        case yy111 =>
          intro w hSw
          (try dsimp only at hSw)
          go_simp
          try with_reducible rfl
        try simp only [Act.put, List.setIfInBounds_toArray, List.set_cons_zero, List.set_cons_succ]
        refine held_take (v := ?vv112) 4 rfl (by kernel_rfl) (by kernel_rfl) (by kernel_rfl) (fun _ _ _ h => h) (by rfl) ?yy112 (by assumption) ?nn112
        case yy112 =>
          intro w hSw
          (try dsimp only at hSw)
          go_simp
          try with_reducible rfl
        try simp only [Act.put, List.setIfInBounds_toArray, List.set_cons_zero, List.set_cons_succ]
        refine held_take (v := .int .u64 (hi : Int)) 5 rfl (by kernel_rfl) (by kernel_rfl) (by kernel_rfl) (fun _ _ _ h => h) (by rfl) (fun wx hSw => by have c := hSw.1.c9; clear hSw; go_simp) (by assumption) ?_
        try simp only [Act.put, List.setIfInBounds_toArray, List.set_cons_zero, List.set_cons_succ]
        refine held_do 2 rfl (by kernel_rfl) (by rfl) (fun K hK => ?_)
        go_wp2_with (go_at_call 17; refine (CQ.out _ (below_trans' B2.out hHeld.2)).mono ?_; rintro e w3 ⟨rfl, hb3⟩; have K3 := Lib.hid (Below.trans hHeld.2 (hb3.mono hHeld.2.size)); clear hb3)
        refine hK.out _ _ ?_ (fun hHeld => ?_)
        · exact ⟨XP2.out.below K3.out SP2.out, K3.out⟩
        clear hK K
        try simp only [Act.put, List.setIfInBounds_toArray, List.set_cons_zero, List.set_cons_succ]
        refine held_do 3 rfl (by kernel_rfl) (by rfl) (fun K hK => ?_)
        go_wp2_with (go_at_call 26; with_reducible refine (CH.out _).mono ?_; rintro e _ ⟨rfl, rfl⟩)
        refine hK.out _ _ ?_ (fun hHeld => ?_)
        · exact hHeld
        clear hK K
        try simp only [Act.put, List.setIfInBounds_toArray, List.set_cons_zero, List.set_cons_succ]
        refine held_take (v := ?vv116) 6 rfl (by kernel_rfl) (by kernel_rfl) (by kernel_rfl) (fun _ _ _ h => h) (by rfl) ?yy116 (by assumption) ?nn116
        case yy116 =>
          intro w hSw
          (try dsimp only at hSw)
          go_simp
          try with_reducible rfl
        try simp only [Act.put, List.setIfInBounds_toArray, List.set_cons_zero, List.set_cons_succ]
        refine held_take (v := ?vv117) 7 rfl (by kernel_rfl) (by kernel_rfl) (by kernel_rfl) (fun _ _ _ h => h) (by rfl) ?yy117 (by assumption) ?nn117
        case yy117 =>
          intro w hSw
          (try dsimp only at hSw)
          go_simp
          try with_reducible rfl
        try simp only [Act.put, List.setIfInBounds_toArray, List.set_cons_zero, List.set_cons_succ]
        refine wpAnyH_done (by kernel_rfl) ?_ _
        clear hHeld
        have B3 := Lib.hid (below_trans' B2.out K3.out)
        have XP3 := Lib.hid (XP2.out.below K3.out SP2.out)
        have SP3 := Lib.hid (Nat.lt_of_lt_of_le SP2.out K3.out.size)
        clear B2 XP2 SP2
        obtain ⟨k0, k1, k2, k3, k4, k5, k6, k7, k8, k9, -, -, -, -, -, -, -, -, -, -⟩ := XP3.out
        by_cases hc : hi < 4800
        · have t4 : decide ((hi : Int) < 4800) = true := decide_eq_true (by omega)
          obtain rfl : r = m := by
            rw [← HE.out, HM.out]
            unfold Wig.pbcap
            repeat' split
            all_goals omega
          clear HE HM HHI hc
          clear m1
          go_wp2_with fail
          go_ret
          exact ⟨rfl, B3.out⟩
        · have t4 : decide ((hi : Int) < 4800) = false := decide_eq_false (by omega)
          have hrm : r = max m 4800 := by
            rw [← HE.out, HM.out]
            unfold Wig.pbcap
            repeat' split
            all_goals omega
          have m2 : ∀ ts ty w, (Builtin.max_ ts ty #[.int .u64 (m : Int), .int .u64 4800]).run Tryd.prog w = .ok (.int .u64 (r : Int)) w := by
            intro ts ty w
            rw [run_max_int2, show (if 4800 > (m : Int) then 4800 else (m : Int)) = (r : Int) by split <;> omega]
          clear HE HM HHI hc hrm
          clear m1
          go_wp2_with fail
          go_ret
          exact ⟨rfl, B3.out⟩
      · rw [if_neg h4] at he
        have t3 : (s == 0) = false := by simp [h4]
        clear h4
        obtain ⟨q, hq⟩ : ∃ q, Wig.pbprod ⟨s, ss, lo, la, fu, sl, ro, ph, si, hi⟩ 512 = q := ⟨_, rfl⟩
        obtain ⟨x, hx⟩ : ∃ x, Wig.nheld q = x := ⟨_, rfl⟩
        rw [hq, hx] at he
        have q1 : q < 18446744073709551616 := by rw [← hq]; exact Wig.pbprod_lt _ _
        have CQ := Lib.hid (fun (w0 : World) (hb0 : Below w.heap.size w w0) => (show Calls Tryd.prog 17 #[aggPb s A n c lo la fu sl ro ph si hi, .int .u64 512] w0 fun e w' => e = .returned (.int .u64 (q : Int)) ∧ Below w0.heap.size w0 w' from product_any s A n c lo la fu sl ro ph si hi ss 512 q w0 hok (hR.step hb0) (by decide) hq))
        have CH := Lib.hid (fun w => held_any q x w hx)
        obtain ⟨m, hm⟩ : ∃ m, m = min x hi := ⟨_, rfl⟩
        have m1 : ∀ ts ty w, (Builtin.min_ ts ty #[.int .u64 (x : Int), .int .u64 (hi : Int)]).run Tryd.prog w = .ok (.int .u64 (m : Int)) w := by
          intro ts ty w
          rw [run_min_int2, show (if (hi : Int) < (x : Int) then (hi : Int) else (x : Int)) = (m : Int) by split <;> omega]
        have HM := Lib.hid hm
        have HE := Lib.hid he
        have HHI := Lib.hid hhi
        clear hok hR hq hx q1 hm he hhi
        go_enter Tryd.func19, Tryd.ntmps19
        go_upto_region 1 with fail
        rw [← hw1]
        clear hw1
        obtain ⟨k0, k1, k2, k3, k4, k5, k6, k7, k8, k9, -, -, -, -, -, -, -, -, -, -⟩ := XP1.out
        go_wp2_with fail
        refine (CZ.out _ B1.out).mono ?_
        rintro e w2 ⟨rfl, hb⟩
        have B2 := Lib.hid (below_trans' B1.out hb)
        have XP2 := Lib.hid (XP1.out.below hb SP1.out)
        have SP2 := Lib.hid (Nat.lt_of_lt_of_le SP1.out hb.size)
        clear k0 k1 k2 k3 k4 k5 k6 k7 k8 k9
        clear hb B1 XP1 SP1
        obtain ⟨k0, k1, k2, k3, k4, k5, k6, k7, k8, k9, -, -, -, -, -, -, -, -, -, -⟩ := XP2.out
        go_wp2_with fail
        clear k0 k1 k2 k3 k4 k5 k6 k7 k8 k9
        refine wp_region_held_drew (S := fun wx => BxPb w.heap.size s A n c lo la fu sl ro ph si hi wx ∧ Below w2.heap.size w2 wx) (by kernel_rfl) ?_ (fun hHeld => ?_)
        · exact ⟨XP2.out.drew, (Below.refl _ _).drew⟩
        refine held_take (v := .agg #[.int .i64 s, .slice A n c, .int .u64 (lo : Int), .int .u64 (la : Int), .int .u64 (fu : Int), .int .u64 (sl : Int), .int .u64 (ro : Int), .int .u64 (ph : Int), .int .u64 (si : Int), .int .u64 (hi : Int)]) 0 rfl (by kernel_rfl) (by kernel_rfl) (by kernel_rfl) (fun _ _ _ h => h) (by rfl) (fun wx hSw => by obtain ⟨c0, c1, c2, c3, c4, c5, c6, c7, c8, c9, -, -, -, -, -, -, -, -, -, -⟩ := hSw.1; clear hSw; go_simp) (by assumption) ?_
        try simp only [Act.put, List.setIfInBounds_toArray, List.set_cons_zero, List.set_cons_succ]
        refine held_take (v := ?vv120) 1 rfl (by kernel_rfl) (by kernel_rfl) (by kernel_rfl) (fun _ _ _ h => h) (by rfl) ?yy120 (by assumption) ?nn120
        case yy120 =>
          intro w hSw
          (try dsimp only at hSw)
          go_simp
          try with_reducible rfl
        try simp only [Act.put, List.setIfInBounds_toArray, List.set_cons_zero, List.set_cons_succ]
        refine held_take (v := ?vv121) 4 rfl (by kernel_rfl) (by kernel_rfl) (by kernel_rfl) (fun _ _ _ h => h) (by rfl) ?yy121 (by assumption) ?nn121
        case yy121 =>
          intro w hSw
          (try dsimp only at hSw)
          go_simp
          try with_reducible rfl
        try simp only [Act.put, List.setIfInBounds_toArray, List.set_cons_zero, List.set_cons_succ]
        refine held_take (v := .int .u64 (hi : Int)) 5 rfl (by kernel_rfl) (by kernel_rfl) (by kernel_rfl) (fun _ _ _ h => h) (by rfl) (fun wx hSw => by have c := hSw.1.c9; clear hSw; go_simp) (by assumption) ?_
        try simp only [Act.put, List.setIfInBounds_toArray, List.set_cons_zero, List.set_cons_succ]
        refine held_do 2 rfl (by kernel_rfl) (by rfl) (fun K hK => ?_)
        go_wp2_with (go_at_call 17; refine (CQ.out _ (below_trans' B2.out hHeld.2)).mono ?_; rintro e w3 ⟨rfl, hb3⟩; have K3 := Lib.hid (Below.trans hHeld.2 (hb3.mono hHeld.2.size)); clear hb3)
        refine hK.out _ _ ?_ (fun hHeld => ?_)
        · exact ⟨XP2.out.below K3.out SP2.out, K3.out⟩
        clear hK K
        try simp only [Act.put, List.setIfInBounds_toArray, List.set_cons_zero, List.set_cons_succ]
        refine held_do 3 rfl (by kernel_rfl) (by rfl) (fun K hK => ?_)
        go_wp2_with (go_at_call 26; with_reducible refine (CH.out _).mono ?_; rintro e _ ⟨rfl, rfl⟩)
        refine hK.out _ _ ?_ (fun hHeld => ?_)
        · exact hHeld
        clear hK K
        try simp only [Act.put, List.setIfInBounds_toArray, List.set_cons_zero, List.set_cons_succ]
        refine held_take (v := ?vv125) 6 rfl (by kernel_rfl) (by kernel_rfl) (by kernel_rfl) (fun _ _ _ h => h) (by rfl) ?yy125 (by assumption) ?nn125
        case yy125 =>
          intro w hSw
          (try dsimp only at hSw)
          go_simp
          try with_reducible rfl
        try simp only [Act.put, List.setIfInBounds_toArray, List.set_cons_zero, List.set_cons_succ]
        refine held_take (v := ?vv126) 7 rfl (by kernel_rfl) (by kernel_rfl) (by kernel_rfl) (fun _ _ _ h => h) (by rfl) ?yy126 (by assumption) ?nn126
        case yy126 =>
          intro w hSw
          (try dsimp only at hSw)
          go_simp
          try with_reducible rfl
        try simp only [Act.put, List.setIfInBounds_toArray, List.set_cons_zero, List.set_cons_succ]
        refine wpAnyH_done (by kernel_rfl) ?_ _
        clear hHeld
        have B3 := Lib.hid (below_trans' B2.out K3.out)
        have XP3 := Lib.hid (XP2.out.below K3.out SP2.out)
        have SP3 := Lib.hid (Nat.lt_of_lt_of_le SP2.out K3.out.size)
        clear B2 XP2 SP2
        obtain ⟨k0, k1, k2, k3, k4, k5, k6, k7, k8, k9, -, -, -, -, -, -, -, -, -, -⟩ := XP3.out
        by_cases hc : hi < 4800
        · have t4 : decide ((hi : Int) < 4800) = true := decide_eq_true (by omega)
          obtain rfl : r = m := by
            rw [← HE.out, HM.out]
            unfold Wig.pbcap
            repeat' split
            all_goals omega
          clear HE HM HHI hc
          clear m1
          go_wp2_with fail
          go_ret
          exact ⟨rfl, B3.out⟩
        · have t4 : decide ((hi : Int) < 4800) = false := decide_eq_false (by omega)
          have hrm : r = max m 4800 := by
            rw [← HE.out, HM.out]
            unfold Wig.pbcap
            repeat' split
            all_goals omega
          have m2 : ∀ ts ty w, (Builtin.max_ ts ty #[.int .u64 (m : Int), .int .u64 4800]).run Tryd.prog w = .ok (.int .u64 (r : Int)) w := by
            intro ts ty w
            rw [run_max_int2, show (if 4800 > (m : Int) then 4800 else (m : Int)) = (r : Int) by split <;> omega]
          clear HE HM HHI hc hrm
          clear m1
          go_wp2_with fail
          go_ret
          exact ⟨rfl, B3.out⟩
set_option maxHeartbeats 4000000 in
theorem rwindow_any (s : Int) (A : Option Addr) (n c lo la fu sl ro ph si hi : Nat) (ss : List Wig.Smp) (r : Nat) (w : World) (hok : Wig.Pb.Ok ⟨s, ss, lo, la, fu, sl, ro, ph, si, hi⟩) (hR : Rt w 0 w.heap.size A n ss) (he : Wig.pbwindow ⟨s, ss, lo, la, fu, sl, ro, ph, si, hi⟩ = r) : Calls Tryd.prog 20 #[aggPb s A n c lo la fu sl ro ph si hi] w fun e w' => e = .returned (.int .u64 (r : Int)) ∧ Below w.heap.size w w' := by
  have hhi : hi < 18446744073709551616 := hok.high
  obtain ⟨w1, hw1⟩ : ∃ wx, wx = w.alloc (.cells #[.int .i64 s, .slice A n c, .int .u64 (lo : Int), .int .u64 (la : Int), .int .u64 (fu : Int), .int .u64 (sl : Int), .int .u64 (ro : Int), .int .u64 (ph : Int), .int .u64 (si : Int), .int .u64 (hi : Int)] 26) := ⟨_, rfl⟩
  have z1 : w1.heap.size = w.heap.size + 1 := by rw [hw1]; simp
  have t1 : Below w1.heap.size w1 w1 := Below.refl _ _
  have t0 : Below w.heap.size w w1 := (show Below w.heap.size w w1 by rw [hw1]; exact (Below.refl _ _).alloc (Nat.le_refl _) _).trans (t1.mono (by omega))
  have BN := Lib.hid t0
  have ZN := Lib.hid z1
  have XP := Lib.hid (show BxPb w.heap.size s A n c lo la fu sl ro ph si hi w1 from (show BxPb w.heap.size s A n c lo la fu sl ro ph si hi w1 by rw [hw1]; exact BxPb.new _ s A n c lo la fu sl ro ph si hi).below t1 (by omega))
  clear t0 t1 z1
  have B1 := BN
  have XP1 := XP
  have SP1 := Lib.hid (show w.heap.size < w1.heap.size by have := ZN.out; omega)
  have GP := Lib.hid (show w.heap.size ≤ w.heap.size by omega)
  clear ZN BN XP
  unfold Wig.pbwindow at he
  simp only at he
  by_cases h3 : s = 3
  · rw [if_pos h3] at he
    subst he
    have t1 : (s == 3) = true := by simp [h3]
    clear hok hR hhi h3
    go_enter Tryd.func20, Tryd.ntmps20
    go_upto_region 1 with fail
    rw [← hw1]
    clear hw1
    obtain ⟨k0, k1, k2, k3, k4, k5, k6, k7, k8, k9, -, -, -, -, -, -, -, -, -, -⟩ := XP1.out
    go_wp2_with fail
    go_ret
    exact ⟨rfl, B1.out⟩
  · rw [if_neg h3] at he
    have t1 : (s == 3) = false := by simp [h3]
    obtain ⟨z, hz⟩ : ∃ z, Wig.pbprod ⟨s, ss, lo, la, fu, sl, ro, ph, si, hi⟩ 256 = z := ⟨_, rfl⟩
    rw [hz] at he
    have CZ := Lib.hid (fun (w0 : World) (hb0 : Below w.heap.size w w0) => (show Calls Tryd.prog 18 #[aggPb s A n c lo la fu sl ro ph si hi, .int .u64 256] w0 fun e w' => e = .returned (.int .u64 (z : Int)) ∧ Below w0.heap.size w0 w' from rproduct_any s A n c lo la fu sl ro ph si hi ss 256 z w0 hok (hR.step hb0) (by decide) hz))
    by_cases hz0 : z = 0
    · rw [if_pos hz0] at he
      subst he
      have t2 : ((z : Int) == 0) = true := by simp [hz0]
      clear hok hR hhi h3 hz hz0
      go_enter Tryd.func20, Tryd.ntmps20
      go_upto_region 1 with fail
      rw [← hw1]
      clear hw1
      obtain ⟨k0, k1, k2, k3, k4, k5, k6, k7, k8, k9, -, -, -, -, -, -, -, -, -, -⟩ := XP1.out
      go_wp2_with fail
      refine (CZ.out _ B1.out).mono ?_
      rintro e w2 ⟨rfl, hb⟩
      have B2 := Lib.hid (below_trans' B1.out hb)
      have XP2 := Lib.hid (XP1.out.below hb SP1.out)
      have SP2 := Lib.hid (Nat.lt_of_lt_of_le SP1.out hb.size)
      clear k0 k1 k2 k3 k4 k5 k6 k7 k8 k9
      clear hb B1 XP1 SP1
      go_wp2_with fail
      go_ret
      exact ⟨rfl, B2.out⟩
    · rw [if_neg hz0] at he
      have t2 : ((z : Int) == 0) = false := by simp [hz0]
      clear hz hz0 h3
      by_cases h4 : s = 0
      · rw [if_pos h4] at he
        have t3 : (s == 0) = true := by simp [h4]
        clear h4
        obtain ⟨q, hq⟩ : ∃ q, Wig.pbprod ⟨s, ss, lo, la, fu, sl, ro, ph, si, hi⟩ 739 = q := ⟨_, rfl⟩
        obtain ⟨x, hx⟩ : ∃ x, Wig.nheld q = x := ⟨_, rfl⟩
        rw [hq, hx] at he
        have q1 : q < 18446744073709551616 := by rw [← hq]; exact Wig.pbprod_lt _ _
        have CQ := Lib.hid (fun (w0 : World) (hb0 : Below w.heap.size w w0) => (show Calls Tryd.prog 18 #[aggPb s A n c lo la fu sl ro ph si hi, .int .u64 739] w0 fun e w' => e = .returned (.int .u64 (q : Int)) ∧ Below w0.heap.size w0 w' from rproduct_any s A n c lo la fu sl ro ph si hi ss 739 q w0 hok (hR.step hb0) (by decide) hq))
        have CH := Lib.hid (fun w => rheld_any q x w hx)
        clear hok hR hq hx q1
        go_enter Tryd.func20, Tryd.ntmps20
        go_upto_region 1 with fail
        rw [← hw1]
        clear hw1
        obtain ⟨k0, k1, k2, k3, k4, k5, k6, k7, k8, k9, -, -, -, -, -, -, -, -, -, -⟩ := XP1.out
        go_wp2_with fail
        refine (CZ.out _ B1.out).mono ?_
        rintro e w2 ⟨rfl, hb⟩
        have B2 := Lib.hid (below_trans' B1.out hb)
        have XP2 := Lib.hid (XP1.out.below hb SP1.out)
        have SP2 := Lib.hid (Nat.lt_of_lt_of_le SP1.out hb.size)
        clear k0 k1 k2 k3 k4 k5 k6 k7 k8 k9
        clear hb B1 XP1 SP1
        obtain ⟨k0, k1, k2, k3, k4, k5, k6, k7, k8, k9, -, -, -, -, -, -, -, -, -, -⟩ := XP2.out
        go_wp2_with fail
        refine (CQ.out _ B2.out).mono ?_
        rintro e w3 ⟨rfl, hb⟩
        have B3 := Lib.hid (below_trans' B2.out hb)
        have XP3 := Lib.hid (XP2.out.below hb SP2.out)
        have SP3 := Lib.hid (Nat.lt_of_lt_of_le SP2.out hb.size)
        clear k0 k1 k2 k3 k4 k5 k6 k7 k8 k9
        clear hb B2 XP2 SP2
        obtain ⟨k0, k1, k2, k3, k4, k5, k6, k7, k8, k9, -, -, -, -, -, -, -, -, -, -⟩ := XP3.out
        go_wp2_with fail
        refine (CH.out _).mono ?_
        rintro e _ ⟨rfl, rfl⟩
        by_cases c1 : hi < x
        · have t4 : decide (hi < x) = true := decide_eq_true c1
          have hv : (if hi < x then hi else x) = hi := if_pos c1
          unfold Wig.pbcap at he
          rw [hv] at he
          by_cases c2 : hi < 4800
          · have c3 : ¬ 4800 ≤ hi := by omega
            have t5 : decide ((hi : Int) < 4800) = true := decide_eq_true (by omega)
            have t6 : decide (4800 ≤ (hi : Int)) = false := decide_eq_false (by omega)
            rw [if_neg (by omega)] at he
            subst he
            clear hhi hv c1 c2 c3
            go_wp2_with fail
            go_ret
            exact ⟨rfl, B3.out⟩
          · have t5 : decide ((hi : Int) < 4800) = false := decide_eq_false (by omega)
            rw [if_neg (by omega)] at he
            subst he
            clear hhi hv c1 c2
            go_wp2_with fail
            go_ret
            exact ⟨rfl, B3.out⟩
        · have t4 : decide (hi < x) = false := decide_eq_false c1
          have hv : (if hi < x then hi else x) = x := if_neg c1
          unfold Wig.pbcap at he
          rw [hv] at he
          by_cases c2 : x < 4800
          · by_cases c3 : 4800 ≤ hi
            · have t5 : decide ((x : Int) < 4800) = true := decide_eq_true (by omega)
              have t6 : decide (4800 ≤ (hi : Int)) = true := decide_eq_true (by omega)
              rw [if_pos ⟨c2, c3⟩] at he
              subst he
              clear hhi hv c1 c2 c3
              go_wp2_with fail
              go_ret
              exact ⟨rfl, B3.out⟩
            · have t5 : decide ((x : Int) < 4800) = true := decide_eq_true (by omega)
              have t6 : decide (4800 ≤ (hi : Int)) = false := decide_eq_false (by omega)
              rw [if_neg (by omega)] at he
              subst he
              clear hhi hv c1 c2 c3
              go_wp2_with fail
              go_ret
              exact ⟨rfl, B3.out⟩
          · have t5 : decide ((x : Int) < 4800) = false := decide_eq_false (by omega)
            rw [if_neg (by omega)] at he
            subst he
            clear hhi hv c1 c2
            go_wp2_with fail
            go_ret
            exact ⟨rfl, B3.out⟩
      · rw [if_neg h4] at he
        have t3 : (s == 0) = false := by simp [h4]
        clear h4
        obtain ⟨q, hq⟩ : ∃ q, Wig.pbprod ⟨s, ss, lo, la, fu, sl, ro, ph, si, hi⟩ 512 = q := ⟨_, rfl⟩
        obtain ⟨x, hx⟩ : ∃ x, Wig.nheld q = x := ⟨_, rfl⟩
        rw [hq, hx] at he
        have q1 : q < 18446744073709551616 := by rw [← hq]; exact Wig.pbprod_lt _ _
        have CQ := Lib.hid (fun (w0 : World) (hb0 : Below w.heap.size w w0) => (show Calls Tryd.prog 18 #[aggPb s A n c lo la fu sl ro ph si hi, .int .u64 512] w0 fun e w' => e = .returned (.int .u64 (q : Int)) ∧ Below w0.heap.size w0 w' from rproduct_any s A n c lo la fu sl ro ph si hi ss 512 q w0 hok (hR.step hb0) (by decide) hq))
        have CH := Lib.hid (fun w => rheld_any q x w hx)
        clear hok hR hq hx q1
        go_enter Tryd.func20, Tryd.ntmps20
        go_upto_region 1 with fail
        rw [← hw1]
        clear hw1
        obtain ⟨k0, k1, k2, k3, k4, k5, k6, k7, k8, k9, -, -, -, -, -, -, -, -, -, -⟩ := XP1.out
        go_wp2_with fail
        refine (CZ.out _ B1.out).mono ?_
        rintro e w2 ⟨rfl, hb⟩
        have B2 := Lib.hid (below_trans' B1.out hb)
        have XP2 := Lib.hid (XP1.out.below hb SP1.out)
        have SP2 := Lib.hid (Nat.lt_of_lt_of_le SP1.out hb.size)
        clear k0 k1 k2 k3 k4 k5 k6 k7 k8 k9
        clear hb B1 XP1 SP1
        obtain ⟨k0, k1, k2, k3, k4, k5, k6, k7, k8, k9, -, -, -, -, -, -, -, -, -, -⟩ := XP2.out
        go_wp2_with fail
        refine (CQ.out _ B2.out).mono ?_
        rintro e w3 ⟨rfl, hb⟩
        have B3 := Lib.hid (below_trans' B2.out hb)
        have XP3 := Lib.hid (XP2.out.below hb SP2.out)
        have SP3 := Lib.hid (Nat.lt_of_lt_of_le SP2.out hb.size)
        clear k0 k1 k2 k3 k4 k5 k6 k7 k8 k9
        clear hb B2 XP2 SP2
        obtain ⟨k0, k1, k2, k3, k4, k5, k6, k7, k8, k9, -, -, -, -, -, -, -, -, -, -⟩ := XP3.out
        go_wp2_with fail
        refine (CH.out _).mono ?_
        rintro e _ ⟨rfl, rfl⟩
        by_cases c1 : hi < x
        · have t4 : decide (hi < x) = true := decide_eq_true c1
          have hv : (if hi < x then hi else x) = hi := if_pos c1
          unfold Wig.pbcap at he
          rw [hv] at he
          by_cases c2 : hi < 4800
          · have c3 : ¬ 4800 ≤ hi := by omega
            have t5 : decide ((hi : Int) < 4800) = true := decide_eq_true (by omega)
            have t6 : decide (4800 ≤ (hi : Int)) = false := decide_eq_false (by omega)
            rw [if_neg (by omega)] at he
            subst he
            clear hhi hv c1 c2 c3
            go_wp2_with fail
            go_ret
            exact ⟨rfl, B3.out⟩
          · have t5 : decide ((hi : Int) < 4800) = false := decide_eq_false (by omega)
            rw [if_neg (by omega)] at he
            subst he
            clear hhi hv c1 c2
            go_wp2_with fail
            go_ret
            exact ⟨rfl, B3.out⟩
        · have t4 : decide (hi < x) = false := decide_eq_false c1
          have hv : (if hi < x then hi else x) = x := if_neg c1
          unfold Wig.pbcap at he
          rw [hv] at he
          by_cases c2 : x < 4800
          · by_cases c3 : 4800 ≤ hi
            · have t5 : decide ((x : Int) < 4800) = true := decide_eq_true (by omega)
              have t6 : decide (4800 ≤ (hi : Int)) = true := decide_eq_true (by omega)
              rw [if_pos ⟨c2, c3⟩] at he
              subst he
              clear hhi hv c1 c2 c3
              go_wp2_with fail
              go_ret
              exact ⟨rfl, B3.out⟩
            · have t5 : decide ((x : Int) < 4800) = true := decide_eq_true (by omega)
              have t6 : decide (4800 ≤ (hi : Int)) = false := decide_eq_false (by omega)
              rw [if_neg (by omega)] at he
              subst he
              clear hhi hv c1 c2 c3
              go_wp2_with fail
              go_ret
              exact ⟨rfl, B3.out⟩
          · have t5 : decide ((x : Int) < 4800) = false := decide_eq_false (by omega)
            rw [if_neg (by omega)] at he
            subst he
            clear hhi hv c1 c2
            go_wp2_with fail
            go_ret
            exact ⟨rfl, B3.out⟩
theorem pbpart_eq (ph : Nat) : Wig.pbpart ph = if ph % 8 = 0 then 320 else if ph % 8 = 1 then 192 else 256 := rfl
/-- What of the best rate a State sends by. -/
def rpart (s : Int) (ph : Nat) : Nat := if s = 0 then 739 else if s = 1 then 89 else if s = 2 then Wig.pbpart ph else 256
theorem rpart_lt (s : Int) (ph : Nat) : rpart s ph < 18446744073709551616 := by unfold rpart Wig.pbpart; (repeat' split) <;> omega
set_option maxHeartbeats 1000000 in
theorem parts_any (s : Int) (A : Option Addr) (n c lo la fu sl ro ph si hi k : Nat) (w : World) (hT : Tab w) (he : rpart s ph = k) : Calls Tryd.prog 39 #[aggPb s A n c lo la fu sl ro ph si hi] w fun e w' => e = .returned (.int .u64 (k : Int)) ∧ Below w.heap.size w w' := by
  obtain ⟨w1, hw1⟩ : ∃ wx, wx = w.alloc (.cells #[.int .i64 s, .slice A n c, .int .u64 (lo : Int), .int .u64 (la : Int), .int .u64 (fu : Int), .int .u64 (sl : Int), .int .u64 (ro : Int), .int .u64 (ph : Int), .int .u64 (si : Int), .int .u64 (hi : Int)] 26) := ⟨_, rfl⟩
  have z1 : w1.heap.size = w.heap.size + 1 := by rw [hw1]; simp
  have t1 : Below w1.heap.size w1 w1 := Below.refl _ _
  have t0 : Below w.heap.size w w1 := (show Below w.heap.size w w1 by rw [hw1]; exact (Below.refl _ _).alloc (Nat.le_refl _) _).trans (t1.mono (by omega))
  have BN := Lib.hid t0
  have ZN := Lib.hid z1
  have XP := Lib.hid (show BxPb w.heap.size s A n c lo la fu sl ro ph si hi w1 from (show BxPb w.heap.size s A n c lo la fu sl ro ph si hi w1 by rw [hw1]; exact BxPb.new _ s A n c lo la fu sl ro ph si hi).below t1 (by omega))
  clear t0 t1 z1
  have B1 := BN
  have XP1 := XP
  have SP1 := Lib.hid (show w.heap.size < w1.heap.size by have := ZN.out; omega)
  have GP := Lib.hid (show w.heap.size ≤ w.heap.size by omega)
  clear ZN BN XP
  unfold rpart at he
  by_cases h1 : s = 0
  · have t1 : (s == 0) = true := by simp [h1]
    rw [if_pos h1] at he
    subst he
    clear hT h1
    go_enter Tryd.func39, Tryd.ntmps39
    go_upto_region 1 with fail
    rw [← hw1]
    clear hw1
    obtain ⟨k0, k1, k2, k3, k4, k5, k6, k7, k8, k9, -, -, -, -, -, -, -, -, -, -⟩ := XP1.out
    go_wp2_with fail
    go_ret
    exact ⟨rfl, B1.out⟩
  · by_cases h2 : s = 1
    · have t1 : (s == 0) = false := by simp [h1]
      have t2 : (s == 1) = true := by simp [h2]
      rw [if_neg h1, if_pos h2] at he
      subst he
      clear hT h1 h2
      go_enter Tryd.func39, Tryd.ntmps39
      go_upto_region 1 with fail
      rw [← hw1]
      clear hw1
      obtain ⟨k0, k1, k2, k3, k4, k5, k6, k7, k8, k9, -, -, -, -, -, -, -, -, -, -⟩ := XP1.out
      go_wp2_with fail
      go_ret
      exact ⟨rfl, B1.out⟩
    · by_cases h3 : s = 2
      · have t1 : (s == 0) = false := by simp [h1]
        have t2 : (s == 1) = false := by simp [h2]
        have t3 : (s == 2) = true := by simp [h3]
        rw [if_neg h1, if_neg h2, if_pos h3, pbpart_eq] at he
        obtain ⟨q, hq⟩ : ∃ q, q = ph % 8 := ⟨_, rfl⟩
        have hq8 : q < 8 := by omega
        have e1 : (ph : Int) % 8 = (q : Int) := by omega
        have e2 : ((ph : Int)).tmod 8 = (q : Int) := by rw [Int.tmod_eq_emod_of_nonneg (by omega)]; omega
        have e3 : IntKind.u64.wrap (q : Int) = (q : Int) := by rw [IntKind.wrap_u64]; omega
        have i0 : (0 : Int) ≤ (q : Int) := by omega
        have i1 : (q : Int) < 8 := by omega
        have hk : (if q = 0 then 320 else if q = 1 then 192 else 256) = k := by rw [hq]; exact he
        have kq := (hT.below B1.out).at_ q hq8
        rw [hk] at kq
        clear hk hT he hq hq8 h1 h2 h3
        go_enter Tryd.func39, Tryd.ntmps39
        go_upto_region 1 with fail
        rw [← hw1]
        clear hw1
        obtain ⟨k0, k1, k2, k3, k4, k5, k6, k7, k8, k9, -, -, -, -, -, -, -, -, -, -⟩ := XP1.out
        go_wp2_with fail
        go_ret
        exact ⟨rfl, B1.out⟩
      · have t1 : (s == 0) = false := by simp [h1]
        have t2 : (s == 1) = false := by simp [h2]
        have t3 : (s == 2) = false := by simp [h3]
        rw [if_neg h1, if_neg h2, if_neg h3] at he
        subst he
        clear hT h1 h2 h3
        go_enter Tryd.func39, Tryd.ntmps39
        go_upto_region 1 with fail
        rw [← hw1]
        clear hw1
        obtain ⟨k0, k1, k2, k3, k4, k5, k6, k7, k8, k9, -, -, -, -, -, -, -, -, -, -⟩ := XP1.out
        go_wp2_with fail
        go_ret
        exact ⟨rfl, B1.out⟩
theorem rpart_any (ph k : Nat) (w : World) (he : Wig.pbpart ph = k) : Calls Tryd.prog 40 #[.int .u64 (ph : Int)] w fun e w' => e = .returned (.int .u64 (k : Int)) ∧ w = w' := by
  rw [pbpart_eq] at he
  obtain ⟨q, hq⟩ : ∃ q, q = ph % 8 := ⟨_, rfl⟩
  have e1 : (ph : Int) % 8 = (q : Int) := by omega
  have e3 : IntKind.u64.wrap (q : Int) = (q : Int) := by rw [IntKind.wrap_u64]; omega
  rw [← hq] at he
  clear hq
  by_cases h1 : q = 0
  · rw [if_pos h1] at he
    subst he
    have t1 : ((q : Int) == 0) = true := by simp [h1]
    clear h1
    go_enter Tryd.func40, Tryd.ntmps40
    go_wp2_with fail
    go_ret
    exact ⟨rfl, rfl⟩
  · have t1 : ((q : Int) == 0) = false := by simp [h1]
    by_cases h2 : q = 1
    · rw [if_neg h1, if_pos h2] at he
      subst he
      have t2 : ((q : Int) == 1) = true := by simp [h2]
      clear h1 h2
      go_enter Tryd.func40, Tryd.ntmps40
      go_wp2_with fail
      go_ret
      exact ⟨rfl, rfl⟩
    · rw [if_neg h1, if_neg h2] at he
      subst he
      have t2 : ((q : Int) == 1) = false := by simp; omega
      clear h1 h2
      go_enter Tryd.func40, Tryd.ntmps40
      go_wp2_with fail
      go_ret
      exact ⟨rfl, rfl⟩
theorem pbrate_eq (s : Int) (lo la fu sl ro ph si hi : Nat) (ss : List Wig.Smp) : Wig.pbrate ⟨s, ss, lo, la, fu, sl, ro, ph, si, hi⟩ = if Wig.best ss = 0 then Wig.fmuldiv 12000 1000 333 else Wig.fgain (Wig.best ss) (rpart s ph) := by
  unfold Wig.pbrate rpart
  simp only
  repeat' split
  all_goals rfl
set_option maxHeartbeats 1000000 in
theorem rate_any (s : Int) (A : Option Addr) (n c lo la fu sl ro ph si hi : Nat) (ss : List Wig.Smp) (r : Nat) (w : World) (hok : Wig.Pb.Ok ⟨s, ss, lo, la, fu, sl, ro, ph, si, hi⟩) (hR : Rt w 0 w.heap.size A n ss) (hT : Tab w) (he : Wig.pbrate ⟨s, ss, lo, la, fu, sl, ro, ph, si, hi⟩ = r) : Calls Tryd.prog 21 #[aggPb s A n c lo la fu sl ro ph si hi] w fun e w' => e = .returned (.int .u64 (r : Int)) ∧ Below w.heap.size w w' := by
  obtain ⟨w1, hw1⟩ : ∃ wx, wx = w.alloc (.cells #[.int .i64 s, .slice A n c, .int .u64 (lo : Int), .int .u64 (la : Int), .int .u64 (fu : Int), .int .u64 (sl : Int), .int .u64 (ro : Int), .int .u64 (ph : Int), .int .u64 (si : Int), .int .u64 (hi : Int)] 26) := ⟨_, rfl⟩
  have z1 : w1.heap.size = w.heap.size + 1 := by rw [hw1]; simp
  have t1 : Below w1.heap.size w1 w1 := Below.refl _ _
  have t0 : Below w.heap.size w w1 := (show Below w.heap.size w w1 by rw [hw1]; exact (Below.refl _ _).alloc (Nat.le_refl _) _).trans (t1.mono (by omega))
  have BN := Lib.hid t0
  have ZN := Lib.hid z1
  have XP := Lib.hid (show BxPb w.heap.size s A n c lo la fu sl ro ph si hi w1 from (show BxPb w.heap.size s A n c lo la fu sl ro ph si hi w1 by rw [hw1]; exact BxPb.new _ s A n c lo la fu sl ro ph si hi).below t1 (by omega))
  clear t0 t1 z1
  have B1 := BN
  have XP1 := XP
  have SP1 := Lib.hid (show w.heap.size < w1.heap.size by have := ZN.out; omega)
  have GP := Lib.hid (show w.heap.size ≤ w.heap.size by omega)
  clear ZN BN XP
  rw [pbrate_eq] at he
  obtain ⟨b, hb⟩ : ∃ b, Wig.best ss = b := ⟨_, rfl⟩
  rw [hb] at he
  have b1 : b < 18446744073709551616 := by rw [← hb]; exact Wig.best_le hok.rates
  have CB := Lib.hid (fun (w0 : World) (hb0 : Below w.heap.size w w0) => (show Calls Tryd.prog 23 #[.slice A n c] w0 fun e w' => e = .returned (.int .u64 (b : Int)) ∧ w0 = w' from best_rt ss n b A c w0 (hR.step hb0) hb))
  by_cases h0 : b = 0
  · rw [if_pos h0] at he
    have t1 : ((b : Int) == 0) = true := by simp [h0]
    have CM := Lib.hid (fun w => (show Calls Tryd.prog 35 #[.int .u64 12000, .int .u64 1000, .int .u64 333] w fun e w' => e = .returned (.int .u64 (r : Int)) ∧ Below w.heap.size w w' by rw [← he]; exact drew_below (muldiv_any 12000 1000 333 w (by decide) (by decide) (by decide))))
    clear hok hR hT hb b1 h0 he
    go_enter Tryd.func21, Tryd.ntmps21
    go_upto_region 1 with fail
    rw [← hw1]
    clear hw1
    obtain ⟨k0, k1, k2, k3, k4, k5, k6, k7, k8, k9, -, -, -, -, -, -, -, -, -, -⟩ := XP1.out
    go_wp2_with fail
    refine (CB.out _ B1.out).mono ?_
    rintro e _ ⟨rfl, rfl⟩
    go_wp2_with fail
    refine (CM.out _).mono ?_
    rintro e w2 ⟨rfl, hb⟩
    have B2 := Lib.hid (below_trans' B1.out hb)
    have XP2 := Lib.hid (XP1.out.below hb SP1.out)
    have SP2 := Lib.hid (Nat.lt_of_lt_of_le SP1.out hb.size)
    clear k0 k1 k2 k3 k4 k5 k6 k7 k8 k9
    clear hb B1 XP1 SP1
    go_wp2_with fail
    go_ret
    exact ⟨rfl, B2.out⟩
  · rw [if_neg h0] at he
    have t1 : ((b : Int) == 0) = false := by simp [h0]
    obtain ⟨k, hk⟩ : ∃ k, rpart s ph = k := ⟨_, rfl⟩
    rw [hk] at he
    have CK := Lib.hid (fun (w0 : World) (hb0 : Below w.heap.size w w0) => (show Calls Tryd.prog 39 #[aggPb s A n c lo la fu sl ro ph si hi] w0 fun e w' => e = .returned (.int .u64 (k : Int)) ∧ Below w0.heap.size w0 w' from parts_any s A n c lo la fu sl ro ph si hi k w0 (hT.below hb0) hk))
    have CG := Lib.hid (fun w => (show Calls Tryd.prog 37 #[.int .u64 (b : Int), .int .u64 (k : Int)] w fun e w' => e = .returned (.int .u64 (r : Int)) ∧ Below w.heap.size w w' by rw [← he]; exact drew_below (gain_any b k w b1 (by rw [← hk]; exact rpart_lt _ _))))
    clear hok hR hT hb b1 h0 he hk
    go_enter Tryd.func21, Tryd.ntmps21
    go_upto_region 1 with fail
    rw [← hw1]
    clear hw1
    obtain ⟨k0, k1, k2, k3, k4, k5, k6, k7, k8, k9, -, -, -, -, -, -, -, -, -, -⟩ := XP1.out
    go_wp2_with fail
    refine (CB.out _ B1.out).mono ?_
    rintro e _ ⟨rfl, rfl⟩
    go_wp2_with fail
    refine (CK.out _ B1.out).mono ?_
    rintro e w2 ⟨rfl, hb⟩
    have B2 := Lib.hid (below_trans' B1.out hb)
    have XP2 := Lib.hid (XP1.out.below hb SP1.out)
    have SP2 := Lib.hid (Nat.lt_of_lt_of_le SP1.out hb.size)
    clear k0 k1 k2 k3 k4 k5 k6 k7 k8 k9
    clear hb B1 XP1 SP1
    go_wp2_with fail
    refine (CG.out _).mono ?_
    rintro e w3 ⟨rfl, hb⟩
    have B3 := Lib.hid (below_trans' B2.out hb)
    have XP3 := Lib.hid (XP2.out.below hb SP2.out)
    have SP3 := Lib.hid (Nat.lt_of_lt_of_le SP2.out hb.size)
    clear hb B2 XP2 SP2
    go_wp2_with fail
    go_ret
    exact ⟨rfl, B3.out⟩
set_option maxHeartbeats 2000000 in
theorem rrate_any (s : Int) (A : Option Addr) (n c lo la fu sl ro ph si hi : Nat) (ss : List Wig.Smp) (r : Nat) (w : World) (hok : Wig.Pb.Ok ⟨s, ss, lo, la, fu, sl, ro, ph, si, hi⟩) (hR : Rt w 0 w.heap.size A n ss) (he : Wig.pbrate ⟨s, ss, lo, la, fu, sl, ro, ph, si, hi⟩ = r) : Calls Tryd.prog 22 #[aggPb s A n c lo la fu sl ro ph si hi] w fun e w' => e = .returned (.int .u64 (r : Int)) ∧ Below w.heap.size w w' := by
  obtain ⟨w1, hw1⟩ : ∃ wx, wx = w.alloc (.cells #[.int .i64 s, .slice A n c, .int .u64 (lo : Int), .int .u64 (la : Int), .int .u64 (fu : Int), .int .u64 (sl : Int), .int .u64 (ro : Int), .int .u64 (ph : Int), .int .u64 (si : Int), .int .u64 (hi : Int)] 26) := ⟨_, rfl⟩
  have z1 : w1.heap.size = w.heap.size + 1 := by rw [hw1]; simp
  have t1 : Below w1.heap.size w1 w1 := Below.refl _ _
  have t0 : Below w.heap.size w w1 := (show Below w.heap.size w w1 by rw [hw1]; exact (Below.refl _ _).alloc (Nat.le_refl _) _).trans (t1.mono (by omega))
  have BN := Lib.hid t0
  have ZN := Lib.hid z1
  have XP := Lib.hid (show BxPb w.heap.size s A n c lo la fu sl ro ph si hi w1 from (show BxPb w.heap.size s A n c lo la fu sl ro ph si hi w1 by rw [hw1]; exact BxPb.new _ s A n c lo la fu sl ro ph si hi).below t1 (by omega))
  clear t0 t1 z1
  have B1 := BN
  have XP1 := XP
  have SP1 := Lib.hid (show w.heap.size < w1.heap.size by have := ZN.out; omega)
  have GP := Lib.hid (show w.heap.size ≤ w.heap.size by omega)
  clear ZN BN XP
  unfold Wig.pbrate at he
  simp only at he
  obtain ⟨b, hb⟩ : ∃ b, Wig.best ss = b := ⟨_, rfl⟩
  rw [hb] at he
  have b1 : b < 18446744073709551616 := by rw [← hb]; exact Wig.best_le hok.rates
  have CB := Lib.hid (fun (w0 : World) (hb0 : Below w.heap.size w w0) => (show Calls Tryd.prog 31 #[aggPb s A n c lo la fu sl ro ph si hi] w0 fun e w' => e = .returned (.int .u64 (b : Int)) ∧ Below w0.heap.size w0 w' from rbestp_any s A n c lo la fu sl ro ph si hi ss b w0 hok (hR.step hb0) hb))
  clear hok hR hb
  by_cases h0 : b = 0
  · rw [if_pos h0] at he
    have t0 : ((b : Int) == 0) = true := by simp [h0]
    have CM := Lib.hid (fun w => (show Calls Tryd.prog 36 #[.int .u64 12000, .int .u64 1000, .int .u64 333] w fun e w' => e = .returned (.int .u64 (r : Int)) ∧ w = w' by rw [← he]; exact rmuldiv_any 12000 1000 333 w (by decide) (by decide) (by decide)))
    clear b1 h0 he
    go_enter Tryd.func22, Tryd.ntmps22
    go_upto_region 1 with fail
    rw [← hw1]
    clear hw1
    obtain ⟨k0, k1, k2, k3, k4, k5, k6, k7, k8, k9, -, -, -, -, -, -, -, -, -, -⟩ := XP1.out
    go_wp2_with fail
    refine (CB.out _ B1.out).mono ?_
    rintro e w2 ⟨rfl, hb⟩
    have B2 := Lib.hid (below_trans' B1.out hb)
    have XP2 := Lib.hid (XP1.out.below hb SP1.out)
    have SP2 := Lib.hid (Nat.lt_of_lt_of_le SP1.out hb.size)
    clear k0 k1 k2 k3 k4 k5 k6 k7 k8 k9
    clear hb B1 XP1 SP1
    go_wp2_with fail
    refine (CM.out _).mono ?_
    rintro e _ ⟨rfl, rfl⟩
    go_wp2_with fail
    go_ret
    exact ⟨rfl, B2.out⟩
  · have t0 : ((b : Int) == 0) = false := by simp [h0]
    rw [if_neg h0] at he
    clear h0
    by_cases h1 : s = 0
    · have t1 : (s == 0) = true := by simp [h1]
      rw [if_pos h1] at he
      clear h1
      have CG := Lib.hid (fun w => (show Calls Tryd.prog 38 #[.int .u64 (b : Int), .int .u64 739] w fun e w' => e = .returned (.int .u64 (r : Int)) ∧ w = w' by rw [← he]; exact rgain_any b 739 w b1 (by decide)))
      clear b1 he
      go_enter Tryd.func22, Tryd.ntmps22
      go_upto_region 1 with fail
      rw [← hw1]
      clear hw1
      obtain ⟨k0, k1, k2, k3, k4, k5, k6, k7, k8, k9, -, -, -, -, -, -, -, -, -, -⟩ := XP1.out
      go_wp2_with fail
      refine (CB.out _ B1.out).mono ?_
      rintro e w2 ⟨rfl, hb⟩
      have B2 := Lib.hid (below_trans' B1.out hb)
      have XP2 := Lib.hid (XP1.out.below hb SP1.out)
      have SP2 := Lib.hid (Nat.lt_of_lt_of_le SP1.out hb.size)
      clear k0 k1 k2 k3 k4 k5 k6 k7 k8 k9
      clear hb B1 XP1 SP1
      obtain ⟨k0, k1, k2, k3, k4, k5, k6, k7, k8, k9, -, -, -, -, -, -, -, -, -, -⟩ := XP2.out
      go_wp2_with fail
      refine (CB.out _ B2.out).mono ?_
      rintro e w3 ⟨rfl, hb⟩
      have B3 := Lib.hid (below_trans' B2.out hb)
      have XP3 := Lib.hid (XP2.out.below hb SP2.out)
      have SP3 := Lib.hid (Nat.lt_of_lt_of_le SP2.out hb.size)
      clear k0 k1 k2 k3 k4 k5 k6 k7 k8 k9
      clear hb B2 XP2 SP2
      obtain ⟨k0, k1, k2, k3, k4, k5, k6, k7, k8, k9, -, -, -, -, -, -, -, -, -, -⟩ := XP3.out
      go_wp2_with fail
      refine (CG.out _).mono ?_
      rintro e _ ⟨rfl, rfl⟩
      go_wp2_with fail
      go_ret
      exact ⟨rfl, B3.out⟩
    · by_cases h2 : s = 1
      · have t1 : (s == 0) = false := by simp [h1]
        have t2 : (s == 1) = true := by simp [h2]
        rw [if_neg h1, if_pos h2] at he
        clear h1 h2
        have CG := Lib.hid (fun w => (show Calls Tryd.prog 38 #[.int .u64 (b : Int), .int .u64 89] w fun e w' => e = .returned (.int .u64 (r : Int)) ∧ w = w' by rw [← he]; exact rgain_any b 89 w b1 (by decide)))
        clear b1 he
        go_enter Tryd.func22, Tryd.ntmps22
        go_upto_region 1 with fail
        rw [← hw1]
        clear hw1
        obtain ⟨k0, k1, k2, k3, k4, k5, k6, k7, k8, k9, -, -, -, -, -, -, -, -, -, -⟩ := XP1.out
        go_wp2_with fail
        refine (CB.out _ B1.out).mono ?_
        rintro e w2 ⟨rfl, hb⟩
        have B2 := Lib.hid (below_trans' B1.out hb)
        have XP2 := Lib.hid (XP1.out.below hb SP1.out)
        have SP2 := Lib.hid (Nat.lt_of_lt_of_le SP1.out hb.size)
        clear k0 k1 k2 k3 k4 k5 k6 k7 k8 k9
        clear hb B1 XP1 SP1
        obtain ⟨k0, k1, k2, k3, k4, k5, k6, k7, k8, k9, -, -, -, -, -, -, -, -, -, -⟩ := XP2.out
        go_wp2_with fail
        refine (CB.out _ B2.out).mono ?_
        rintro e w3 ⟨rfl, hb⟩
        have B3 := Lib.hid (below_trans' B2.out hb)
        have XP3 := Lib.hid (XP2.out.below hb SP2.out)
        have SP3 := Lib.hid (Nat.lt_of_lt_of_le SP2.out hb.size)
        clear k0 k1 k2 k3 k4 k5 k6 k7 k8 k9
        clear hb B2 XP2 SP2
        obtain ⟨k0, k1, k2, k3, k4, k5, k6, k7, k8, k9, -, -, -, -, -, -, -, -, -, -⟩ := XP3.out
        go_wp2_with fail
        refine (CG.out _).mono ?_
        rintro e _ ⟨rfl, rfl⟩
        go_wp2_with fail
        go_ret
        exact ⟨rfl, B3.out⟩
      · by_cases h3 : s = 2
        · have t1 : (s == 0) = false := by simp [h1]
          have t2 : (s == 1) = false := by simp [h2]
          have t3 : (s == 2) = true := by simp [h3]
          rw [if_neg h1, if_neg h2, if_pos h3] at he
          obtain ⟨k, hk⟩ : ∃ k, Wig.pbpart ph = k := ⟨_, rfl⟩
          rw [hk] at he
          have CK := Lib.hid (fun w => rpart_any ph k w hk)
          have CG := Lib.hid (fun w => (show Calls Tryd.prog 38 #[.int .u64 (b : Int), .int .u64 (k : Int)] w fun e w' => e = .returned (.int .u64 (r : Int)) ∧ w = w' by rw [← he]; exact rgain_any b k w b1 (by rw [← hk]; unfold Wig.pbpart; (repeat' split) <;> omega)))
          clear b1 he hk h1 h2 h3
          go_enter Tryd.func22, Tryd.ntmps22
          go_upto_region 1 with fail
          rw [← hw1]
          clear hw1
          obtain ⟨k0, k1, k2, k3, k4, k5, k6, k7, k8, k9, -, -, -, -, -, -, -, -, -, -⟩ := XP1.out
          go_wp2_with fail
          refine (CB.out _ B1.out).mono ?_
          rintro e w2 ⟨rfl, hb⟩
          have B2 := Lib.hid (below_trans' B1.out hb)
          have XP2 := Lib.hid (XP1.out.below hb SP1.out)
          have SP2 := Lib.hid (Nat.lt_of_lt_of_le SP1.out hb.size)
          clear k0 k1 k2 k3 k4 k5 k6 k7 k8 k9
          clear hb B1 XP1 SP1
          obtain ⟨k0, k1, k2, k3, k4, k5, k6, k7, k8, k9, -, -, -, -, -, -, -, -, -, -⟩ := XP2.out
          go_wp2_with fail
          clear k0 k1 k2 k3 k4 k5 k6 k7 k8 k9
          refine wp_region_held_drew (S := fun wx => BxPb w.heap.size s A n c lo la fu sl ro ph si hi wx ∧ Below w2.heap.size w2 wx) (by kernel_rfl) ?_ (fun hHeld => ?_)
          · exact ⟨XP2.out.drew, (Below.refl _ _).drew⟩
          refine held_take (v := .agg #[.int .i64 s, .slice A n c, .int .u64 (lo : Int), .int .u64 (la : Int), .int .u64 (fu : Int), .int .u64 (sl : Int), .int .u64 (ro : Int), .int .u64 (ph : Int), .int .u64 (si : Int), .int .u64 (hi : Int)]) 0 rfl (by kernel_rfl) (by kernel_rfl) (by kernel_rfl) (fun _ _ _ h => h) (by rfl) (fun wx hSw => by obtain ⟨c0, c1, c2, c3, c4, c5, c6, c7, c8, c9, -, -, -, -, -, -, -, -, -, -⟩ := hSw.1; clear hSw; go_simp) (by assumption) ?_
          try simp only [Act.put, List.setIfInBounds_toArray, List.set_cons_zero, List.set_cons_succ]
          refine held_take (v := ?vv129) 2 rfl (by kernel_rfl) (by kernel_rfl) (by kernel_rfl) (fun _ _ _ h => h) (by rfl) ?yy129 (by assumption) ?nn129
          case yy129 =>
            intro w hSw
            (try dsimp only at hSw)
            go_simp
            try with_reducible rfl
          try simp only [Act.put, List.setIfInBounds_toArray, List.set_cons_zero, List.set_cons_succ]
          refine held_take (v := .int .u64 (ph : Int)) 3 rfl (by kernel_rfl) (by kernel_rfl) (by kernel_rfl) (fun _ _ _ h => h) (by rfl) (fun wx hSw => by have c := hSw.1.c7; clear hSw; go_simp) (by assumption) ?_
          try simp only [Act.put, List.setIfInBounds_toArray, List.set_cons_zero, List.set_cons_succ]
          refine held_do 1 rfl (by kernel_rfl) (by rfl) (fun K hK => ?_)
          go_wp2_with (go_at_call 31; refine (CB.out _ (below_trans' B2.out hHeld.2)).mono ?_; rintro e w3 ⟨rfl, hb3⟩; have K3 := Lib.hid (Below.trans hHeld.2 (hb3.mono hHeld.2.size)); clear hb3)
          refine hK.out _ _ ?_ (fun hHeld => ?_)
          · exact ⟨XP2.out.below K3.out SP2.out, K3.out⟩
          clear hK K
          try simp only [Act.put, List.setIfInBounds_toArray, List.set_cons_zero, List.set_cons_succ]
          refine held_do 4 rfl (by kernel_rfl) (by rfl) (fun K hK => ?_)
          go_wp2_with (go_at_call 40; with_reducible refine (CK.out _).mono ?_; rintro e _ ⟨rfl, rfl⟩)
          refine hK.out _ _ ?_ (fun hHeld => ?_)
          · exact hHeld
          clear hK K
          try simp only [Act.put, List.setIfInBounds_toArray, List.set_cons_zero, List.set_cons_succ]
          refine held_do 5 rfl (by kernel_rfl) (by rfl) (fun K hK => ?_)
          go_wp2_with (go_at_call 38; with_reducible refine (CG.out _).mono ?_; rintro e _ ⟨rfl, rfl⟩)
          refine hK.out _ _ ?_ (fun hHeld => ?_)
          · exact hHeld
          clear hK K
          try simp only [Act.put, List.setIfInBounds_toArray, List.set_cons_zero, List.set_cons_succ]
          refine held_take (v := ?vv134) 6 rfl (by kernel_rfl) (by kernel_rfl) (by kernel_rfl) (fun _ _ _ h => h) (by rfl) ?yy134 (by assumption) ?nn134
          case yy134 =>
            intro w hSw
            (try dsimp only at hSw)
            go_simp
            try with_reducible rfl
          try simp only [Act.put, List.setIfInBounds_toArray, List.set_cons_zero, List.set_cons_succ]
          refine wpAnyH_done (by kernel_rfl) ?_ _
          clear hHeld
          have B3 := Lib.hid (below_trans' B2.out K3.out)
          have XP3 := Lib.hid (XP2.out.below K3.out SP2.out)
          have SP3 := Lib.hid (Nat.lt_of_lt_of_le SP2.out K3.out.size)
          clear B2 XP2 SP2
          go_wp2_with fail
          go_ret
          exact ⟨rfl, B3.out⟩
        · have t1 : (s == 0) = false := by simp [h1]
          have t2 : (s == 1) = false := by simp [h2]
          have t3 : (s == 2) = false := by simp [h3]
          rw [if_neg h1, if_neg h2, if_neg h3] at he
          clear h1 h2 h3
          have CG := Lib.hid (fun w => (show Calls Tryd.prog 38 #[.int .u64 (b : Int), .int .u64 256] w fun e w' => e = .returned (.int .u64 (r : Int)) ∧ w = w' by rw [← he]; exact rgain_any b 256 w b1 (by decide)))
          clear b1 he
          go_enter Tryd.func22, Tryd.ntmps22
          go_upto_region 1 with fail
          rw [← hw1]
          clear hw1
          obtain ⟨k0, k1, k2, k3, k4, k5, k6, k7, k8, k9, -, -, -, -, -, -, -, -, -, -⟩ := XP1.out
          go_wp2_with fail
          refine (CB.out _ B1.out).mono ?_
          rintro e w2 ⟨rfl, hb⟩
          have B2 := Lib.hid (below_trans' B1.out hb)
          have XP2 := Lib.hid (XP1.out.below hb SP1.out)
          have SP2 := Lib.hid (Nat.lt_of_lt_of_le SP1.out hb.size)
          clear k0 k1 k2 k3 k4 k5 k6 k7 k8 k9
          clear hb B1 XP1 SP1
          obtain ⟨k0, k1, k2, k3, k4, k5, k6, k7, k8, k9, -, -, -, -, -, -, -, -, -, -⟩ := XP2.out
          go_wp2_with fail
          refine (CB.out _ B2.out).mono ?_
          rintro e w3 ⟨rfl, hb⟩
          have B3 := Lib.hid (below_trans' B2.out hb)
          have XP3 := Lib.hid (XP2.out.below hb SP2.out)
          have SP3 := Lib.hid (Nat.lt_of_lt_of_le SP2.out hb.size)
          clear k0 k1 k2 k3 k4 k5 k6 k7 k8 k9
          clear hb B2 XP2 SP2
          obtain ⟨k0, k1, k2, k3, k4, k5, k6, k7, k8, k9, -, -, -, -, -, -, -, -, -, -⟩ := XP3.out
          go_wp2_with fail
          refine (CG.out _).mono ?_
          rintro e _ ⟨rfl, rfl⟩
          go_wp2_with fail
          go_ret
          exact ⟨rfl, B3.out⟩
end Go.Proofs.YtjojnbeflongkaaDoor
