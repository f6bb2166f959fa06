/-
  What package cubic's New, Collapse, elder and the closure of Target return, package reno's Held, and the document's New, Collapse, cube and Held, for all numbers of 64 bits. No condition.
-/
import Derived.Test.YtjnkmghlhihjkaaCubM
import Derived.Test.YtjnkmghlhihjkaaFixSub
import Derived.Test.YtjnkmghlhihjkaaFixRd
import Derived.Test.YtjnkmghlhihjkaaFixCb
import Derived.Test.YtjnkmghlhihjkaaBxC
import Derived.Laws.StructEq
import Derived.Laws.EntriesVeiled
import Derived.Deep.DeepCutAuto
namespace Go.Proofs.Ytjnkmghlhihjkaa
open Go.ChangeShapes Go.WideShapes Go.ChangeAt Go.RowKit
set_option linter.unusedVariables false

theorem quiet_eq {P : Program} {f : FuncId} {args : Array Value} {w : World} {n : Nat} {v : Value}
    (h : Calls P f args (w.drewN n) fun e w' => e = .returned v ∧ w.drewN n = w') : Calls P f args (w.drewN n) fun e w'' => e = .returned v ∧ ∃ m, w'' = w.drewN m :=
  h.mono fun _ _ ⟨he, hm⟩ => ⟨he, n, hm.symm⟩
theorem quiet_dr {P : Program} {f : FuncId} {args : Array Value} {w : World} {n : Nat} {v : Value}
    (h : Calls P f args (w.drewN n) fun e w' => e = .returned v ∧ ∃ k, (w.drewN n).drewN k = w') : Calls P f args (w.drewN n) fun e w'' => e = .returned v ∧ ∃ m, w'' = w.drewN m :=
  h.mono fun _ _ ⟨he, k, hk⟩ => ⟨he, n + k, by rw [← hk, World.drewN_drewN]⟩
theorem same_below {P : Program} {f : FuncId} {args : Array Value} {w : World} {v : Value} (h : Calls P f args w fun e w' => e = .returned v ∧ w = w') : Calls P f args w fun e w' => e = .returned v ∧ Below w.heap.size w w' :=
  h.mono fun _ _ ⟨he, hk⟩ => ⟨he, by rw [← hk]; exact Below.refl _ _⟩
theorem drew_below {P : Program} {f : FuncId} {args : Array Value} {w : World} {v : Value} (h : Calls P f args w fun e w' => e = .returned v ∧ ∃ n, w.drewN n = w') : Calls P f args w fun e w' => e = .returned v ∧ Below w.heap.size w w' :=
  h.mono fun _ _ ⟨he, n, hk⟩ => ⟨he, by rw [← hk]; exact below_drewN' (Below.refl _ _) n⟩

/-- Two windows compared: the model's '==' and '!='. -/
theorem cubic_guard : Try.prog.eqGuardType Try.prog.depth 24 = false := by kernel_rfl
theorem cubic_same (a b c : Int) (h : Bool) (e m k s : Int) (w : World) : (binOp .eql 24 (.agg #[.int .u64 a, .int .u64 b, .int .u64 c, .bool h, .int .u64 e, .int .u64 m, .int .u64 k, .int .u64 s]) (.agg #[.int .u64 a, .int .u64 b, .int .u64 c, .bool h, .int .u64 e, .int .u64 m, .int .u64 k, .int .u64 s])).run Try.prog w = .ok (.bool true) w := by
  have u := Try.underlying22
  have u2 := Try.underlying4
  have a1 := Try.isAgg22
  have a2 := Try.isAgg4
  have z := Try.sizeOf22
  have z2 := Try.sizeOf4
  have hS : Try.prog.underlying 24 = some (.struct (Try.prog.fieldsOf 24)) := by kernel_rfl
  have hp : Try.prog.stoodInHeld 24 = false := by kernel_rfl
  rw [run_eql_struct, show (10000 : Nat) = 9999 + 1 from rfl, run_equalIn_agg w 9999 24 _ _ hS hp]
  simp only [Program.fieldsOf, Try.underlying24]
  cases h <;> go_simp
theorem cubic_ne (a b c : Int) (h : Bool) (e m k s : Int) (w : World) : (binOp .neq 24 (.agg #[.int .u64 a, .int .u64 b, .int .u64 c, .bool h, .int .u64 e, .int .u64 m, .int .u64 k, .int .u64 s]) (.agg #[.int .u64 a, .int .u64 b, .int .u64 c, .bool h, .int .u64 e, .int .u64 m, .int .u64 k, .int .u64 s])).run Try.prog w = .ok (.bool false) w := by
  have u := Try.underlying22
  have u2 := Try.underlying4
  have a1 := Try.isAgg22
  have a2 := Try.isAgg4
  have z := Try.sizeOf22
  have z2 := Try.sizeOf4
  have hS : Try.prog.underlying 24 = some (.struct (Try.prog.fieldsOf 24)) := by kernel_rfl
  have hp : Try.prog.stoodInHeld 24 = false := by kernel_rfl
  rw [run_neq_struct, show (10000 : Nat) = 9999 + 1 from rfl, run_equalIn_agg w 9999 24 _ _ hS hp]
  simp only [Program.fieldsOf, Try.underlying24]
  cases h <;> go_simp
theorem cubic_other (a b c : Int) (h : Bool) (e m k s : Int) (x : Int) (hx : (x == c) = false) (w : World) : (binOp .neq 24 (.agg #[.int .u64 a, .int .u64 b, .int .u64 x, .bool h, .int .u64 e, .int .u64 m, .int .u64 k, .int .u64 s]) (.agg #[.int .u64 a, .int .u64 b, .int .u64 c, .bool h, .int .u64 e, .int .u64 m, .int .u64 k, .int .u64 s])).run Try.prog w = .ok (.bool true) w := by
  have u := Try.underlying22
  have u2 := Try.underlying4
  have a1 := Try.isAgg22
  have a2 := Try.isAgg4
  have z := Try.sizeOf22
  have z2 := Try.sizeOf4
  have hS : Try.prog.underlying 24 = some (.struct (Try.prog.fieldsOf 24)) := by kernel_rfl
  have hp : Try.prog.stoodInHeld 24 = false := by kernel_rfl
  rw [run_neq_struct, show (10000 : Nat) = 9999 + 1 from rfl, run_equalIn_agg w 9999 24 _ _ hS hp]
  simp only [Program.fieldsOf, Try.underlying24]
  cases h <;> go_simp

/-- A number of a window that lies in a slot. -/
theorem cubic_field0 (a b c d e f g h : Value) (w : World) : (Instr.field 24 (.agg #[a, b, c, d, e, f, g, h]) 0).run Try.prog w = .ok a w := rfl
theorem cubic_field3 (a b c d e f g h : Value) (w : World) : (Instr.field 24 (.agg #[a, b, c, d, e, f, g, h]) 3).run Try.prog w = .ok d w := rfl
theorem cubic_field4 (a b c d e f g h : Value) (w : World) : (Instr.field 24 (.agg #[a, b, c, d, e, f, g, h]) 4).run Try.prog w = .ok e w := rfl
theorem cubic_field6 (a b c d e f g h : Value) (w : World) : (Instr.field 24 (.agg #[a, b, c, d, e, f, g, h]) 6).run Try.prog w = .ok g w := rfl

theorem held_any (n r : Nat) (w : World) (hr : Wig.nheld n = r) : Calls Try.prog 20 #[.int .u64 (n : Int)] w fun e w' => e = .returned (.int .u64 (r : Int)) ∧ w = w' := by
  obtain ⟨m, hm⟩ : ∃ m, m = max n 2400 := ⟨_, rfl⟩
  have e1 : ∀ ts t w, (Builtin.max_ ts t #[.int .u64 (n : Int), .int .u64 2400]).run Try.prog w = .ok (.int .u64 (m : Int)) w := by
    intro ts t w
    rw [run_max_int2, show (if (2400 : Int) > (n : Int) then (2400 : Int) else (n : Int)) = (m : Int) by split <;> omega]
  have e2 : ∀ ts t w, (Builtin.min_ ts t #[.int .u64 (m : Int), .int .u64 16777216]).run Try.prog w = .ok (.int .u64 (r : Int)) w := by
    intro ts t w
    rw [run_min_int2, show (if (16777216 : Int) < (m : Int) then (16777216 : Int) else (m : Int)) = (r : Int) by
      unfold Wig.nheld at hr
      split
      · rw [if_neg (by omega), if_pos (by omega)] at hr; omega
      · split at hr
        · omega
        · rw [if_neg (by omega)] at hr; omega]
  clear hm hr
  go_enter Try.func20, Try.ntmps20
  go_wp2_with fail
  go_ret
  exact ⟨rfl, rfl⟩
theorem rheld_any (n r : Nat) (w : World) (hr : Wig.nheld n = r) : Calls Try.prog 25 #[.int .u64 (n : Int)] w fun e w' => e = .returned (.int .u64 (r : Int)) ∧ w = w' := by
  unfold Wig.nheld at hr
  by_cases h1 : n < 2400
  · rw [if_pos h1] at hr
    subst hr
    have t1 : decide ((n : Int) < 2400) = true := decide_eq_true (by omega)
    clear h1
    go_enter Try.func25, Try.ntmps25
    go_wp2_with fail
    go_ret
    exact ⟨rfl, rfl⟩
  · rw [if_neg h1] at hr
    have t1 : decide ((n : Int) < 2400) = false := decide_eq_false (by omega)
    by_cases h2 : 16777216 < n
    · rw [if_pos h2] at hr
      subst hr
      have t2 : decide ((16777216 : Int) < (n : Int)) = true := decide_eq_true (by omega)
      clear h1 h2
      go_enter Try.func25, Try.ntmps25
      go_wp2_with fail
      go_ret
      exact ⟨rfl, rfl⟩
    · rw [if_neg h2] at hr
      subst hr
      have t2 : decide ((16777216 : Int) < (n : Int)) = false := decide_eq_false (by omega)
      clear h1 h2
      go_enter Try.func25, Try.ntmps25
      go_wp2_with fail
      go_ret
      exact ⟨rfl, rfl⟩
theorem new_any (w : World) : Calls Try.prog 17 #[] w fun e w' => e = .returned (.agg #[.int .u64 12000, .int .u64 16777216, .int .u64 0, .bool false, .int .u64 0, .int .u64 0, .int .u64 0, .int .u64 0]) ∧ Below w.heap.size w w' := by
  have B := Lib.hid (fun (o : Obj) => (Below.refl w.heap.size w).alloc (Nat.le_refl _) o)
  go_enter Try.func17, Try.ntmps17
  go_wp2_with fail
  exact bodyPost_ret (v := .agg #[.int .u64 12000, .int .u64 16777216, .int .u64 0, .bool false, .int .u64 0, .int .u64 0, .int .u64 0, .int .u64 0]) (by simp [results, Try.results17, go_sem]) rfl ⟨rfl, B.out _⟩
theorem rnew_any (w : World) : Calls Try.prog 18 #[] w fun e w' => e = .returned (.agg #[.int .u64 12000, .int .u64 16777216, .int .u64 0, .bool false, .int .u64 0, .int .u64 0, .int .u64 0, .int .u64 0]) ∧ Below w.heap.size w w' := by
  have B := Lib.hid (fun (o : Obj) => (Below.refl w.heap.size w).alloc (Nat.le_refl _) o)
  go_enter Try.func18, Try.ntmps18
  go_wp2_with fail
  exact bodyPost_ret (v := .agg #[.int .u64 12000, .int .u64 16777216, .int .u64 0, .bool false, .int .u64 0, .int .u64 0, .int .u64 0, .int .u64 0]) (by simp [results, Try.results18, go_sem]) rfl ⟨rfl, B.out _⟩
theorem coll_any (c t s : Nat) (h : Bool) (e m k es : Nat) (w : World) : Calls Try.prog 13 #[aggCu c t s h e m k es] w fun e w' => e = .returned (.agg #[.int .u64 2400, .int .u64 (t : Int), .int .u64 0, .bool false, .int .u64 0, .int .u64 (m : Int), .int .u64 0, .int .u64 0]) ∧ Below w.heap.size w w' := by
  have B := Lib.hid (fun (o o' : Obj) => ((Below.refl w.heap.size w).alloc (Nat.le_refl _) o).alloc (by simp) o')
  go_enter Try.func13, Try.ntmps13
  go_wp2_with fail
  exact bodyPost_ret (v := .agg #[.int .u64 2400, .int .u64 (t : Int), .int .u64 0, .bool false, .int .u64 0, .int .u64 (m : Int), .int .u64 0, .int .u64 0]) (by simp [results, Try.results13, go_sem]) rfl ⟨rfl, B.out _ _⟩
theorem rcoll_any (c t s : Nat) (h : Bool) (e m k es : Nat) (w : World) : Calls Try.prog 14 #[aggCu c t s h e m k es] w fun e w' => e = .returned (.agg #[.int .u64 2400, .int .u64 (t : Int), .int .u64 0, .bool false, .int .u64 0, .int .u64 (m : Int), .int .u64 0, .int .u64 0]) ∧ Below w.heap.size w w' := by
  have B := Lib.hid (fun (o o' : Obj) => ((Below.refl w.heap.size w).alloc (Nat.le_refl _) o).alloc (by simp) o')
  go_enter Try.func14, Try.ntmps14
  go_wp2_with fail
  exact bodyPost_ret (v := .agg #[.int .u64 2400, .int .u64 (t : Int), .int .u64 0, .bool false, .int .u64 0, .int .u64 (m : Int), .int .u64 0, .int .u64 0]) (by simp [results, Try.results14, go_sem]) rfl ⟨rfl, B.out _ _⟩

set_option maxHeartbeats 2000000 in
theorem elder_any (c t s : Nat) (h : Bool) (ep m k es a : Nat) (q : Bool) (w : World) (hs : s < 18446744073709551616) (ha : a < 18446744073709551616) (hq : decide (a < s) = q) :
    Calls Try.prog 19 #[aggCu c t s h ep m k es, .int .u64 (a : Int)] w fun e w' => e = .returned (.bool q) ∧ Below w.heap.size w w' := by
  have g := cubic_guard
  have B := Lib.hid (fun (o o' : Obj) => ((Below.refl w.heap.size w).alloc (Nat.le_refl _) o).alloc (by simp) o')
  by_cases h0 : a < s
  · rw [decide_eq_true h0] at hq
    subst hq
    have ne := cubic_other c t s h ep m k es a (by simp; omega)
    clear hs ha
    go_enter Try.func19, Try.ntmps19
    go_wp2_with fail
    go_ret
    exact ⟨rfl, B.out _ _⟩
  · rw [decide_eq_false h0] at hq
    subst hq
    have ne := cubic_ne c t s h ep m k es
    clear hs ha
    go_enter Try.func19, Try.ntmps19
    go_wp2_with fail
    go_ret
    exact ⟨rfl, B.out _ _⟩

theorem cube_any (t k r p : Nat) (w : World) (ht : t < 18446744073709551616) (hk : k < 18446744073709551616) (hc : w.cell? ⟨p, 6, none⟩ = some (.int .u64 (k : Int))) (hr : Wig.ccube (max t k - min t k) = r) :
    Calls Try.prog 30 #[.int .u64 (t : Int), .pointer (some ⟨p, 0, none⟩)] w fun e w' => e = .returned (.int .u64 (r : Int)) ∧ ∃ n, w.drewN n = w' := by
  obtain ⟨a, hA⟩ : ∃ a, a = max t k := ⟨_, rfl⟩
  obtain ⟨b, hB⟩ : ∃ b, b = min t k := ⟨_, rfl⟩
  obtain ⟨z, hz⟩ : ∃ z, z = a - b := ⟨_, rfl⟩
  obtain ⟨f, hf⟩ : ∃ f, f = Wig.cfar z := ⟨_, rfl⟩
  rw [← hA, ← hB, ← hz] at hr
  have m1 : ∀ ts ty w, (Builtin.max_ ts ty #[.int .u64 (t : Int), .int .u64 (k : Int)]).run Try.prog w = .ok (.int .u64 (a : Int)) w := by
    intro ts ty w
    rw [run_max_int2, show (if (k : Int) > (t : Int) then (k : Int) else (t : Int)) = (a : Int) by split <;> omega]
  have m2 : ∀ ts ty w, (Builtin.min_ ts ty #[.int .u64 (t : Int), .int .u64 (k : Int)]).run Try.prog w = .ok (.int .u64 (b : Int)) w := by
    intro ts ty w
    rw [run_min_int2, show (if (k : Int) < (t : Int) then (k : Int) else (t : Int)) = (b : Int) by split <;> omega]
  have e0 : IntKind.u64.wrap ((a : Int) - (b : Int)) = (z : Int) := by rw [IntKind.wrap_u64]; omega
  have m3 : ∀ ts ty w, (Builtin.min_ ts ty #[.int .u64 (z : Int), .int .u64 2097152]).run Try.prog w = .ok (.int .u64 (f : Int)) w := by
    intro ts ty w
    unfold Wig.cfar at hf
    rw [run_min_int2, show (if (2097152 : Int) < (z : Int) then (2097152 : Int) else (z : Int)) = (f : Int) by split <;> (split at hf <;> omega)]
  obtain ⟨x, hx⟩ : ∃ x, x = f * f := ⟨_, rfl⟩
  obtain ⟨y, hy⟩ : ∃ y, y = x * f := ⟨_, rfl⟩
  have by3 := Wig.cfar_cube z
  unfold Wig.ccube at hr
  rw [← hf, ← hx, ← hy] at hr by3
  have bf := Wig.cfar_le z
  rw [← hf] at bf
  have bx : x ≤ 2097152 * 2097152 := by rw [hx]; exact Nat.mul_le_mul bf bf
  have e1 : IntKind.u64.wrap ((f : Int) * (f : Int)) = (x : Int) := by rw [mul_nat (by omega), hx]
  have e2 : IntKind.u64.wrap ((x : Int) * (f : Int)) = (y : Int) := by rw [mul_nat (by omega), hy]
  have CM := Lib.hid (fun w => (show Calls Try.prog 23 #[.int .u64 (y : Int), .int .u64 480, .int .u64 1000000000] w fun e w' => e = .returned (.int .u64 (r : Int)) ∧ ∃ n, w.drewN n = w' by rw [← hr]; exact muldiv_any y 480 1000000000 w (by omega) (by omega) (by omega)))
  clear ht hk hr hA hB hz hf hx hy by3 bf bx
  go_enter Try.func30, Try.ntmps30
  go_wp2_with fail
  refine (CM.out _).mono ?_
  rintro e _ ⟨rfl, n, rfl⟩
  go_wp2_with fail
  go_ret
  exact ⟨rfl, _, rfl⟩
theorem rcube_any (z r : Nat) (w : World) (hz : z < 18446744073709551616) (hr : Wig.ccube z = r) :
    Calls Try.prog 31 #[.int .u64 (z : Int)] w fun e w' => e = .returned (.int .u64 (r : Int)) ∧ w = w' := by
  obtain ⟨f, hf⟩ : ∃ f, f = Wig.cfar z := ⟨_, rfl⟩
  obtain ⟨x, hx⟩ : ∃ x, x = f * f := ⟨_, rfl⟩
  obtain ⟨y, hy⟩ : ∃ y, y = x * f := ⟨_, rfl⟩
  have by3 := Wig.cfar_cube z
  unfold Wig.ccube at hr
  rw [← hf, ← hx, ← hy] at hr by3
  have bf := Wig.cfar_le z
  rw [← hf] at bf
  have bx : x ≤ 2097152 * 2097152 := by rw [hx]; exact Nat.mul_le_mul bf bf
  have e1 : IntKind.u64.wrap ((f : Int) * (f : Int)) = (x : Int) := by rw [mul_nat (by omega), hx]
  have e2 : IntKind.u64.wrap ((x : Int) * (f : Int)) = (y : Int) := by rw [mul_nat (by omega), hy]
  have CM := Lib.hid (fun w => (show Calls Try.prog 28 #[.int .u64 (y : Int), .int .u64 480, .int .u64 1000000000] w fun e w' => e = .returned (.int .u64 (r : Int)) ∧ w = w' by rw [← hr]; exact rmuldiv_any y 480 1000000000 w (by omega) (by omega) (by omega)))
  unfold Wig.cfar at hf
  by_cases h : 2097152 < z
  · rw [if_pos h] at hf
    subst hf
    have t1 : decide ((2097152 : Int) < (z : Int)) = true := decide_eq_true (by omega)
    clear e1 e2
    obtain rfl : x = 4398046511104 := by rw [hx]
    obtain rfl : y = 9223372036854775808 := by rw [hy]
    clear hr hx hy by3 bf bx hz h
    go_enter Try.func31, Try.ntmps31
    go_wp2_with fail
    refine (CM.out _).mono ?_
    rintro e _ ⟨rfl, rfl⟩
    go_wp2_with fail
    go_ret
    exact ⟨rfl, rfl⟩
  · rw [if_neg h] at hf
    subst hf
    have t1 : decide ((2097152 : Int) < (f : Int)) = false := decide_eq_false (by omega)
    clear hr hx hy by3 bf bx hz h
    go_enter Try.func31, Try.ntmps31
    go_wp2_with fail
    refine (CM.out _).mono ?_
    rintro e _ ⟨rfl, rfl⟩
    go_wp2_with fail
    go_ret
    exact ⟨rfl, rfl⟩
end Go.Proofs.Ytjnkmghlhihjkaa
