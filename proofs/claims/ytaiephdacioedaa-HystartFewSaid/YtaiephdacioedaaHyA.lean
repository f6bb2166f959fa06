/-
  What package hystart's New, Finish, limit and Grow return, and the document's, for all numbers of 64 bits. No condition.
-/
import Derived.Test.YtaiephdacioedaaHysM
import Derived.Test.YtaiephdacioedaaFixAdd
import Derived.Test.YtaiephdacioedaaBxS
import Derived.Laws.StructEq
import Derived.Laws.EntriesVeiled
import Derived.Deep.DeepCutAuto
namespace Go.Proofs.Ytaiephdacioedaa
open Go.ChangeShapes Go.WideShapes Go.ChangeAt Go.RowKit
set_option linter.unusedVariables false

/-- Two slow starts compared: the model's '==' and '!='. -/
theorem slow_guard : Try.prog.eqGuardType Try.prog.depth 25 = false := by kernel_rfl
theorem slow_same (a b c d e f g : Int) (w : World) : (binOp .eql 25 (.agg #[.int .i64 a, .int .u64 b, .int .u64 c, .int .u64 d, .int .u64 e, .int .u64 f, .int .u64 g]) (.agg #[.int .i64 a, .int .u64 b, .int .u64 c, .int .u64 d, .int .u64 e, .int .u64 f, .int .u64 g])).run Try.prog w = .ok (.bool true) w := by
  have u := Try.underlying23
  have u2 := Try.underlying3
  have a1 := Try.isAgg23
  have a2 := Try.isAgg3
  have z := Try.sizeOf23
  have z2 := Try.sizeOf3
  have hS : Try.prog.underlying 25 = some (.struct (Try.prog.fieldsOf 25)) := by kernel_rfl
  have hp : Try.prog.stoodInHeld 25 = false := by kernel_rfl
  rw [run_eql_struct, show (10000 : Nat) = 9999 + 1 from rfl, run_equalIn_agg w 9999 25 _ _ hS hp]
  simp only [Program.fieldsOf, Try.underlying25]
  go_simp
theorem slow_ne (a b c d e f g : Int) (w : World) : (binOp .neq 25 (.agg #[.int .i64 a, .int .u64 b, .int .u64 c, .int .u64 d, .int .u64 e, .int .u64 f, .int .u64 g]) (.agg #[.int .i64 a, .int .u64 b, .int .u64 c, .int .u64 d, .int .u64 e, .int .u64 f, .int .u64 g])).run Try.prog w = .ok (.bool false) w := by
  have u := Try.underlying23
  have u2 := Try.underlying3
  have a1 := Try.isAgg23
  have a2 := Try.isAgg3
  have z := Try.sizeOf23
  have z2 := Try.sizeOf3
  have hS : Try.prog.underlying 25 = some (.struct (Try.prog.fieldsOf 25)) := by kernel_rfl
  have hp : Try.prog.stoodInHeld 25 = false := by kernel_rfl
  rw [run_neq_struct, show (10000 : Nat) = 9999 + 1 from rfl, run_equalIn_agg w 9999 25 _ _ hS hp]
  simp only [Program.fieldsOf, Try.underlying25]
  go_simp
theorem new_any (n : Nat) (w : World) : Calls Try.prog 14 #[.int .u64 (n : Int)] w fun e w' => e = .returned (.agg #[.int .i64 0, .int .u64 (n : Int), .int .u64 18446744073709551615, .int .u64 18446744073709551615, .int .u64 0, .int .u64 18446744073709551615, .int .u64 0]) ∧ Below w.heap.size w w' := by
  have B := Lib.hid (fun (o : Obj) => (Below.refl w.heap.size w).alloc (Nat.le_refl _) o)
  go_enter Try.func14, Try.ntmps14
  go_wp2_with fail
  exact bodyPost_ret (v := .agg #[.int .i64 0, .int .u64 (n : Int), .int .u64 18446744073709551615, .int .u64 18446744073709551615, .int .u64 0, .int .u64 18446744073709551615, .int .u64 0]) (by simp [results, Try.results14, go_sem]) rfl ⟨rfl, B.out _⟩
theorem rnew_any (n : Nat) (w : World) : Calls Try.prog 15 #[.int .u64 (n : Int)] w fun e w' => e = .returned (.agg #[.int .i64 0, .int .u64 (n : Int), .int .u64 18446744073709551615, .int .u64 18446744073709551615, .int .u64 0, .int .u64 18446744073709551615, .int .u64 0]) ∧ Below w.heap.size w w' := by
  have B := Lib.hid (fun (o : Obj) => (Below.refl w.heap.size w).alloc (Nat.le_refl _) o)
  go_enter Try.func15, Try.ntmps15
  go_wp2_with fail
  exact bodyPost_ret (v := .agg #[.int .i64 0, .int .u64 (n : Int), .int .u64 18446744073709551615, .int .u64 18446744073709551615, .int .u64 0, .int .u64 18446744073709551615, .int .u64 0]) (by simp [results, Try.results15, go_sem]) rfl ⟨rfl, B.out _⟩
theorem finish_any (ph : Int) (en lm nm ct ba ro : Nat) (w : World) : Calls Try.prog 16 #[aggSl ph en lm nm ct ba ro] w fun e w' => e = .returned (aggSl 2 en lm nm ct ba ro) ∧ Below w.heap.size w w' := by
  have B := Lib.hid (fun (o o' : Obj) => ((Below.refl w.heap.size w).alloc (Nat.le_refl _) o).alloc (by simp) o')
  go_enter Try.func16, Try.ntmps16
  go_wp2_with fail
  exact bodyPost_ret (v := aggSl 2 en lm nm ct ba ro) (by simp [results, Try.results16, go_sem]) rfl ⟨rfl, B.out _ _⟩
theorem rfinish_any (ph : Int) (en lm nm ct ba ro : Nat) (w : World) : Calls Try.prog 17 #[aggSl ph en lm nm ct ba ro] w fun e w' => e = .returned (aggSl 2 en lm nm ct ba ro) ∧ Below w.heap.size w w' := by
  have B := Lib.hid (fun (o o' : Obj) => ((Below.refl w.heap.size w).alloc (Nat.le_refl _) o).alloc (by simp) o')
  go_enter Try.func17, Try.ntmps17
  go_wp2_with fail
  exact bodyPost_ret (v := aggSl 2 en lm nm ct ba ro) (by simp [results, Try.results17, go_sem]) rfl ⟨rfl, B.out _ _⟩
theorem limit_any (n r : Nat) (w : World) (hr : Wig.hlimit n = r) (hn : n < 18446744073709551616) : Calls Try.prog 26 #[.int .u64 (n : Int)] w fun e w' => e = .returned (.int .u64 (r : Int)) ∧ w = w' := by
  obtain ⟨q, hq⟩ : ∃ q, q = n / 8 := ⟨_, rfl⟩
  obtain ⟨m, hm⟩ : ∃ m, m = max q 4 := ⟨_, rfl⟩
  have e1 : (n : Int) / 8 = (q : Int) := by omega
  have e2 : IntKind.u64.wrap (q : Int) = (q : Int) := by rw [IntKind.wrap_u64]; omega
  have m1 : ∀ ts t w, (Builtin.max_ ts t #[.int .u64 (q : Int), .int .u64 4]).run Try.prog w = .ok (.int .u64 (m : Int)) w := by
    intro ts t w
    rw [run_max_int2, show (if (4 : Int) > (q : Int) then (4 : Int) else (q : Int)) = (m : Int) by split <;> omega]
  have m2 : ∀ ts t w, (Builtin.min_ ts t #[.int .u64 (m : Int), .int .u64 16]).run Try.prog w = .ok (.int .u64 (r : Int)) w := by
    intro ts t w
    unfold Wig.hlimit at hr
    rw [run_min_int2, show (if (16 : Int) < (m : Int) then (16 : Int) else (m : Int)) = (r : Int) by split <;> omega]
  clear hr hn hq hm
  go_enter Try.func26, Try.ntmps26
  go_wp2_with fail
  go_ret
  exact ⟨rfl, rfl⟩
theorem rlimit_any (n r : Nat) (w : World) (hr : Wig.hlimit n = r) (hn : n < 18446744073709551616) : Calls Try.prog 24 #[.int .u64 (n : Int)] w fun e w' => e = .returned (.int .u64 (r : Int)) ∧ w = w' := by
  obtain ⟨q, hq⟩ : ∃ q, q = n / 8 := ⟨_, rfl⟩
  have e1 : (n : Int) / 8 = (q : Int) := by omega
  have e2 : IntKind.u64.wrap (q : Int) = (q : Int) := by rw [IntKind.wrap_u64]; omega
  unfold Wig.hlimit at hr
  by_cases h1 : q < 4
  · obtain rfl : r = 4 := by omega
    have t1 : decide ((q : Int) < 4) = true := decide_eq_true (by omega)
    clear hr hn hq h1
    go_enter Try.func24, Try.ntmps24
    go_wp2_with fail
    go_ret
    exact ⟨rfl, rfl⟩
  · have t1 : decide ((q : Int) < 4) = false := decide_eq_false (by omega)
    by_cases h2 : 16 < q
    · obtain rfl : r = 16 := by omega
      have t2 : decide ((16 : Int) < (q : Int)) = true := decide_eq_true (by omega)
      clear hr hn hq h1 h2
      go_enter Try.func24, Try.ntmps24
      go_wp2_with fail
      go_ret
      exact ⟨rfl, rfl⟩
    · obtain rfl : r = q := by omega
      have t2 : decide ((16 : Int) < (r : Int)) = false := decide_eq_false (by omega)
      clear hr hn hq h1 h2
      go_enter Try.func24, Try.ntmps24
      go_wp2_with fail
      go_ret
      exact ⟨rfl, rfl⟩
theorem grow_any (ph : Int) (en lm nm ct ba ro b r : Nat) (w : World) (hb : b < 18446744073709551616) (hr : Wig.hgrow ⟨ph, en, lm, nm, ct, ba, ro⟩ b = r) : Calls Try.prog 12 #[aggSl ph en lm nm ct ba ro, .int .u64 (b : Int)] w fun e w' => e = .returned (.int .u64 (r : Int)) ∧ Below w.heap.size w w' := by
  have B := Lib.hid (fun (o : Obj) => (Below.refl w.heap.size w).alloc (Nat.le_refl _) o)
  have e1 : (b : Int) / 4 = ((b / 4 : Nat) : Int) := by omega
  have e2 : IntKind.u64.wrap ((b / 4 : Nat) : Int) = ((b / 4 : Nat) : Int) := by rw [IntKind.wrap_u64]; omega
  generalize hq : b / 4 = q at e1 e2
  unfold Wig.hgrow at hr
  simp only at hr
  by_cases h0 : ph = 0
  · rw [if_pos h0] at hr
    subst h0 hr
    have d0 : ((0 : Int) == 0) = true := by decide
    have d1 : ((0 : Int) == 1) = false := by decide
    clear hq hb
    go_enter Try.func12, Try.ntmps12
    go_wp2_with fail
    go_ret
    exact ⟨rfl, B.out _⟩
  · rw [if_neg h0] at hr
    have d0 : (ph == 0) = false := by simpa using h0
    by_cases h1 : ph = 1
    · rw [if_pos h1] at hr
      have d1 : (ph == 1) = true := by simpa using h1
      rw [hq] at hr
      subst hr
      clear hq hb h0 h1
      go_enter Try.func12, Try.ntmps12
      go_wp2_with fail
      go_ret
      exact ⟨rfl, B.out _⟩
    · rw [if_neg h1] at hr
      subst hr
      have d1 : (ph == 1) = false := by simpa using h1
      clear hq hb h0 h1
      go_enter Try.func12, Try.ntmps12
      go_wp2_with fail
      go_ret
      exact ⟨rfl, B.out _⟩
theorem rgrow_any (ph : Int) (en lm nm ct ba ro b r : Nat) (w : World) (hb : b < 18446744073709551616) (hr : Wig.hgrow ⟨ph, en, lm, nm, ct, ba, ro⟩ b = r) : Calls Try.prog 13 #[aggSl ph en lm nm ct ba ro, .int .u64 (b : Int)] w fun e w' => e = .returned (.int .u64 (r : Int)) ∧ Below w.heap.size w w' := by
  have B := Lib.hid (fun (o : Obj) => (Below.refl w.heap.size w).alloc (Nat.le_refl _) o)
  have e1 : (b : Int) / 4 = ((b / 4 : Nat) : Int) := by omega
  have e2 : IntKind.u64.wrap ((b / 4 : Nat) : Int) = ((b / 4 : Nat) : Int) := by rw [IntKind.wrap_u64]; omega
  generalize hq : b / 4 = q at e1 e2
  unfold Wig.hgrow at hr
  simp only at hr
  by_cases h0 : ph = 0
  · rw [if_pos h0] at hr
    subst h0 hr
    have d0 : ((0 : Int) == 0) = true := by decide
    have d1 : ((0 : Int) == 1) = false := by decide
    clear hq hb
    go_enter Try.func13, Try.ntmps13
    go_wp2_with fail
    go_ret
    exact ⟨rfl, B.out _⟩
  · rw [if_neg h0] at hr
    have d0 : (ph == 0) = false := by simpa using h0
    by_cases h1 : ph = 1
    · rw [if_pos h1] at hr
      have d1 : (ph == 1) = true := by simpa using h1
      rw [hq] at hr
      subst hr
      clear hq hb h0 h1
      go_enter Try.func13, Try.ntmps13
      go_wp2_with fail
      go_ret
      exact ⟨rfl, B.out _⟩
    · rw [if_neg h1] at hr
      subst hr
      have d1 : (ph == 1) = false := by simpa using h1
      clear hq hb h0 h1
      go_enter Try.func13, Try.ntmps13
      go_wp2_with fail
      go_ret
      exact ⟨rfl, B.out _⟩
end Go.Proofs.Ytaiephdacioedaa
