/-
  What the document's meet and joined of spans return: what two spans both have; a row of the call's own with one span more. Conditions: the row is the call's own.
-/
import Derived.Test.YtfibbohccaknjaaSpG
import Derived.Test.YtfibbohccaknjaaSpN
namespace Go.Proofs.Ytfibbohccaknjaa
open Go.ChangeShapes Go.WideShapes Go.ChangeAt Go.RowKit Go.Deep
set_option linter.unusedVariables false

theorem three_new (w : World) (a b c : Obj) : Below w.heap.size w (((w.alloc a).alloc b).alloc c) := (((Below.refl _ _).alloc (Nat.le_refl _) a).alloc (by simp) b).alloc (by simp; omega) c
set_option maxHeartbeats 1000000 in
theorem meet_any (p0 p1 q0 q1 x0 x1 : Nat) (w : World) (hx0 : max p0 q0 = x0) (hx1 : min p1 q1 = x1) :
    Calls Try.prog 35 #[.agg #[.int .u64 (p0 : Int), .int .u64 (p1 : Int)], .agg #[.int .u64 (q0 : Int), .int .u64 (q1 : Int)]] w fun e w' =>
      e = .returned (.agg #[.int .u64 (x0 : Int), .int .u64 (x1 : Int)]) ∧ Below w.heap.size w w' := by
  have B := Lib.hid (fun a b c => three_new w a b c)
  by_cases h1 : p0 < q0
  · have d1 : decide (p0 < q0) = true := decide_eq_true h1
    by_cases h2 : q1 < p1
    · have d2 : decide (q1 < p1) = true := decide_eq_true h2
      obtain rfl : x0 = q0 := by omega
      obtain rfl : x1 = q1 := by omega
      clear hx0 hx1 h1 h2
      go_enter Try.func35, Try.ntmps35
      go_wp2_with fail
      exact bodyPost_ret (v := .agg #[.int .u64 (x0 : Int), .int .u64 (x1 : Int)]) (by simp [results, Try.results35, go_sem]) rfl ⟨rfl, B.out _ _ _⟩
    · have d2 : decide (q1 < p1) = false := decide_eq_false h2
      obtain rfl : x0 = q0 := by omega
      obtain rfl : x1 = p1 := by omega
      clear hx0 hx1 h1 h2
      go_enter Try.func35, Try.ntmps35
      go_wp2_with fail
      exact bodyPost_ret (v := .agg #[.int .u64 (x0 : Int), .int .u64 (x1 : Int)]) (by simp [results, Try.results35, go_sem]) rfl ⟨rfl, B.out _ _ _⟩
  · have d1 : decide (p0 < q0) = false := decide_eq_false h1
    by_cases h2 : q1 < p1
    · have d2 : decide (q1 < p1) = true := decide_eq_true h2
      obtain rfl : x0 = p0 := by omega
      obtain rfl : x1 = q1 := by omega
      clear hx0 hx1 h1 h2
      go_enter Try.func35, Try.ntmps35
      go_wp2_with fail
      exact bodyPost_ret (v := .agg #[.int .u64 (x0 : Int), .int .u64 (x1 : Int)]) (by simp [results, Try.results35, go_sem]) rfl ⟨rfl, B.out _ _ _⟩
    · have d2 : decide (q1 < p1) = false := decide_eq_false h2
      obtain rfl : x0 = p0 := by omega
      obtain rfl : x1 = p1 := by omega
      clear hx0 hx1 h1 h2
      go_enter Try.func35, Try.ntmps35
      go_wp2_with fail
      exact bodyPost_ret (v := .agg #[.int .u64 (x0 : Int), .int .u64 (x1 : Int)]) (by simp [results, Try.results35, go_sem]) rfl ⟨rfl, B.out _ _ _⟩

/-- All of a list of spans appended to a row of the call's own: the operation alone. -/
theorem step_append_spans {w : World} {o : Oper} {a : Act} {K : Act → World → Prop} {Q : Exit → Act → World → Prop} (s x : Operand)
    (ho : o.op = .call { callee := .builtin .append, args := #[s, x], argTypes := #[22, 22] })
    (base : Nat) (v : Value) (xs ss : List Wig.Spn) (hs : a.eval s = v) (hown : OwnS w base v xs) (B : Nat) (A : Option Addr) (c n : Nat) (hn : ss.length = n) (hx : a.eval x = .slice A n c) (hr : RdS w B A ss)
    (h63 : xs.length + n ≤ 1000000) (hbase : base ≤ w.heap.size)
    (h : ∀ v' w', OwnS w' base v' (xs ++ ss) → w.grownBy w' v.ownBlock → K (a.put o.dst v') w') : o.wp Try.prog a w K Q := by
  subst hn
  obtain ⟨i0, hi, hz0, hz1, hz2⟩ := info_parts span_info
  cases A with
  | none =>
    have hnil : ss = [] := by
      rcases ss with _ | ⟨p, ss⟩
      · rfl
      · obtain ⟨b, off, e, _⟩ := hr (by simp)
        cases e
    subst hnil
    have hrun := append_nil_run (ty := o.type) Try.underlying22 hi hown c
    unfold Oper.wp
    simp only [List.length_nil] at hx
    simp [execOp, ho, resolve, invoke, builtin, hs, hx, hrun, Result.andThen]
    exact h v w (by simpa using hown) (World.grownBy.refl w _)
  | some ad =>
    refine wp_append_own _ s x _ ho base 25 i0 (.agg #[.int .u64 0, .int .u64 0]) 2 16 Try.underlying22 hi hz0 hz1 hz2 rfl (by decide) v xs.length (flat xs) hs hown ad ss.length c (flat ss) hx (flat_length ss) hr.flat_ (flat_one_cell ss)
      (by unfold maxLen; omega) (by omega) hbase ?_
    intro v' w' h1 h2 _
    refine h v' w' ?_ h2
    unfold OwnS
    rw [List.length_append, flat_app]
    exact h1
end Go.Proofs.Ytfibbohccaknjaa
