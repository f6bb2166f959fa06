/-
  All of a list of samples appended to a row of the call's own, the source nil, empty or not. Conditions: what is owned and what is read, and their bounds.
-/
import Derived.Test.YtmfldjdkmfpdkaaFiltW
namespace Go.Proofs.Ytmfldjdkmfpdkaa
open Go.ChangeShapes Go.WideShapes Go.ChangeAt Go.RowKit Go.Deep
set_option linter.unusedVariables false

/-- A nil source's capacity is not looked at: it is appended as a nil slice of capacity 0 is. -/
theorem append_nil_run {P : Program} {w : World} {base : Nat} {t ty e : TypeId} {i : TypeInfo} {size : Nat} (ht : P.underlying t = some (.slice e)) (hi : P.info? e = some i) {v : Value} {n : Nat} {xs : List Value}
    (hown : w.ownsRow base e size v n xs) (c : Nat) : (Builtin.append_ #[t, t] ty #[v, .slice none 0 c]).run P w = .ok v w := by
  have same : Builtin.append_ #[t, t] ty #[v, .slice none 0 c] = Builtin.append_ #[t, t] ty #[v, .slice none 0 0] := by
    unfold Builtin.append_
    rfl
  rw [same]
  exact run_append_owned_none (P := P) (w := w) base t ty e i size ht hi v n xs hown

theorem wpList_append_list {w : World} {ops : Array Oper} {rest : List Oper} {o : Oper} {a : Act} {Q : Exit → Act → World → Prop} (hgd : o.guard = none) (s x : Operand)
    (ho : o.op = .call { callee := .builtin .append, args := #[s, x], argTypes := #[22, 22] })
    (base : Nat) (v : Value) (xs ss : List Wig.Smp) (hs : a.eval s = v) (hown : Own w base v xs) (B : Nat) (A : Option Addr) (c n : Nat) (hn : ss.length = n) (hx : a.eval x = .slice A n c) (hr : Rd w B A ss)
    (h63 : xs.length + n ≤ 1000) (hbase : base ≤ w.heap.size)
    (h : ∀ v' w', Own w' base v' (xs ++ ss) → w.grownBy w' v.ownBlock → wpList Try.prog ops Q rest (a.put o.dst v') w') : wpList Try.prog ops Q (o :: rest) a w := by
  subst hn
  obtain ⟨i0, hi, hz0, hz1, hz2⟩ := info_parts samp_info
  cases A with
  | none =>
    have hnil : ss = [] := by
      rcases ss with _ | ⟨p, ss⟩
      · rfl
      · obtain ⟨b, off, e, _⟩ := hr (by simp)
        cases e
    subst hnil
    refine wpList_plain hgd fun K hK => ?_
    have hrun := append_nil_run (ty := o.type) Try.underlying22 hi hown c
    unfold Oper.wp
    simp only [List.length_nil] at hx
    simp [execOp, ho, resolve, invoke, builtin, hs, hx, hrun, Result.andThen]
    exact hK _ _ (h v w (by simpa using hown) (World.grownBy.refl w _))
  | some ad =>
    refine wpList_append_own _ hgd s x _ ho base 25 i0 (.agg #[.int .u64 0, .int .u64 0]) 2 16 Try.underlying22 hi hz0 hz1 hz2 rfl (by decide) v xs.length (flat xs) hs hown ad ss.length c (flat ss) hx (flat_length ss) hr.flat_ (flat_one_cell ss)
      (by unfold maxLen; omega) (by omega) hbase ?_
    intro v' w' h1 h2 _
    refine h v' w' ?_ h2
    unfold Own
    rw [List.length_append, flat_app]
    exact h1
end Go.Proofs.Ytmfldjdkmfpdkaa
