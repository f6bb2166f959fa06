/-
  Bytes of a list appended behind bytes of the call's own: the row that comes out. No condition but that they are at most a million.
-/
import Derived.Test.YtogioabdijgglaaDoorByt
import Derived.OwnWalk
namespace Go.Proofs.YtogioabdijgglaaDoor
open Go.ChangeShapes Go.WideShapes Go.ChangeAt Go.RowKit Go.Deep

theorem bytes_info : (Tryd.prog.info? 5).map (fun i => (i.zero, i.size, i.bytes)) = some (some (.int .u8 0), 1, 1) := by kernel_rfl
/-- Nothing is appended: nil, or what has no elements. -/
theorem append_none_run {P : Program} {w : World} {base : Nat} {t ty e : TypeId} {i : TypeInfo} {size : Nat} {v : Value} {n : Nat} {xs : List Value} (ht : P.underlying t = some (.slice e)) (hi : P.info? e = some i) (hown : w.ownsRow base e size v n xs) (c : Nat) :
    (Builtin.append_ #[t, t] ty #[v, .slice none 0 c]).run P w = .ok v w := by
  exact run_append_owned_none (P := P) (w := w) base t ty e i size ht hi v n xs hown
theorem RdN.cells_ {k : IntKind} {w : World} {B : Nat} {a : Addr} {xs : List Nat} (h : RdN k w B (some a) xs) : ∀ j u, (ncells k xs)[j]? = some u → w.cell? (a.add j) = some u := by
  intro j u hu
  obtain ⟨x, hx, rfl⟩ := ncells_of k xs j u hu
  obtain ⟨b, off, e, _, hc⟩ := h.at_ hx
  injection e with e
  subst e
  rw [add_plain]
  exact hc

theorem wpList_append_bytes {w : World} {ops : Array Oper} {rest : List Oper} {o : Oper} {a : Act} {Q : Exit → Act → World → Prop} (hgd : o.guard = none) (s x : Operand)
    (ho : o.op = .call { callee := .builtin .append, args := #[s, x], argTypes := #[23, 23] })
    (base : Nat) (v : Value) (xs ys : List Nat) (hs : a.eval s = v) (hown : OwnN .u8 5 w base v xs) (B : Nat) (A : Option Addr) (c n : Nat) (hn : ys.length = n) (hx : a.eval x = .slice A n c) (hr : RdN .u8 w B A ys)
    (h63 : xs.length + n ≤ 1000000) (hbase : base ≤ w.heap.size)
    (h : ∀ v' w', OwnN .u8 5 w' base v' (xs ++ ys) → w.grownBy w' v.ownBlock → wpList Tryd.prog ops Q rest (a.put o.dst v') w') : wpList Tryd.prog ops Q (o :: rest) a w := by
  subst hn
  obtain ⟨i0, hi, hz0, hz1, hz2⟩ := info_parts bytes_info
  cases A with
  | none =>
    have hnil : ys = [] := by
      rcases ys with _ | ⟨p, ys⟩
      · rfl
      · obtain ⟨b, off, e, _⟩ := hr (by simp)
        cases e
    subst hnil
    refine wpList_plain hgd fun K hK => ?_
    have hrun := append_none_run (ty := o.type) Tryd.underlying23 hi hown c
    unfold Oper.wp
    simp only [List.length_nil] at hx
    simp [execOp, ho, resolve, invoke, builtin, hs, hx, hrun, Result.andThen]
    exact hK _ _ (h v w (by simpa using hown) (World.grownBy.refl w _))
  | some ad =>
    refine wpList_append_own _ hgd s x _ ho base 5 i0 (.int .u8 0) 1 1 Tryd.underlying23 hi hz0 hz1 hz2 rfl (by decide) v xs.length (ncells .u8 xs) hs hown ad ys.length c (ncells .u8 ys) hx (by rw [ncells_length, Nat.mul_one]) hr.cells_ (ncells_one .u8 ys)
      (by unfold maxLen; omega) (by omega) hbase ?_
    intro v' w' h1 h2 _
    refine h v' w' ?_ h2
    unfold OwnN
    rw [List.length_append, ncells_app]
    exact h1
end Go.Proofs.YtogioabdijgglaaDoor
