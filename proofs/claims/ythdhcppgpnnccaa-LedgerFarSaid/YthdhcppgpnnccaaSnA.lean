/-
  Rows of packets that grow: what an append of one packet leaves; two rows of the call's own that lie in different blocks; a packet's box. No condition beyond what each names.
-/
import Derived.Test.YthdhcppgpnnccaaSnt
import Derived.Test.YthdhcppgpnnccaaLedN
import Derived.Test.YthdhcppgpnnccaaSpHs
import Derived.Test.YthdhcppgpnnccaaFixAdd
import Derived.Test.YthdhcppgpnnccaaRgn
import Derived.Maps.AppendAt
namespace Go.Proofs.Ythdhcppgpnnccaa
open Go.ChangeShapes Go.WideShapes Go.ChangeAt Go.RowKit Go.Deep
set_option linter.unusedVariables false

/-- A call that leaves the world as it is, within a region that only reads. -/
theorem quiet_eq {P : Program} {f : FuncId} {args : Array Value} {w : World} {n : Nat} {v : Value}
    (h : Calls P f args (w.drewN n) fun e w' => e = .returned v ∧ w.drewN n = w') : Calls P f args (w.drewN n) fun e w'' => e = .returned v ∧ ∃ m, w'' = w.drewN m :=
  h.mono fun _ _ ⟨he, hm⟩ => ⟨he, n, hm.symm⟩

theorem sent_info : (Try.prog.info? 37).map (fun i => (i.zero, i.size, i.bytes)) = some (some (.agg #[.int .u64 0, .int .u64 0, .int .u64 0, .bool false]), 4, 32) := by kernel_rfl
theorem cell_four_new (w : World) (a b c : Nat) (d : Bool) : ∀ j u, (four ⟨a, b, c, d⟩)[j]? = some u → (w.alloc (.cells #[.int .u64 (a : Int), .int .u64 (b : Int), .int .u64 (c : Int), .bool d] 37)).cell? ((⟨w.heap.size, 0, none⟩ : Addr).add j) = some u := by
  intro j u hj
  rw [add_plain, Nat.zero_add, World.cell?_alloc_at _ _ _ _ rfl]
  simpa [four] using hj
theorem one_four (p : Wig.Snt) : ∀ u ∈ four p, u.oneCell' = true := by
  intro u hu
  simp only [four, List.mem_cons, List.not_mem_nil, or_false] at hu
  rcases hu with rfl | rfl | rfl | rfl <;> rfl

/-- A packet's box: its four cells. -/
structure BxT (q a b c : Nat) (d : Bool) (w : World) : Prop where
  c0 : w.cell? ⟨q, 0, none⟩ = some (.int .u64 (a : Int))
  c1 : w.cell? ⟨q, 1, none⟩ = some (.int .u64 (b : Int))
  c2 : w.cell? ⟨q, 2, none⟩ = some (.int .u64 (c : Int))
  c3 : w.cell? ⟨q, 3, none⟩ = some (.bool d)
theorem BxT.new (w : World) (a b c : Nat) (d : Bool) {t : TypeId} : BxT w.heap.size a b c d (w.alloc (.cells #[.int .u64 (a : Int), .int .u64 (b : Int), .int .u64 (c : Int), .bool d] t)) := by
  refine ⟨?_, ?_, ?_, ?_⟩ <;> (rw [World.cell?_alloc_at _ _ _ _ rfl]; rfl)
theorem BxT.below {q a b c B : Nat} {d : Bool} {w w' : World} (x : BxT q a b c d w) (hb : Below B w w') (hB : q < B) : BxT q a b c d w' :=
  ⟨(hb.cell hB).trans x.c0, (hb.cell hB).trans x.c1, (hb.cell hB).trans x.c2, (hb.cell hB).trans x.c3⟩
theorem BxT.drew {q a b c : Nat} {d : Bool} {w : World} (x : BxT q a b c d w) : BxT q a b c d w.drew := ⟨x.c0, x.c1, x.c2, x.c3⟩

/-- No block is both rows'. -/
def Apart (v u : Value) : Prop := ∀ k, v.ownBlock = some k → u.ownBlock ≠ some k
theorem Apart.symm {v u : Value} (h : Apart v u) : Apart u v := fun k h1 h2 => h k h2 h1
theorem Apart.or {v u : Value} (h : Apart v u) : v.ownBlock = none ∨ v.ownBlock ≠ u.ownBlock := by
  cases hv : v.ownBlock with
  | none => exact .inl rfl
  | some k => exact .inr fun e => h k hv e.symm
/-- Two rows of the call's own, which lie apart. -/
structure Two (w : World) (base : Nat) (v u : Value) (xs ys : List Wig.Snt) : Prop where
  one : OwnT w base v xs
  two : OwnT w base u ys
  apart : Apart v u
theorem Two.nil (w : World) (base : Nat) : Two w base (.slice none 0 0) (.slice none 0 0) [] [] := ⟨World.ownsRow_nil _ _ _ _, World.ownsRow_nil _ _ _ _, fun _ h => by cases h⟩
theorem Two.below {w w' : World} {base B : Nat} {v u : Value} {xs ys : List Wig.Snt} (h : Two w base v u xs ys) (hb : Below B w w') (hB : w.heap.size ≤ B) : Two w' base v u xs ys := ⟨h.one.below hb hB, h.two.below hb hB, h.apart⟩
theorem Two.base_le {w : World} {base base' : Nat} {v u : Value} {xs ys : List Wig.Snt} (h : Two w base v u xs ys) (hb : base' ≤ base) : Two w base' v u xs ys := ⟨h.one.base_le hb, h.two.base_le hb, h.apart⟩
section
variable {w w' : World} {base : Nat} {v u v' : Value} {xs ys : List Wig.Snt} {p : Wig.Snt} {o : Obj}
theorem Two.left (h : Two w base v u xs ys) (hown : w'.ownsRow base 37 4 v' (xs.length + 1) (tflat xs ++ four p)) (hg : (w.alloc o).grownBy w' v.ownBlock) (hat : v'.ownBlock = v.ownBlock ∨ v'.ownBlock = some (w.heap.size + 1)) : Two w' base v' u (xs ++ [p]) ys := by
  refine ⟨?_, World.ownsRow.kept (World.ownsRow.alloc h.two o) hg h.apart.symm.or, fun k hk hu => ?_⟩
  · unfold OwnT
    rw [tflat_app, tflat_one, List.length_append]
    exact hown
  · rcases hat with e | e
    · exact h.apart k (by rw [← e]; exact hk) hu
    · rw [e] at hk
      have := (World.ownsRow.lt h.two k hu).2
      injection hk with hk
      omega
theorem Two.right (h : Two w base v u xs ys) (hown : w'.ownsRow base 37 4 v' (ys.length + 1) (tflat ys ++ four p)) (hg : (w.alloc o).grownBy w' u.ownBlock) (hat : v'.ownBlock = u.ownBlock ∨ v'.ownBlock = some (w.heap.size + 1)) : Two w' base v v' xs (ys ++ [p]) := by
  have k : Two w base u v ys xs := ⟨h.two, h.one, h.apart.symm⟩
  have r := Two.left k hown hg hat
  exact ⟨r.two, r.one, r.apart.symm⟩
end
/-- The world below behind an append to a row of the call's own. -/
theorem below_app {w0 w w' : World} {base : Nat} {v : Value} {xs : List Wig.Snt} {o : Obj} (hb : Below base w0 w) (h : OwnT w base v xs) (hB : base ≤ w.heap.size) (hg : (w.alloc o).grownBy w' v.ownBlock) : Below base w0 w' :=
  (hb.alloc hB o).grown hg (by simp; omega) (fun q hq => (World.ownsRow.lt h q hq).1)
end Go.Proofs.Ythdhcppgpnnccaa
