/-
  The box of a struct: its cells at a world, a store of the whole struct, what stays. No condition.
-/
import Derived.Test.YtpdmepblmjjeeaaPost
import Derived.WalkKit
import Derived.ProofKit
import Derived.OpenShut
import Derived.Below
namespace Go.Proofs.Ytpdmepblmjjeeaa
open Go.ChangeShapes Go.WideShapes Go.ChangeAt Go.RowKit
set_option linter.unusedVariables false

structure BxRn (p : Nat) (cw : Nat) (th : Nat) (si : Nat) (re : Nat) (w : World) : Prop where
  c0 : w.cell? ⟨p, 0, none⟩ = some (.int .u64 (cw : Int))
  c1 : w.cell? ⟨p, 1, none⟩ = some (.int .u64 (th : Int))
  c2 : w.cell? ⟨p, 2, none⟩ = some (.int .u64 (si : Int))
  c3 : w.cell? ⟨p, 3, none⟩ = some (.int .u64 (re : Int))
  f0 : w.frozen? ⟨p, 0, none⟩ = false
  f1 : w.frozen? ⟨p, 1, none⟩ = false
  f2 : w.frozen? ⟨p, 2, none⟩ = false
  f3 : w.frozen? ⟨p, 3, none⟩ = false
abbrev aggRn (cw : Nat) (th : Nat) (si : Nat) (re : Nat) : Value := .agg #[.int .u64 (cw : Int), .int .u64 (th : Int), .int .u64 (si : Int), .int .u64 (re : Int)]
theorem BxRn.new (w : World) (cw : Nat) (th : Nat) (si : Nat) (re : Nat) {t : TypeId} : BxRn w.heap.size cw th si re (w.alloc (.cells #[.int .u64 (cw : Int), .int .u64 (th : Int), .int .u64 (si : Int), .int .u64 (re : Int)] t)) := by
  refine ⟨?_, ?_, ?_, ?_, World.frozen?_alloc_at _ _ _ _ rfl, World.frozen?_alloc_at _ _ _ _ rfl, World.frozen?_alloc_at _ _ _ _ rfl, World.frozen?_alloc_at _ _ _ _ rfl⟩ <;>
    (rw [World.cell?_alloc_at _ _ _ _ rfl]; rfl)
theorem BxRn.below {p B : Nat} {cw : Nat} {th : Nat} {si : Nat} {re : Nat} {w w' : World} (x : BxRn p cw th si re w) (hb : Below B w w') (hB : p < B) : BxRn p cw th si re w' :=
  ⟨(hb.cell hB).trans x.c0, (hb.cell hB).trans x.c1, (hb.cell hB).trans x.c2, (hb.cell hB).trans x.c3, (hb.frozen hB).trans x.f0, (hb.frozen hB).trans x.f1, (hb.frozen hB).trans x.f2, (hb.frozen hB).trans x.f3⟩
theorem BxRn.drewN {p : Nat} {cw : Nat} {th : Nat} {si : Nat} {re : Nat} {w : World} (x : BxRn p cw th si re w) (n : Nat) : BxRn p cw th si re (w.drewN n) := ⟨x.c0, x.c1, x.c2, x.c3, x.f0, x.f1, x.f2, x.f3⟩
theorem BxRn.drew {p : Nat} {cw : Nat} {th : Nat} {si : Nat} {re : Nat} {w : World} (x : BxRn p cw th si re w) : BxRn p cw th si re w.drew := ⟨x.c0, x.c1, x.c2, x.c3, x.f0, x.f1, x.f2, x.f3⟩
/-- The world behind a store of a whole struct. -/
def putRn (p : Nat) (cw : Nat) (th : Nat) (si : Nat) (re : Nat) (w : World) : World :=
  (((w.setCell ⟨p, 0, none⟩ (.int .u64 (cw : Int))).setCell ⟨p, 1, none⟩ (.int .u64 (th : Int))).setCell ⟨p, 2, none⟩ (.int .u64 (si : Int))).setCell ⟨p, 3, none⟩ (.int .u64 (re : Int))
theorem BxRn.put {p : Nat} {cw : Nat} {th : Nat} {si : Nat} {re : Nat} {cw' : Nat} {th' : Nat} {si' : Nat} {re' : Nat} {w : World} (x : BxRn p cw th si re w) : BxRn p cw' th' si' re' (putRn p cw' th' si' re' w) := by
  have e0 := x.c0
  have e1 := x.c1
  have e2 := x.c2
  have e3 := x.c3
  unfold putRn
  refine ⟨?_, ?_, ?_, ?_, ?_, ?_, ?_, ?_⟩
  · rw [World.cell?_setCell_other _ _ _ _ (by simp), World.cell?_setCell_other _ _ _ _ (by simp), World.cell?_setCell_other _ _ _ _ (by simp)]
    exact World.cell?_setCell_same _ _ _ e0
  · rw [World.cell?_setCell_other _ _ _ _ (by simp), World.cell?_setCell_other _ _ _ _ (by simp)]
    exact World.cell?_setCell_same _ _ _ (by rw [World.cell?_setCell_other _ _ _ _ (by simp)]; exact e1)
  · rw [World.cell?_setCell_other _ _ _ _ (by simp)]
    exact World.cell?_setCell_same _ _ _ (by rw [World.cell?_setCell_other _ _ _ _ (by simp), World.cell?_setCell_other _ _ _ _ (by simp)]; exact e2)
  · exact World.cell?_setCell_same _ _ _ (by rw [World.cell?_setCell_other _ _ _ _ (by simp), World.cell?_setCell_other _ _ _ _ (by simp), World.cell?_setCell_other _ _ _ _ (by simp)]; exact e3)
  · simp only [World.frozen?_setCell]; exact x.f0
  · simp only [World.frozen?_setCell]; exact x.f1
  · simp only [World.frozen?_setCell]; exact x.f2
  · simp only [World.frozen?_setCell]; exact x.f3
theorem putRn_below {p B : Nat} {cw : Nat} {th : Nat} {si : Nat} {re : Nat} {w : World} (hp : B ≤ p) : Below B w (putRn p cw th si re w) := by
  unfold putRn
  exact Below.setCell (Below.setCell (Below.setCell (Below.setCell (Below.refl _ _) hp _) hp _) hp _) hp _
theorem putRn_other {p q i : Nat} {cw : Nat} {th : Nat} {si : Nat} {re : Nat} {w : World} (hq : q ≠ p) : (putRn p cw th si re w).cell? ⟨q, i, none⟩ = w.cell? ⟨q, i, none⟩ := by
  unfold putRn
  rw [World.cell?_setCell_other _ _ _ _ (fun e => hq (congrArg Addr.block e).symm), World.cell?_setCell_other _ _ _ _ (fun e => hq (congrArg Addr.block e).symm), World.cell?_setCell_other _ _ _ _ (fun e => hq (congrArg Addr.block e).symm), World.cell?_setCell_other _ _ _ _ (fun e => hq (congrArg Addr.block e).symm)]
theorem BxRn.set0 {p : Nat} {cw : Nat} {th : Nat} {si : Nat} {re : Nat} {cw' : Nat} {w : World} (x : BxRn p cw th si re w) : BxRn p cw' th si re (w.setCell ⟨p, 0, none⟩ (.int .u64 (cw' : Int))) :=
  ⟨World.cell?_setCell_same _ _ _ x.c0, (World.cell?_setCell_other _ _ _ _ (by simp)).trans x.c1, (World.cell?_setCell_other _ _ _ _ (by simp)).trans x.c2, (World.cell?_setCell_other _ _ _ _ (by simp)).trans x.c3, (World.frozen?_setCell _ _ _ _).trans x.f0, (World.frozen?_setCell _ _ _ _).trans x.f1, (World.frozen?_setCell _ _ _ _).trans x.f2, (World.frozen?_setCell _ _ _ _).trans x.f3⟩
theorem BxRn.set1 {p : Nat} {cw : Nat} {th : Nat} {si : Nat} {re : Nat} {th' : Nat} {w : World} (x : BxRn p cw th si re w) : BxRn p cw th' si re (w.setCell ⟨p, 1, none⟩ (.int .u64 (th' : Int))) :=
  ⟨(World.cell?_setCell_other _ _ _ _ (by simp)).trans x.c0, World.cell?_setCell_same _ _ _ x.c1, (World.cell?_setCell_other _ _ _ _ (by simp)).trans x.c2, (World.cell?_setCell_other _ _ _ _ (by simp)).trans x.c3, (World.frozen?_setCell _ _ _ _).trans x.f0, (World.frozen?_setCell _ _ _ _).trans x.f1, (World.frozen?_setCell _ _ _ _).trans x.f2, (World.frozen?_setCell _ _ _ _).trans x.f3⟩
theorem BxRn.set2 {p : Nat} {cw : Nat} {th : Nat} {si : Nat} {re : Nat} {si' : Nat} {w : World} (x : BxRn p cw th si re w) : BxRn p cw th si' re (w.setCell ⟨p, 2, none⟩ (.int .u64 (si' : Int))) :=
  ⟨(World.cell?_setCell_other _ _ _ _ (by simp)).trans x.c0, (World.cell?_setCell_other _ _ _ _ (by simp)).trans x.c1, World.cell?_setCell_same _ _ _ x.c2, (World.cell?_setCell_other _ _ _ _ (by simp)).trans x.c3, (World.frozen?_setCell _ _ _ _).trans x.f0, (World.frozen?_setCell _ _ _ _).trans x.f1, (World.frozen?_setCell _ _ _ _).trans x.f2, (World.frozen?_setCell _ _ _ _).trans x.f3⟩
theorem BxRn.set3 {p : Nat} {cw : Nat} {th : Nat} {si : Nat} {re : Nat} {re' : Nat} {w : World} (x : BxRn p cw th si re w) : BxRn p cw th si re' (w.setCell ⟨p, 3, none⟩ (.int .u64 (re' : Int))) :=
  ⟨(World.cell?_setCell_other _ _ _ _ (by simp)).trans x.c0, (World.cell?_setCell_other _ _ _ _ (by simp)).trans x.c1, (World.cell?_setCell_other _ _ _ _ (by simp)).trans x.c2, World.cell?_setCell_same _ _ _ x.c3, (World.frozen?_setCell _ _ _ _).trans x.f0, (World.frozen?_setCell _ _ _ _).trans x.f1, (World.frozen?_setCell _ _ _ _).trans x.f2, (World.frozen?_setCell _ _ _ _).trans x.f3⟩
theorem BxRn.other {p b : Nat} {a : Addr} {v : Value} {cw : Nat} {th : Nat} {si : Nat} {re : Nat} {w : World} (x : BxRn p cw th si re w) (h : a.block = b) (hb : b ≠ p) : BxRn p cw th si re (w.setCell a v) :=
  ⟨(World.cell?_setCell_other _ _ _ _ (fun e => hb (h.symm.trans (congrArg Addr.block e)))).trans x.c0, (World.cell?_setCell_other _ _ _ _ (fun e => hb (h.symm.trans (congrArg Addr.block e)))).trans x.c1, (World.cell?_setCell_other _ _ _ _ (fun e => hb (h.symm.trans (congrArg Addr.block e)))).trans x.c2, (World.cell?_setCell_other _ _ _ _ (fun e => hb (h.symm.trans (congrArg Addr.block e)))).trans x.c3, (World.frozen?_setCell _ _ _ _).trans x.f0, (World.frozen?_setCell _ _ _ _).trans x.f1, (World.frozen?_setCell _ _ _ _).trans x.f2, (World.frozen?_setCell _ _ _ _).trans x.f3⟩
end Go.Proofs.Ytpdmepblmjjeeaa
