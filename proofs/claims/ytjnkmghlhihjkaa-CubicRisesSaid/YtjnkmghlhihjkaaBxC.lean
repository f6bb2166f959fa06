/-
  The box of a struct: its cells at a world, a store of the whole struct, what stays. No condition.
-/
import Derived.Test.YtjnkmghlhihjkaaPost
import Derived.WalkKit
import Derived.ProofKit
import Derived.OpenShut
import Derived.Below
namespace Go.Proofs.Ytjnkmghlhihjkaa
open Go.ChangeShapes Go.WideShapes Go.ChangeAt Go.RowKit
set_option linter.unusedVariables false

structure BxCu (p : Nat) (cw : Nat) (th : Nat) (si : Nat) (ha : Bool) (ep : Nat) (mo : Nat) (kk : Nat) (es : Nat) (w : World) : Prop where
  c0 : w.cell? ⟨p, 0, none⟩ = some (.int .u64 (cw : Int))
  c1 : w.cell? ⟨p, 1, none⟩ = some (.int .u64 (th : Int))
  c2 : w.cell? ⟨p, 2, none⟩ = some (.int .u64 (si : Int))
  c3 : w.cell? ⟨p, 3, none⟩ = some (.bool ha)
  c4 : w.cell? ⟨p, 4, none⟩ = some (.int .u64 (ep : Int))
  c5 : w.cell? ⟨p, 5, none⟩ = some (.int .u64 (mo : Int))
  c6 : w.cell? ⟨p, 6, none⟩ = some (.int .u64 (kk : Int))
  c7 : w.cell? ⟨p, 7, none⟩ = some (.int .u64 (es : Int))
  f0 : w.frozen? ⟨p, 0, none⟩ = false
  f1 : w.frozen? ⟨p, 1, none⟩ = false
  f2 : w.frozen? ⟨p, 2, none⟩ = false
  f3 : w.frozen? ⟨p, 3, none⟩ = false
  f4 : w.frozen? ⟨p, 4, none⟩ = false
  f5 : w.frozen? ⟨p, 5, none⟩ = false
  f6 : w.frozen? ⟨p, 6, none⟩ = false
  f7 : w.frozen? ⟨p, 7, none⟩ = false
abbrev aggCu (cw : Nat) (th : Nat) (si : Nat) (ha : Bool) (ep : Nat) (mo : Nat) (kk : Nat) (es : Nat) : Value := .agg #[.int .u64 (cw : Int), .int .u64 (th : Int), .int .u64 (si : Int), .bool ha, .int .u64 (ep : Int), .int .u64 (mo : Int), .int .u64 (kk : Int), .int .u64 (es : Int)]
theorem BxCu.new (w : World) (cw : Nat) (th : Nat) (si : Nat) (ha : Bool) (ep : Nat) (mo : Nat) (kk : Nat) (es : Nat) {t : TypeId} : BxCu w.heap.size cw th si ha ep mo kk es (w.alloc (.cells #[.int .u64 (cw : Int), .int .u64 (th : Int), .int .u64 (si : Int), .bool ha, .int .u64 (ep : Int), .int .u64 (mo : Int), .int .u64 (kk : Int), .int .u64 (es : Int)] t)) := by
  refine ⟨?_, ?_, ?_, ?_, ?_, ?_, ?_, ?_, World.frozen?_alloc_at _ _ _ _ rfl, World.frozen?_alloc_at _ _ _ _ rfl, World.frozen?_alloc_at _ _ _ _ rfl, World.frozen?_alloc_at _ _ _ _ rfl, World.frozen?_alloc_at _ _ _ _ rfl, World.frozen?_alloc_at _ _ _ _ rfl, World.frozen?_alloc_at _ _ _ _ rfl, World.frozen?_alloc_at _ _ _ _ rfl⟩ <;>
    (rw [World.cell?_alloc_at _ _ _ _ rfl]; rfl)
theorem BxCu.below {p B : Nat} {cw : Nat} {th : Nat} {si : Nat} {ha : Bool} {ep : Nat} {mo : Nat} {kk : Nat} {es : Nat} {w w' : World} (x : BxCu p cw th si ha ep mo kk es w) (hb : Below B w w') (hB : p < B) : BxCu p cw th si ha ep mo kk es w' :=
  ⟨(hb.cell hB).trans x.c0, (hb.cell hB).trans x.c1, (hb.cell hB).trans x.c2, (hb.cell hB).trans x.c3, (hb.cell hB).trans x.c4, (hb.cell hB).trans x.c5, (hb.cell hB).trans x.c6, (hb.cell hB).trans x.c7, (hb.frozen hB).trans x.f0, (hb.frozen hB).trans x.f1, (hb.frozen hB).trans x.f2, (hb.frozen hB).trans x.f3, (hb.frozen hB).trans x.f4, (hb.frozen hB).trans x.f5, (hb.frozen hB).trans x.f6, (hb.frozen hB).trans x.f7⟩
theorem BxCu.drewN {p : Nat} {cw : Nat} {th : Nat} {si : Nat} {ha : Bool} {ep : Nat} {mo : Nat} {kk : Nat} {es : Nat} {w : World} (x : BxCu p cw th si ha ep mo kk es w) (n : Nat) : BxCu p cw th si ha ep mo kk es (w.drewN n) := ⟨x.c0, x.c1, x.c2, x.c3, x.c4, x.c5, x.c6, x.c7, x.f0, x.f1, x.f2, x.f3, x.f4, x.f5, x.f6, x.f7⟩
theorem BxCu.drew {p : Nat} {cw : Nat} {th : Nat} {si : Nat} {ha : Bool} {ep : Nat} {mo : Nat} {kk : Nat} {es : Nat} {w : World} (x : BxCu p cw th si ha ep mo kk es w) : BxCu p cw th si ha ep mo kk es w.drew := ⟨x.c0, x.c1, x.c2, x.c3, x.c4, x.c5, x.c6, x.c7, x.f0, x.f1, x.f2, x.f3, x.f4, x.f5, x.f6, x.f7⟩
/-- The world behind a store of a whole struct. -/
def putCu (p : Nat) (cw : Nat) (th : Nat) (si : Nat) (ha : Bool) (ep : Nat) (mo : Nat) (kk : Nat) (es : Nat) (w : World) : World :=
  (((((((w.setCell ⟨p, 0, none⟩ (.int .u64 (cw : Int))).setCell ⟨p, 1, none⟩ (.int .u64 (th : Int))).setCell ⟨p, 2, none⟩ (.int .u64 (si : Int))).setCell ⟨p, 3, none⟩ (.bool ha)).setCell ⟨p, 4, none⟩ (.int .u64 (ep : Int))).setCell ⟨p, 5, none⟩ (.int .u64 (mo : Int))).setCell ⟨p, 6, none⟩ (.int .u64 (kk : Int))).setCell ⟨p, 7, none⟩ (.int .u64 (es : Int))
theorem BxCu.put {p : Nat} {cw : Nat} {th : Nat} {si : Nat} {ha : Bool} {ep : Nat} {mo : Nat} {kk : Nat} {es : Nat} {cw' : Nat} {th' : Nat} {si' : Nat} {ha' : Bool} {ep' : Nat} {mo' : Nat} {kk' : Nat} {es' : Nat} {w : World} (x : BxCu p cw th si ha ep mo kk es w) : BxCu p cw' th' si' ha' ep' mo' kk' es' (putCu p cw' th' si' ha' ep' mo' kk' es' w) := by
  have e0 := x.c0
  have e1 := x.c1
  have e2 := x.c2
  have e3 := x.c3
  have e4 := x.c4
  have e5 := x.c5
  have e6 := x.c6
  have e7 := x.c7
  unfold putCu
  refine ⟨?_, ?_, ?_, ?_, ?_, ?_, ?_, ?_, ?_, ?_, ?_, ?_, ?_, ?_, ?_, ?_⟩
  · rw [World.cell?_setCell_other _ _ _ _ (by simp), World.cell?_setCell_other _ _ _ _ (by simp), World.cell?_setCell_other _ _ _ _ (by simp), World.cell?_setCell_other _ _ _ _ (by simp), World.cell?_setCell_other _ _ _ _ (by simp), World.cell?_setCell_other _ _ _ _ (by simp), World.cell?_setCell_other _ _ _ _ (by simp)]
    exact World.cell?_setCell_same _ _ _ e0
  · rw [World.cell?_setCell_other _ _ _ _ (by simp), World.cell?_setCell_other _ _ _ _ (by simp), World.cell?_setCell_other _ _ _ _ (by simp), World.cell?_setCell_other _ _ _ _ (by simp), World.cell?_setCell_other _ _ _ _ (by simp), World.cell?_setCell_other _ _ _ _ (by simp)]
    exact World.cell?_setCell_same _ _ _ (by rw [World.cell?_setCell_other _ _ _ _ (by simp)]; exact e1)
  · rw [World.cell?_setCell_other _ _ _ _ (by simp), World.cell?_setCell_other _ _ _ _ (by simp), World.cell?_setCell_other _ _ _ _ (by simp), World.cell?_setCell_other _ _ _ _ (by simp), World.cell?_setCell_other _ _ _ _ (by simp)]
    exact World.cell?_setCell_same _ _ _ (by rw [World.cell?_setCell_other _ _ _ _ (by simp), World.cell?_setCell_other _ _ _ _ (by simp)]; exact e2)
  · rw [World.cell?_setCell_other _ _ _ _ (by simp), World.cell?_setCell_other _ _ _ _ (by simp), World.cell?_setCell_other _ _ _ _ (by simp), World.cell?_setCell_other _ _ _ _ (by simp)]
    exact World.cell?_setCell_same _ _ _ (by rw [World.cell?_setCell_other _ _ _ _ (by simp), World.cell?_setCell_other _ _ _ _ (by simp), World.cell?_setCell_other _ _ _ _ (by simp)]; exact e3)
  · rw [World.cell?_setCell_other _ _ _ _ (by simp), World.cell?_setCell_other _ _ _ _ (by simp), World.cell?_setCell_other _ _ _ _ (by simp)]
    exact World.cell?_setCell_same _ _ _ (by rw [World.cell?_setCell_other _ _ _ _ (by simp), World.cell?_setCell_other _ _ _ _ (by simp), World.cell?_setCell_other _ _ _ _ (by simp), World.cell?_setCell_other _ _ _ _ (by simp)]; exact e4)
  · rw [World.cell?_setCell_other _ _ _ _ (by simp), World.cell?_setCell_other _ _ _ _ (by simp)]
    exact World.cell?_setCell_same _ _ _ (by rw [World.cell?_setCell_other _ _ _ _ (by simp), World.cell?_setCell_other _ _ _ _ (by simp), World.cell?_setCell_other _ _ _ _ (by simp), World.cell?_setCell_other _ _ _ _ (by simp), World.cell?_setCell_other _ _ _ _ (by simp)]; exact e5)
  · rw [World.cell?_setCell_other _ _ _ _ (by simp)]
    exact World.cell?_setCell_same _ _ _ (by rw [World.cell?_setCell_other _ _ _ _ (by simp), World.cell?_setCell_other _ _ _ _ (by simp), World.cell?_setCell_other _ _ _ _ (by simp), World.cell?_setCell_other _ _ _ _ (by simp), World.cell?_setCell_other _ _ _ _ (by simp), World.cell?_setCell_other _ _ _ _ (by simp)]; exact e6)
  · exact World.cell?_setCell_same _ _ _ (by rw [World.cell?_setCell_other _ _ _ _ (by simp), World.cell?_setCell_other _ _ _ _ (by simp), World.cell?_setCell_other _ _ _ _ (by simp), World.cell?_setCell_other _ _ _ _ (by simp), World.cell?_setCell_other _ _ _ _ (by simp), World.cell?_setCell_other _ _ _ _ (by simp), World.cell?_setCell_other _ _ _ _ (by simp)]; exact e7)
  · simp only [World.frozen?_setCell]; exact x.f0
  · simp only [World.frozen?_setCell]; exact x.f1
  · simp only [World.frozen?_setCell]; exact x.f2
  · simp only [World.frozen?_setCell]; exact x.f3
  · simp only [World.frozen?_setCell]; exact x.f4
  · simp only [World.frozen?_setCell]; exact x.f5
  · simp only [World.frozen?_setCell]; exact x.f6
  · simp only [World.frozen?_setCell]; exact x.f7
theorem putCu_below {p B : Nat} {cw : Nat} {th : Nat} {si : Nat} {ha : Bool} {ep : Nat} {mo : Nat} {kk : Nat} {es : Nat} {w : World} (hp : B ≤ p) : Below B w (putCu p cw th si ha ep mo kk es w) := by
  unfold putCu
  exact Below.setCell (Below.setCell (Below.setCell (Below.setCell (Below.setCell (Below.setCell (Below.setCell (Below.setCell (Below.refl _ _) hp _) hp _) hp _) hp _) hp _) hp _) hp _) hp _
theorem putCu_other {p q i : Nat} {cw : Nat} {th : Nat} {si : Nat} {ha : Bool} {ep : Nat} {mo : Nat} {kk : Nat} {es : Nat} {w : World} (hq : q ≠ p) : (putCu p cw th si ha ep mo kk es w).cell? ⟨q, i, none⟩ = w.cell? ⟨q, i, none⟩ := by
  unfold putCu
  rw [World.cell?_setCell_other _ _ _ _ (fun e => hq (congrArg Addr.block e).symm), World.cell?_setCell_other _ _ _ _ (fun e => hq (congrArg Addr.block e).symm), World.cell?_setCell_other _ _ _ _ (fun e => hq (congrArg Addr.block e).symm), World.cell?_setCell_other _ _ _ _ (fun e => hq (congrArg Addr.block e).symm), World.cell?_setCell_other _ _ _ _ (fun e => hq (congrArg Addr.block e).symm), World.cell?_setCell_other _ _ _ _ (fun e => hq (congrArg Addr.block e).symm), World.cell?_setCell_other _ _ _ _ (fun e => hq (congrArg Addr.block e).symm), World.cell?_setCell_other _ _ _ _ (fun e => hq (congrArg Addr.block e).symm)]
theorem BxCu.set0 {p : Nat} {cw : Nat} {th : Nat} {si : Nat} {ha : Bool} {ep : Nat} {mo : Nat} {kk : Nat} {es : Nat} {cw' : Nat} {w : World} (x : BxCu p cw th si ha ep mo kk es w) : BxCu p cw' th si ha ep mo kk es (w.setCell ⟨p, 0, none⟩ (.int .u64 (cw' : Int))) :=
  ⟨World.cell?_setCell_same _ _ _ x.c0, (World.cell?_setCell_other _ _ _ _ (by simp)).trans x.c1, (World.cell?_setCell_other _ _ _ _ (by simp)).trans x.c2, (World.cell?_setCell_other _ _ _ _ (by simp)).trans x.c3, (World.cell?_setCell_other _ _ _ _ (by simp)).trans x.c4, (World.cell?_setCell_other _ _ _ _ (by simp)).trans x.c5, (World.cell?_setCell_other _ _ _ _ (by simp)).trans x.c6, (World.cell?_setCell_other _ _ _ _ (by simp)).trans x.c7, (World.frozen?_setCell _ _ _ _).trans x.f0, (World.frozen?_setCell _ _ _ _).trans x.f1, (World.frozen?_setCell _ _ _ _).trans x.f2, (World.frozen?_setCell _ _ _ _).trans x.f3, (World.frozen?_setCell _ _ _ _).trans x.f4, (World.frozen?_setCell _ _ _ _).trans x.f5, (World.frozen?_setCell _ _ _ _).trans x.f6, (World.frozen?_setCell _ _ _ _).trans x.f7⟩
theorem BxCu.set1 {p : Nat} {cw : Nat} {th : Nat} {si : Nat} {ha : Bool} {ep : Nat} {mo : Nat} {kk : Nat} {es : Nat} {th' : Nat} {w : World} (x : BxCu p cw th si ha ep mo kk es w) : BxCu p cw th' si ha ep mo kk es (w.setCell ⟨p, 1, none⟩ (.int .u64 (th' : Int))) :=
  ⟨(World.cell?_setCell_other _ _ _ _ (by simp)).trans x.c0, World.cell?_setCell_same _ _ _ x.c1, (World.cell?_setCell_other _ _ _ _ (by simp)).trans x.c2, (World.cell?_setCell_other _ _ _ _ (by simp)).trans x.c3, (World.cell?_setCell_other _ _ _ _ (by simp)).trans x.c4, (World.cell?_setCell_other _ _ _ _ (by simp)).trans x.c5, (World.cell?_setCell_other _ _ _ _ (by simp)).trans x.c6, (World.cell?_setCell_other _ _ _ _ (by simp)).trans x.c7, (World.frozen?_setCell _ _ _ _).trans x.f0, (World.frozen?_setCell _ _ _ _).trans x.f1, (World.frozen?_setCell _ _ _ _).trans x.f2, (World.frozen?_setCell _ _ _ _).trans x.f3, (World.frozen?_setCell _ _ _ _).trans x.f4, (World.frozen?_setCell _ _ _ _).trans x.f5, (World.frozen?_setCell _ _ _ _).trans x.f6, (World.frozen?_setCell _ _ _ _).trans x.f7⟩
theorem BxCu.set2 {p : Nat} {cw : Nat} {th : Nat} {si : Nat} {ha : Bool} {ep : Nat} {mo : Nat} {kk : Nat} {es : Nat} {si' : Nat} {w : World} (x : BxCu p cw th si ha ep mo kk es w) : BxCu p cw th si' ha ep mo kk es (w.setCell ⟨p, 2, none⟩ (.int .u64 (si' : Int))) :=
  ⟨(World.cell?_setCell_other _ _ _ _ (by simp)).trans x.c0, (World.cell?_setCell_other _ _ _ _ (by simp)).trans x.c1, World.cell?_setCell_same _ _ _ x.c2, (World.cell?_setCell_other _ _ _ _ (by simp)).trans x.c3, (World.cell?_setCell_other _ _ _ _ (by simp)).trans x.c4, (World.cell?_setCell_other _ _ _ _ (by simp)).trans x.c5, (World.cell?_setCell_other _ _ _ _ (by simp)).trans x.c6, (World.cell?_setCell_other _ _ _ _ (by simp)).trans x.c7, (World.frozen?_setCell _ _ _ _).trans x.f0, (World.frozen?_setCell _ _ _ _).trans x.f1, (World.frozen?_setCell _ _ _ _).trans x.f2, (World.frozen?_setCell _ _ _ _).trans x.f3, (World.frozen?_setCell _ _ _ _).trans x.f4, (World.frozen?_setCell _ _ _ _).trans x.f5, (World.frozen?_setCell _ _ _ _).trans x.f6, (World.frozen?_setCell _ _ _ _).trans x.f7⟩
theorem BxCu.set3 {p : Nat} {cw : Nat} {th : Nat} {si : Nat} {ha : Bool} {ep : Nat} {mo : Nat} {kk : Nat} {es : Nat} {ha' : Bool} {w : World} (x : BxCu p cw th si ha ep mo kk es w) : BxCu p cw th si ha' ep mo kk es (w.setCell ⟨p, 3, none⟩ (.bool ha')) :=
  ⟨(World.cell?_setCell_other _ _ _ _ (by simp)).trans x.c0, (World.cell?_setCell_other _ _ _ _ (by simp)).trans x.c1, (World.cell?_setCell_other _ _ _ _ (by simp)).trans x.c2, World.cell?_setCell_same _ _ _ x.c3, (World.cell?_setCell_other _ _ _ _ (by simp)).trans x.c4, (World.cell?_setCell_other _ _ _ _ (by simp)).trans x.c5, (World.cell?_setCell_other _ _ _ _ (by simp)).trans x.c6, (World.cell?_setCell_other _ _ _ _ (by simp)).trans x.c7, (World.frozen?_setCell _ _ _ _).trans x.f0, (World.frozen?_setCell _ _ _ _).trans x.f1, (World.frozen?_setCell _ _ _ _).trans x.f2, (World.frozen?_setCell _ _ _ _).trans x.f3, (World.frozen?_setCell _ _ _ _).trans x.f4, (World.frozen?_setCell _ _ _ _).trans x.f5, (World.frozen?_setCell _ _ _ _).trans x.f6, (World.frozen?_setCell _ _ _ _).trans x.f7⟩
theorem BxCu.set4 {p : Nat} {cw : Nat} {th : Nat} {si : Nat} {ha : Bool} {ep : Nat} {mo : Nat} {kk : Nat} {es : Nat} {ep' : Nat} {w : World} (x : BxCu p cw th si ha ep mo kk es w) : BxCu p cw th si ha ep' mo kk es (w.setCell ⟨p, 4, none⟩ (.int .u64 (ep' : Int))) :=
  ⟨(World.cell?_setCell_other _ _ _ _ (by simp)).trans x.c0, (World.cell?_setCell_other _ _ _ _ (by simp)).trans x.c1, (World.cell?_setCell_other _ _ _ _ (by simp)).trans x.c2, (World.cell?_setCell_other _ _ _ _ (by simp)).trans x.c3, World.cell?_setCell_same _ _ _ x.c4, (World.cell?_setCell_other _ _ _ _ (by simp)).trans x.c5, (World.cell?_setCell_other _ _ _ _ (by simp)).trans x.c6, (World.cell?_setCell_other _ _ _ _ (by simp)).trans x.c7, (World.frozen?_setCell _ _ _ _).trans x.f0, (World.frozen?_setCell _ _ _ _).trans x.f1, (World.frozen?_setCell _ _ _ _).trans x.f2, (World.frozen?_setCell _ _ _ _).trans x.f3, (World.frozen?_setCell _ _ _ _).trans x.f4, (World.frozen?_setCell _ _ _ _).trans x.f5, (World.frozen?_setCell _ _ _ _).trans x.f6, (World.frozen?_setCell _ _ _ _).trans x.f7⟩
theorem BxCu.set5 {p : Nat} {cw : Nat} {th : Nat} {si : Nat} {ha : Bool} {ep : Nat} {mo : Nat} {kk : Nat} {es : Nat} {mo' : Nat} {w : World} (x : BxCu p cw th si ha ep mo kk es w) : BxCu p cw th si ha ep mo' kk es (w.setCell ⟨p, 5, none⟩ (.int .u64 (mo' : Int))) :=
  ⟨(World.cell?_setCell_other _ _ _ _ (by simp)).trans x.c0, (World.cell?_setCell_other _ _ _ _ (by simp)).trans x.c1, (World.cell?_setCell_other _ _ _ _ (by simp)).trans x.c2, (World.cell?_setCell_other _ _ _ _ (by simp)).trans x.c3, (World.cell?_setCell_other _ _ _ _ (by simp)).trans x.c4, World.cell?_setCell_same _ _ _ x.c5, (World.cell?_setCell_other _ _ _ _ (by simp)).trans x.c6, (World.cell?_setCell_other _ _ _ _ (by simp)).trans x.c7, (World.frozen?_setCell _ _ _ _).trans x.f0, (World.frozen?_setCell _ _ _ _).trans x.f1, (World.frozen?_setCell _ _ _ _).trans x.f2, (World.frozen?_setCell _ _ _ _).trans x.f3, (World.frozen?_setCell _ _ _ _).trans x.f4, (World.frozen?_setCell _ _ _ _).trans x.f5, (World.frozen?_setCell _ _ _ _).trans x.f6, (World.frozen?_setCell _ _ _ _).trans x.f7⟩
theorem BxCu.set6 {p : Nat} {cw : Nat} {th : Nat} {si : Nat} {ha : Bool} {ep : Nat} {mo : Nat} {kk : Nat} {es : Nat} {kk' : Nat} {w : World} (x : BxCu p cw th si ha ep mo kk es w) : BxCu p cw th si ha ep mo kk' es (w.setCell ⟨p, 6, none⟩ (.int .u64 (kk' : Int))) :=
  ⟨(World.cell?_setCell_other _ _ _ _ (by simp)).trans x.c0, (World.cell?_setCell_other _ _ _ _ (by simp)).trans x.c1, (World.cell?_setCell_other _ _ _ _ (by simp)).trans x.c2, (World.cell?_setCell_other _ _ _ _ (by simp)).trans x.c3, (World.cell?_setCell_other _ _ _ _ (by simp)).trans x.c4, (World.cell?_setCell_other _ _ _ _ (by simp)).trans x.c5, World.cell?_setCell_same _ _ _ x.c6, (World.cell?_setCell_other _ _ _ _ (by simp)).trans x.c7, (World.frozen?_setCell _ _ _ _).trans x.f0, (World.frozen?_setCell _ _ _ _).trans x.f1, (World.frozen?_setCell _ _ _ _).trans x.f2, (World.frozen?_setCell _ _ _ _).trans x.f3, (World.frozen?_setCell _ _ _ _).trans x.f4, (World.frozen?_setCell _ _ _ _).trans x.f5, (World.frozen?_setCell _ _ _ _).trans x.f6, (World.frozen?_setCell _ _ _ _).trans x.f7⟩
theorem BxCu.set7 {p : Nat} {cw : Nat} {th : Nat} {si : Nat} {ha : Bool} {ep : Nat} {mo : Nat} {kk : Nat} {es : Nat} {es' : Nat} {w : World} (x : BxCu p cw th si ha ep mo kk es w) : BxCu p cw th si ha ep mo kk es' (w.setCell ⟨p, 7, none⟩ (.int .u64 (es' : Int))) :=
  ⟨(World.cell?_setCell_other _ _ _ _ (by simp)).trans x.c0, (World.cell?_setCell_other _ _ _ _ (by simp)).trans x.c1, (World.cell?_setCell_other _ _ _ _ (by simp)).trans x.c2, (World.cell?_setCell_other _ _ _ _ (by simp)).trans x.c3, (World.cell?_setCell_other _ _ _ _ (by simp)).trans x.c4, (World.cell?_setCell_other _ _ _ _ (by simp)).trans x.c5, (World.cell?_setCell_other _ _ _ _ (by simp)).trans x.c6, World.cell?_setCell_same _ _ _ x.c7, (World.frozen?_setCell _ _ _ _).trans x.f0, (World.frozen?_setCell _ _ _ _).trans x.f1, (World.frozen?_setCell _ _ _ _).trans x.f2, (World.frozen?_setCell _ _ _ _).trans x.f3, (World.frozen?_setCell _ _ _ _).trans x.f4, (World.frozen?_setCell _ _ _ _).trans x.f5, (World.frozen?_setCell _ _ _ _).trans x.f6, (World.frozen?_setCell _ _ _ _).trans x.f7⟩
theorem BxCu.other {p b : Nat} {a : Addr} {v : Value} {cw : Nat} {th : Nat} {si : Nat} {ha : Bool} {ep : Nat} {mo : Nat} {kk : Nat} {es : Nat} {w : World} (x : BxCu p cw th si ha ep mo kk es w) (h : a.block = b) (hb : b ≠ p) : BxCu p cw th si ha ep mo kk es (w.setCell a v) :=
  ⟨(World.cell?_setCell_other _ _ _ _ (fun e => hb (h.symm.trans (congrArg Addr.block e)))).trans x.c0, (World.cell?_setCell_other _ _ _ _ (fun e => hb (h.symm.trans (congrArg Addr.block e)))).trans x.c1, (World.cell?_setCell_other _ _ _ _ (fun e => hb (h.symm.trans (congrArg Addr.block e)))).trans x.c2, (World.cell?_setCell_other _ _ _ _ (fun e => hb (h.symm.trans (congrArg Addr.block e)))).trans x.c3, (World.cell?_setCell_other _ _ _ _ (fun e => hb (h.symm.trans (congrArg Addr.block e)))).trans x.c4, (World.cell?_setCell_other _ _ _ _ (fun e => hb (h.symm.trans (congrArg Addr.block e)))).trans x.c5, (World.cell?_setCell_other _ _ _ _ (fun e => hb (h.symm.trans (congrArg Addr.block e)))).trans x.c6, (World.cell?_setCell_other _ _ _ _ (fun e => hb (h.symm.trans (congrArg Addr.block e)))).trans x.c7, (World.frozen?_setCell _ _ _ _).trans x.f0, (World.frozen?_setCell _ _ _ _).trans x.f1, (World.frozen?_setCell _ _ _ _).trans x.f2, (World.frozen?_setCell _ _ _ _).trans x.f3, (World.frozen?_setCell _ _ _ _).trans x.f4, (World.frozen?_setCell _ _ _ _).trans x.f5, (World.frozen?_setCell _ _ _ _).trans x.f6, (World.frozen?_setCell _ _ _ _).trans x.f7⟩
end Go.Proofs.Ytjnkmghlhihjkaa
