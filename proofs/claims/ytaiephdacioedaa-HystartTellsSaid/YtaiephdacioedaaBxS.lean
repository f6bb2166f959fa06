/-
  The box of a struct: its cells at a world, a store of the whole struct, what stays. No condition.
-/
import Derived.Test.YtaiephdacioedaaPost
import Derived.WalkKit
import Derived.ProofKit
import Derived.OpenShut
import Derived.Below
namespace Go.Proofs.Ytaiephdacioedaa
open Go.ChangeShapes Go.WideShapes Go.ChangeAt Go.RowKit
set_option linter.unusedVariables false

structure BxSl (p : Nat) (ph : Int) (en : Nat) (lm : Nat) (nm : Nat) (ct : Nat) (ba : Nat) (ro : Nat) (w : World) : Prop where
  c0 : w.cell? ⟨p, 0, none⟩ = some (.int .i64 ph)
  c1 : w.cell? ⟨p, 1, none⟩ = some (.int .u64 (en : Int))
  c2 : w.cell? ⟨p, 2, none⟩ = some (.int .u64 (lm : Int))
  c3 : w.cell? ⟨p, 3, none⟩ = some (.int .u64 (nm : Int))
  c4 : w.cell? ⟨p, 4, none⟩ = some (.int .u64 (ct : Int))
  c5 : w.cell? ⟨p, 5, none⟩ = some (.int .u64 (ba : Int))
  c6 : w.cell? ⟨p, 6, none⟩ = some (.int .u64 (ro : Int))
  f0 : w.frozen? ⟨p, 0, none⟩ = false
  f1 : w.frozen? ⟨p, 1, none⟩ = false
  f2 : w.frozen? ⟨p, 2, none⟩ = false
  f3 : w.frozen? ⟨p, 3, none⟩ = false
  f4 : w.frozen? ⟨p, 4, none⟩ = false
  f5 : w.frozen? ⟨p, 5, none⟩ = false
  f6 : w.frozen? ⟨p, 6, none⟩ = false
abbrev aggSl (ph : Int) (en : Nat) (lm : Nat) (nm : Nat) (ct : Nat) (ba : Nat) (ro : Nat) : Value := .agg #[.int .i64 ph, .int .u64 (en : Int), .int .u64 (lm : Int), .int .u64 (nm : Int), .int .u64 (ct : Int), .int .u64 (ba : Int), .int .u64 (ro : Int)]
theorem BxSl.new (w : World) (ph : Int) (en : Nat) (lm : Nat) (nm : Nat) (ct : Nat) (ba : Nat) (ro : Nat) {t : TypeId} : BxSl w.heap.size ph en lm nm ct ba ro (w.alloc (.cells #[.int .i64 ph, .int .u64 (en : Int), .int .u64 (lm : Int), .int .u64 (nm : Int), .int .u64 (ct : Int), .int .u64 (ba : Int), .int .u64 (ro : Int)] t)) := by
  refine ⟨?_, ?_, ?_, ?_, ?_, ?_, ?_, World.frozen?_alloc_at _ _ _ _ rfl, World.frozen?_alloc_at _ _ _ _ rfl, World.frozen?_alloc_at _ _ _ _ rfl, World.frozen?_alloc_at _ _ _ _ rfl, World.frozen?_alloc_at _ _ _ _ rfl, World.frozen?_alloc_at _ _ _ _ rfl, World.frozen?_alloc_at _ _ _ _ rfl⟩ <;>
    (rw [World.cell?_alloc_at _ _ _ _ rfl]; rfl)
theorem BxSl.below {p B : Nat} {ph : Int} {en : Nat} {lm : Nat} {nm : Nat} {ct : Nat} {ba : Nat} {ro : Nat} {w w' : World} (x : BxSl p ph en lm nm ct ba ro w) (hb : Below B w w') (hB : p < B) : BxSl p ph en lm nm ct ba ro w' :=
  ⟨(hb.cell hB).trans x.c0, (hb.cell hB).trans x.c1, (hb.cell hB).trans x.c2, (hb.cell hB).trans x.c3, (hb.cell hB).trans x.c4, (hb.cell hB).trans x.c5, (hb.cell hB).trans x.c6, (hb.frozen hB).trans x.f0, (hb.frozen hB).trans x.f1, (hb.frozen hB).trans x.f2, (hb.frozen hB).trans x.f3, (hb.frozen hB).trans x.f4, (hb.frozen hB).trans x.f5, (hb.frozen hB).trans x.f6⟩
theorem BxSl.drewN {p : Nat} {ph : Int} {en : Nat} {lm : Nat} {nm : Nat} {ct : Nat} {ba : Nat} {ro : Nat} {w : World} (x : BxSl p ph en lm nm ct ba ro w) (n : Nat) : BxSl p ph en lm nm ct ba ro (w.drewN n) := ⟨x.c0, x.c1, x.c2, x.c3, x.c4, x.c5, x.c6, x.f0, x.f1, x.f2, x.f3, x.f4, x.f5, x.f6⟩
theorem BxSl.drew {p : Nat} {ph : Int} {en : Nat} {lm : Nat} {nm : Nat} {ct : Nat} {ba : Nat} {ro : Nat} {w : World} (x : BxSl p ph en lm nm ct ba ro w) : BxSl p ph en lm nm ct ba ro w.drew := ⟨x.c0, x.c1, x.c2, x.c3, x.c4, x.c5, x.c6, x.f0, x.f1, x.f2, x.f3, x.f4, x.f5, x.f6⟩
/-- The world behind a store of a whole struct. -/
def putSl (p : Nat) (ph : Int) (en : Nat) (lm : Nat) (nm : Nat) (ct : Nat) (ba : Nat) (ro : Nat) (w : World) : World :=
  ((((((w.setCell ⟨p, 0, none⟩ (.int .i64 ph)).setCell ⟨p, 1, none⟩ (.int .u64 (en : Int))).setCell ⟨p, 2, none⟩ (.int .u64 (lm : Int))).setCell ⟨p, 3, none⟩ (.int .u64 (nm : Int))).setCell ⟨p, 4, none⟩ (.int .u64 (ct : Int))).setCell ⟨p, 5, none⟩ (.int .u64 (ba : Int))).setCell ⟨p, 6, none⟩ (.int .u64 (ro : Int))
theorem BxSl.put {p : Nat} {ph : Int} {en : Nat} {lm : Nat} {nm : Nat} {ct : Nat} {ba : Nat} {ro : Nat} {ph' : Int} {en' : Nat} {lm' : Nat} {nm' : Nat} {ct' : Nat} {ba' : Nat} {ro' : Nat} {w : World} (x : BxSl p ph en lm nm ct ba ro w) : BxSl p ph' en' lm' nm' ct' ba' ro' (putSl p ph' en' lm' nm' ct' ba' ro' w) := by
  have e0 := x.c0
  have e1 := x.c1
  have e2 := x.c2
  have e3 := x.c3
  have e4 := x.c4
  have e5 := x.c5
  have e6 := x.c6
  unfold putSl
  refine ⟨?_, ?_, ?_, ?_, ?_, ?_, ?_, ?_, ?_, ?_, ?_, ?_, ?_, ?_⟩
  · rw [World.cell?_setCell_other _ _ _ _ (by simp), World.cell?_setCell_other _ _ _ _ (by simp), World.cell?_setCell_other _ _ _ _ (by simp), World.cell?_setCell_other _ _ _ _ (by simp), World.cell?_setCell_other _ _ _ _ (by simp), World.cell?_setCell_other _ _ _ _ (by simp)]
    exact World.cell?_setCell_same _ _ _ e0
  · rw [World.cell?_setCell_other _ _ _ _ (by simp), World.cell?_setCell_other _ _ _ _ (by simp), World.cell?_setCell_other _ _ _ _ (by simp), World.cell?_setCell_other _ _ _ _ (by simp), World.cell?_setCell_other _ _ _ _ (by simp)]
    exact World.cell?_setCell_same _ _ _ (by rw [World.cell?_setCell_other _ _ _ _ (by simp)]; exact e1)
  · rw [World.cell?_setCell_other _ _ _ _ (by simp), World.cell?_setCell_other _ _ _ _ (by simp), World.cell?_setCell_other _ _ _ _ (by simp), World.cell?_setCell_other _ _ _ _ (by simp)]
    exact World.cell?_setCell_same _ _ _ (by rw [World.cell?_setCell_other _ _ _ _ (by simp), World.cell?_setCell_other _ _ _ _ (by simp)]; exact e2)
  · rw [World.cell?_setCell_other _ _ _ _ (by simp), World.cell?_setCell_other _ _ _ _ (by simp), World.cell?_setCell_other _ _ _ _ (by simp)]
    exact World.cell?_setCell_same _ _ _ (by rw [World.cell?_setCell_other _ _ _ _ (by simp), World.cell?_setCell_other _ _ _ _ (by simp), World.cell?_setCell_other _ _ _ _ (by simp)]; exact e3)
  · rw [World.cell?_setCell_other _ _ _ _ (by simp), World.cell?_setCell_other _ _ _ _ (by simp)]
    exact World.cell?_setCell_same _ _ _ (by rw [World.cell?_setCell_other _ _ _ _ (by simp), World.cell?_setCell_other _ _ _ _ (by simp), World.cell?_setCell_other _ _ _ _ (by simp), World.cell?_setCell_other _ _ _ _ (by simp)]; exact e4)
  · rw [World.cell?_setCell_other _ _ _ _ (by simp)]
    exact World.cell?_setCell_same _ _ _ (by rw [World.cell?_setCell_other _ _ _ _ (by simp), World.cell?_setCell_other _ _ _ _ (by simp), World.cell?_setCell_other _ _ _ _ (by simp), World.cell?_setCell_other _ _ _ _ (by simp), World.cell?_setCell_other _ _ _ _ (by simp)]; exact e5)
  · exact World.cell?_setCell_same _ _ _ (by rw [World.cell?_setCell_other _ _ _ _ (by simp), World.cell?_setCell_other _ _ _ _ (by simp), World.cell?_setCell_other _ _ _ _ (by simp), World.cell?_setCell_other _ _ _ _ (by simp), World.cell?_setCell_other _ _ _ _ (by simp), World.cell?_setCell_other _ _ _ _ (by simp)]; exact e6)
  · simp only [World.frozen?_setCell]; exact x.f0
  · simp only [World.frozen?_setCell]; exact x.f1
  · simp only [World.frozen?_setCell]; exact x.f2
  · simp only [World.frozen?_setCell]; exact x.f3
  · simp only [World.frozen?_setCell]; exact x.f4
  · simp only [World.frozen?_setCell]; exact x.f5
  · simp only [World.frozen?_setCell]; exact x.f6
theorem putSl_below {p B : Nat} {ph : Int} {en : Nat} {lm : Nat} {nm : Nat} {ct : Nat} {ba : Nat} {ro : Nat} {w : World} (hp : B ≤ p) : Below B w (putSl p ph en lm nm ct ba ro w) := by
  unfold putSl
  exact Below.setCell (Below.setCell (Below.setCell (Below.setCell (Below.setCell (Below.setCell (Below.setCell (Below.refl _ _) hp _) hp _) hp _) hp _) hp _) hp _) hp _
theorem putSl_other {p q i : Nat} {ph : Int} {en : Nat} {lm : Nat} {nm : Nat} {ct : Nat} {ba : Nat} {ro : Nat} {w : World} (hq : q ≠ p) : (putSl p ph en lm nm ct ba ro w).cell? ⟨q, i, none⟩ = w.cell? ⟨q, i, none⟩ := by
  unfold putSl
  rw [World.cell?_setCell_other _ _ _ _ (fun e => hq (congrArg Addr.block e).symm), World.cell?_setCell_other _ _ _ _ (fun e => hq (congrArg Addr.block e).symm), World.cell?_setCell_other _ _ _ _ (fun e => hq (congrArg Addr.block e).symm), World.cell?_setCell_other _ _ _ _ (fun e => hq (congrArg Addr.block e).symm), World.cell?_setCell_other _ _ _ _ (fun e => hq (congrArg Addr.block e).symm), World.cell?_setCell_other _ _ _ _ (fun e => hq (congrArg Addr.block e).symm), World.cell?_setCell_other _ _ _ _ (fun e => hq (congrArg Addr.block e).symm)]
theorem BxSl.set0 {p : Nat} {ph : Int} {en : Nat} {lm : Nat} {nm : Nat} {ct : Nat} {ba : Nat} {ro : Nat} {ph' : Int} {w : World} (x : BxSl p ph en lm nm ct ba ro w) : BxSl p ph' en lm nm ct ba ro (w.setCell ⟨p, 0, none⟩ (.int .i64 ph')) :=
  ⟨World.cell?_setCell_same _ _ _ x.c0, (World.cell?_setCell_other _ _ _ _ (by simp)).trans x.c1, (World.cell?_setCell_other _ _ _ _ (by simp)).trans x.c2, (World.cell?_setCell_other _ _ _ _ (by simp)).trans x.c3, (World.cell?_setCell_other _ _ _ _ (by simp)).trans x.c4, (World.cell?_setCell_other _ _ _ _ (by simp)).trans x.c5, (World.cell?_setCell_other _ _ _ _ (by simp)).trans x.c6, (World.frozen?_setCell _ _ _ _).trans x.f0, (World.frozen?_setCell _ _ _ _).trans x.f1, (World.frozen?_setCell _ _ _ _).trans x.f2, (World.frozen?_setCell _ _ _ _).trans x.f3, (World.frozen?_setCell _ _ _ _).trans x.f4, (World.frozen?_setCell _ _ _ _).trans x.f5, (World.frozen?_setCell _ _ _ _).trans x.f6⟩
theorem BxSl.set1 {p : Nat} {ph : Int} {en : Nat} {lm : Nat} {nm : Nat} {ct : Nat} {ba : Nat} {ro : Nat} {en' : Nat} {w : World} (x : BxSl p ph en lm nm ct ba ro w) : BxSl p ph en' lm nm ct ba ro (w.setCell ⟨p, 1, none⟩ (.int .u64 (en' : Int))) :=
  ⟨(World.cell?_setCell_other _ _ _ _ (by simp)).trans x.c0, World.cell?_setCell_same _ _ _ x.c1, (World.cell?_setCell_other _ _ _ _ (by simp)).trans x.c2, (World.cell?_setCell_other _ _ _ _ (by simp)).trans x.c3, (World.cell?_setCell_other _ _ _ _ (by simp)).trans x.c4, (World.cell?_setCell_other _ _ _ _ (by simp)).trans x.c5, (World.cell?_setCell_other _ _ _ _ (by simp)).trans x.c6, (World.frozen?_setCell _ _ _ _).trans x.f0, (World.frozen?_setCell _ _ _ _).trans x.f1, (World.frozen?_setCell _ _ _ _).trans x.f2, (World.frozen?_setCell _ _ _ _).trans x.f3, (World.frozen?_setCell _ _ _ _).trans x.f4, (World.frozen?_setCell _ _ _ _).trans x.f5, (World.frozen?_setCell _ _ _ _).trans x.f6⟩
theorem BxSl.set2 {p : Nat} {ph : Int} {en : Nat} {lm : Nat} {nm : Nat} {ct : Nat} {ba : Nat} {ro : Nat} {lm' : Nat} {w : World} (x : BxSl p ph en lm nm ct ba ro w) : BxSl p ph en lm' nm ct ba ro (w.setCell ⟨p, 2, none⟩ (.int .u64 (lm' : Int))) :=
  ⟨(World.cell?_setCell_other _ _ _ _ (by simp)).trans x.c0, (World.cell?_setCell_other _ _ _ _ (by simp)).trans x.c1, World.cell?_setCell_same _ _ _ x.c2, (World.cell?_setCell_other _ _ _ _ (by simp)).trans x.c3, (World.cell?_setCell_other _ _ _ _ (by simp)).trans x.c4, (World.cell?_setCell_other _ _ _ _ (by simp)).trans x.c5, (World.cell?_setCell_other _ _ _ _ (by simp)).trans x.c6, (World.frozen?_setCell _ _ _ _).trans x.f0, (World.frozen?_setCell _ _ _ _).trans x.f1, (World.frozen?_setCell _ _ _ _).trans x.f2, (World.frozen?_setCell _ _ _ _).trans x.f3, (World.frozen?_setCell _ _ _ _).trans x.f4, (World.frozen?_setCell _ _ _ _).trans x.f5, (World.frozen?_setCell _ _ _ _).trans x.f6⟩
theorem BxSl.set3 {p : Nat} {ph : Int} {en : Nat} {lm : Nat} {nm : Nat} {ct : Nat} {ba : Nat} {ro : Nat} {nm' : Nat} {w : World} (x : BxSl p ph en lm nm ct ba ro w) : BxSl p ph en lm nm' ct ba ro (w.setCell ⟨p, 3, none⟩ (.int .u64 (nm' : Int))) :=
  ⟨(World.cell?_setCell_other _ _ _ _ (by simp)).trans x.c0, (World.cell?_setCell_other _ _ _ _ (by simp)).trans x.c1, (World.cell?_setCell_other _ _ _ _ (by simp)).trans x.c2, World.cell?_setCell_same _ _ _ x.c3, (World.cell?_setCell_other _ _ _ _ (by simp)).trans x.c4, (World.cell?_setCell_other _ _ _ _ (by simp)).trans x.c5, (World.cell?_setCell_other _ _ _ _ (by simp)).trans x.c6, (World.frozen?_setCell _ _ _ _).trans x.f0, (World.frozen?_setCell _ _ _ _).trans x.f1, (World.frozen?_setCell _ _ _ _).trans x.f2, (World.frozen?_setCell _ _ _ _).trans x.f3, (World.frozen?_setCell _ _ _ _).trans x.f4, (World.frozen?_setCell _ _ _ _).trans x.f5, (World.frozen?_setCell _ _ _ _).trans x.f6⟩
theorem BxSl.set4 {p : Nat} {ph : Int} {en : Nat} {lm : Nat} {nm : Nat} {ct : Nat} {ba : Nat} {ro : Nat} {ct' : Nat} {w : World} (x : BxSl p ph en lm nm ct ba ro w) : BxSl p ph en lm nm ct' ba ro (w.setCell ⟨p, 4, none⟩ (.int .u64 (ct' : Int))) :=
  ⟨(World.cell?_setCell_other _ _ _ _ (by simp)).trans x.c0, (World.cell?_setCell_other _ _ _ _ (by simp)).trans x.c1, (World.cell?_setCell_other _ _ _ _ (by simp)).trans x.c2, (World.cell?_setCell_other _ _ _ _ (by simp)).trans x.c3, World.cell?_setCell_same _ _ _ x.c4, (World.cell?_setCell_other _ _ _ _ (by simp)).trans x.c5, (World.cell?_setCell_other _ _ _ _ (by simp)).trans x.c6, (World.frozen?_setCell _ _ _ _).trans x.f0, (World.frozen?_setCell _ _ _ _).trans x.f1, (World.frozen?_setCell _ _ _ _).trans x.f2, (World.frozen?_setCell _ _ _ _).trans x.f3, (World.frozen?_setCell _ _ _ _).trans x.f4, (World.frozen?_setCell _ _ _ _).trans x.f5, (World.frozen?_setCell _ _ _ _).trans x.f6⟩
theorem BxSl.set5 {p : Nat} {ph : Int} {en : Nat} {lm : Nat} {nm : Nat} {ct : Nat} {ba : Nat} {ro : Nat} {ba' : Nat} {w : World} (x : BxSl p ph en lm nm ct ba ro w) : BxSl p ph en lm nm ct ba' ro (w.setCell ⟨p, 5, none⟩ (.int .u64 (ba' : Int))) :=
  ⟨(World.cell?_setCell_other _ _ _ _ (by simp)).trans x.c0, (World.cell?_setCell_other _ _ _ _ (by simp)).trans x.c1, (World.cell?_setCell_other _ _ _ _ (by simp)).trans x.c2, (World.cell?_setCell_other _ _ _ _ (by simp)).trans x.c3, (World.cell?_setCell_other _ _ _ _ (by simp)).trans x.c4, World.cell?_setCell_same _ _ _ x.c5, (World.cell?_setCell_other _ _ _ _ (by simp)).trans x.c6, (World.frozen?_setCell _ _ _ _).trans x.f0, (World.frozen?_setCell _ _ _ _).trans x.f1, (World.frozen?_setCell _ _ _ _).trans x.f2, (World.frozen?_setCell _ _ _ _).trans x.f3, (World.frozen?_setCell _ _ _ _).trans x.f4, (World.frozen?_setCell _ _ _ _).trans x.f5, (World.frozen?_setCell _ _ _ _).trans x.f6⟩
theorem BxSl.set6 {p : Nat} {ph : Int} {en : Nat} {lm : Nat} {nm : Nat} {ct : Nat} {ba : Nat} {ro : Nat} {ro' : Nat} {w : World} (x : BxSl p ph en lm nm ct ba ro w) : BxSl p ph en lm nm ct ba ro' (w.setCell ⟨p, 6, none⟩ (.int .u64 (ro' : Int))) :=
  ⟨(World.cell?_setCell_other _ _ _ _ (by simp)).trans x.c0, (World.cell?_setCell_other _ _ _ _ (by simp)).trans x.c1, (World.cell?_setCell_other _ _ _ _ (by simp)).trans x.c2, (World.cell?_setCell_other _ _ _ _ (by simp)).trans x.c3, (World.cell?_setCell_other _ _ _ _ (by simp)).trans x.c4, (World.cell?_setCell_other _ _ _ _ (by simp)).trans x.c5, World.cell?_setCell_same _ _ _ x.c6, (World.frozen?_setCell _ _ _ _).trans x.f0, (World.frozen?_setCell _ _ _ _).trans x.f1, (World.frozen?_setCell _ _ _ _).trans x.f2, (World.frozen?_setCell _ _ _ _).trans x.f3, (World.frozen?_setCell _ _ _ _).trans x.f4, (World.frozen?_setCell _ _ _ _).trans x.f5, (World.frozen?_setCell _ _ _ _).trans x.f6⟩
theorem BxSl.other {p b : Nat} {a : Addr} {v : Value} {ph : Int} {en : Nat} {lm : Nat} {nm : Nat} {ct : Nat} {ba : Nat} {ro : Nat} {w : World} (x : BxSl p ph en lm nm ct ba ro w) (h : a.block = b) (hb : b ≠ p) : BxSl p ph en lm nm ct ba ro (w.setCell a v) :=
  ⟨(World.cell?_setCell_other _ _ _ _ (fun e => hb (h.symm.trans (congrArg Addr.block e)))).trans x.c0, (World.cell?_setCell_other _ _ _ _ (fun e => hb (h.symm.trans (congrArg Addr.block e)))).trans x.c1, (World.cell?_setCell_other _ _ _ _ (fun e => hb (h.symm.trans (congrArg Addr.block e)))).trans x.c2, (World.cell?_setCell_other _ _ _ _ (fun e => hb (h.symm.trans (congrArg Addr.block e)))).trans x.c3, (World.cell?_setCell_other _ _ _ _ (fun e => hb (h.symm.trans (congrArg Addr.block e)))).trans x.c4, (World.cell?_setCell_other _ _ _ _ (fun e => hb (h.symm.trans (congrArg Addr.block e)))).trans x.c5, (World.cell?_setCell_other _ _ _ _ (fun e => hb (h.symm.trans (congrArg Addr.block e)))).trans x.c6, (World.frozen?_setCell _ _ _ _).trans x.f0, (World.frozen?_setCell _ _ _ _).trans x.f1, (World.frozen?_setCell _ _ _ _).trans x.f2, (World.frozen?_setCell _ _ _ _).trans x.f3, (World.frozen?_setCell _ _ _ _).trans x.f4, (World.frozen?_setCell _ _ _ _).trans x.f5, (World.frozen?_setCell _ _ _ _).trans x.f6⟩
end Go.Proofs.Ytaiephdacioedaa
