/-
  What package rtt's guess, known, the closure of Update and undelayed return, for all numbers of 64 bits. No condition.
-/
import Derived.Test.YteaodhgfmbcmfaaRttM
import Derived.Test.YteaodhgfmbcmfaaFixMul
import Derived.Test.YteaodhgfmbcmfaaPost
namespace Go.Proofs.Yteaodhgfmbcmfaa
open Go.ChangeShapes Go.WideShapes Go.ChangeAt Go.RowKit
set_option linter.unusedVariables false

theorem guess_any (w : World) : Calls Try.prog 16 #[] w fun e w' => e = .returned (.agg #[.bool false, .int .u64 0, .int .u64 0, .int .u64 333, .int .u64 166]) ∧ Below w.heap.size w w' := by
  have B := Lib.hid (fun (o : Obj) => (Below.refl w.heap.size w).alloc (Nat.le_refl _) o)
  go_enter Try.func16, Try.ntmps16
  go_wp2_with fail
  exact bodyPost_ret (v := .agg #[.bool false, .int .u64 0, .int .u64 0, .int .u64 333, .int .u64 166]) (by simp [results, Try.results16, go_sem]) rfl ⟨rfl, B.out _⟩

/-- The box of an estimate: its cells, at a world. -/
structure Bx (p : Nat) (h : Bool) (a b c d : Nat) (w : World) : Prop where
  c0 : w.cell? ⟨p, 0, none⟩ = some (.bool h)
  c1 : w.cell? ⟨p, 1, none⟩ = some (.int .u64 (a : Int))
  c2 : w.cell? ⟨p, 2, none⟩ = some (.int .u64 (b : Int))
  c3 : w.cell? ⟨p, 3, none⟩ = some (.int .u64 (c : Int))
  c4 : w.cell? ⟨p, 4, none⟩ = some (.int .u64 (d : Int))
  f0 : w.frozen? ⟨p, 0, none⟩ = false
  f1 : w.frozen? ⟨p, 1, none⟩ = false
  f2 : w.frozen? ⟨p, 2, none⟩ = false
  f3 : w.frozen? ⟨p, 3, none⟩ = false
  f4 : w.frozen? ⟨p, 4, none⟩ = false
theorem Bx.new (w : World) (h : Bool) (a b c d : Nat) {t : TypeId} : Bx w.heap.size h a b c d (w.alloc (.cells #[.bool h, .int .u64 (a : Int), .int .u64 (b : Int), .int .u64 (c : Int), .int .u64 (d : Int)] t)) := by
  refine ⟨?_, ?_, ?_, ?_, ?_, World.frozen?_alloc_at _ _ _ _ rfl, World.frozen?_alloc_at _ _ _ _ rfl, World.frozen?_alloc_at _ _ _ _ rfl, World.frozen?_alloc_at _ _ _ _ rfl, World.frozen?_alloc_at _ _ _ _ rfl⟩ <;>
    (rw [World.cell?_alloc_at _ _ _ _ rfl]; rfl)
theorem Bx.below {p a b c d B : Nat} {h : Bool} {w w' : World} (x : Bx p h a b c d w) (hb : Below B w w') (hB : p < B) : Bx p h a b c d w' :=
  ⟨(hb.cell hB).trans x.c0, (hb.cell hB).trans x.c1, (hb.cell hB).trans x.c2, (hb.cell hB).trans x.c3, (hb.cell hB).trans x.c4,
    (hb.frozen hB).trans x.f0, (hb.frozen hB).trans x.f1, (hb.frozen hB).trans x.f2, (hb.frozen hB).trans x.f3, (hb.frozen hB).trans x.f4⟩
theorem Bx.drewN {p a b c d : Nat} {h : Bool} {w : World} (x : Bx p h a b c d w) (n : Nat) : Bx p h a b c d (w.drewN n) := ⟨x.c0, x.c1, x.c2, x.c3, x.c4, x.f0, x.f1, x.f2, x.f3, x.f4⟩
theorem drew_cell (w : World) (p : Addr) : w.drew.cell? p = w.cell? p := rfl
theorem Bx.drew {p a b c d : Nat} {h : Bool} {w : World} (x : Bx p h a b c d w) : Bx p h a b c d w.drew := ⟨x.c0, x.c1, x.c2, x.c3, x.c4, x.f0, x.f1, x.f2, x.f3, x.f4⟩
/-- The box behind a store of a whole estimate. -/
def put (p : Nat) (h : Bool) (a b c d : Nat) (w : World) : World :=
  ((((w.setCell ⟨p, 0, none⟩ (.bool h)).setCell ⟨p, 1, none⟩ (.int .u64 (a : Int))).setCell ⟨p, 2, none⟩ (.int .u64 (b : Int))).setCell ⟨p, 3, none⟩ (.int .u64 (c : Int))).setCell ⟨p, 4, none⟩ (.int .u64 (d : Int))
theorem Bx.put {p a b c d a' b' c' d' : Nat} {h h' : Bool} {w : World} (x : Bx p h a b c d w) : Bx p h' a' b' c' d' (put p h' a' b' c' d' w) := by
  have e0 := x.c0
  have e1 := x.c1
  have e2 := x.c2
  have e3 := x.c3
  have e4 := x.c4
  unfold Go.Proofs.Yteaodhgfmbcmfaa.put
  refine ⟨?_, ?_, ?_, ?_, ?_, ?_, ?_, ?_, ?_, ?_⟩
  · rw [World.cell?_setCell_other _ _ _ _ (by simp), World.cell?_setCell_other _ _ _ _ (by simp), World.cell?_setCell_other _ _ _ _ (by simp), World.cell?_setCell_other _ _ _ _ (by simp), World.cell?_setCell_same _ _ _ e0]
  · rw [World.cell?_setCell_other _ _ _ _ (by simp), World.cell?_setCell_other _ _ _ _ (by simp), World.cell?_setCell_other _ _ _ _ (by simp)]
    exact World.cell?_setCell_same _ _ _ ((World.cell?_setCell_other _ _ _ _ (by simp)).trans e1)
  · rw [World.cell?_setCell_other _ _ _ _ (by simp), World.cell?_setCell_other _ _ _ _ (by simp)]
    exact World.cell?_setCell_same _ _ _ (by rw [World.cell?_setCell_other _ _ _ _ (by simp), World.cell?_setCell_other _ _ _ _ (by simp)]; exact e2)
  · rw [World.cell?_setCell_other _ _ _ _ (by simp)]
    exact World.cell?_setCell_same _ _ _ (by rw [World.cell?_setCell_other _ _ _ _ (by simp), World.cell?_setCell_other _ _ _ _ (by simp), World.cell?_setCell_other _ _ _ _ (by simp)]; exact e3)
  · exact World.cell?_setCell_same _ _ _ (by rw [World.cell?_setCell_other _ _ _ _ (by simp), World.cell?_setCell_other _ _ _ _ (by simp), World.cell?_setCell_other _ _ _ _ (by simp), World.cell?_setCell_other _ _ _ _ (by simp)]; exact e4)
  · simp only [World.frozen?_setCell]; exact x.f0
  · simp only [World.frozen?_setCell]; exact x.f1
  · simp only [World.frozen?_setCell]; exact x.f2
  · simp only [World.frozen?_setCell]; exact x.f3
  · simp only [World.frozen?_setCell]; exact x.f4
theorem put_below {p B : Nat} {h : Bool} {a b c d : Nat} {w : World} (hp : B ≤ p) : Below B w (put p h a b c d w) := by
  unfold put
  exact Below.setCell (Below.setCell (Below.setCell (Below.setCell (Below.setCell (Below.refl _ _) hp _) hp _) hp _) hp _) hp _

theorem put_other {p q i : Nat} {h : Bool} {a b c d : Nat} {w : World} (hq : q ≠ p) : (put p h a b c d w).cell? ⟨q, i, none⟩ = w.cell? ⟨q, i, none⟩ := by
  unfold put
  rw [World.cell?_setCell_other _ _ _ _ (fun e => hq (congrArg Addr.block e).symm), World.cell?_setCell_other _ _ _ _ (fun e => hq (congrArg Addr.block e).symm), World.cell?_setCell_other _ _ _ _ (fun e => hq (congrArg Addr.block e).symm), World.cell?_setCell_other _ _ _ _ (fun e => hq (congrArg Addr.block e).symm), World.cell?_setCell_other _ _ _ _ (fun e => hq (congrArg Addr.block e).symm)]

set_option maxHeartbeats 2000000 in
theorem known_any (h : Bool) (a b c d a' b' c' d' : Nat) (w : World) (he : Wig.rknown ⟨h, a, b, c, d⟩ = ⟨h, a', b', c', d'⟩) :
    Calls Try.prog 15 #[.agg #[.bool h, .int .u64 (a : Int), .int .u64 (b : Int), .int .u64 (c : Int), .int .u64 (d : Int)]] w fun e w' =>
      e = .returned (.agg #[.bool h, .int .u64 (a' : Int), .int .u64 (b' : Int), .int .u64 (c' : Int), .int .u64 (d' : Int)]) ∧ Below w.heap.size w w' := by
  have C := Lib.hid (fun w => guess_any w)
  cases h with
  | false =>
    unfold Wig.rknown Wig.rguess at he
    rw [if_neg (by simp)] at he
    injection he with _ e1 e2 e3 e4
    subst e1 e2 e3 e4
    obtain ⟨w1, hw1⟩ : ∃ w1, w1 = w.alloc (.cells #[.bool false, .int .u64 (a : Int), .int .u64 (b : Int), .int .u64 (c : Int), .int .u64 (d : Int)] 24) := ⟨_, rfl⟩
    obtain ⟨w2, hw2⟩ : ∃ w2, w2 = w1.alloc (.cells #[.bool false, .int .u64 0, .int .u64 0, .int .u64 0, .int .u64 0] 24) := ⟨_, rfl⟩
    have HB1 := Lib.hid (show Below w.heap.size w w1 by rw [hw1]; exact (Below.refl _ _).alloc (Nat.le_refl _) _)
    have hs1 : w1.heap.size = w.heap.size + 1 := by rw [hw1]; simp
    have HB2 := Lib.hid (show Below w.heap.size w w2 by rw [hw2]; exact HB1.out.alloc (by omega) _)
    have HS := Lib.hid (show w.heap.size + 1 < w2.heap.size by rw [hw2]; simp; omega)
    have HX := Lib.hid (show Bx (w.heap.size + 1) false 0 0 0 0 w2 by rw [hw2, ← hs1]; exact Bx.new w1 false 0 0 0 0)
    clear hs1
    go_enter Try.func15, Try.ntmps15
    go_wp2_with fail
    rw [← hw1, ← hw2]
    clear hw1 hw2 HB1
    refine (C.out _).mono ?_
    rintro e w3 ⟨rfl, hb⟩
    have X := Lib.hid (HX.out.below hb HS.out)
    have B := Lib.hid (HB2.out.trans (hb.mono HB2.out.size))
    obtain ⟨k0, k1, k2, k3, k4, l0, l1, l2, l3, l4⟩ := X.out
    clear hb HX
    go_wp2_with fail
    show bodyPost _ _ _ _ _ (put (w.heap.size + 1) false 0 0 333 166 w3)
    have Y := Lib.hid (B.out.trans ((put_below (B := w.heap.size) (p := w.heap.size + 1) (h := false) (a := 0) (b := 0) (c := 333) (d := 166) (w := w3) (by omega))))
    obtain ⟨k0, k1, k2, k3, k4, _, _, _, _, _⟩ := X.out.put (h' := false) (a' := 0) (b' := 0) (c' := 333) (d' := 166)
    exact bodyPost_ret (v := .agg #[.bool false, .int .u64 0, .int .u64 0, .int .u64 333, .int .u64 166]) (by simp [results, Try.results15, k0, k1, k2, k3, k4, go_sem]) rfl ⟨rfl, Y.out⟩
  | true =>
    unfold Wig.rknown at he
    rw [if_pos rfl] at he
    injection he with _ e1 e2 e3 e4
    subst e1 e2 e3 e4
    have B := Lib.hid (fun (o o' : Obj) => ((Below.refl w.heap.size w).alloc (Nat.le_refl _) o).alloc (by simp) o')
    go_enter Try.func15, Try.ntmps15
    go_wp2_with fail
    exact bodyPost_ret (v := .agg #[.bool true, .int .u64 (a : Int), .int .u64 (b : Int), .int .u64 (c : Int), .int .u64 (d : Int)]) (by simp [results, Try.results15, go_sem]) rfl ⟨rfl, B.out _ _⟩

theorem far_any (n p c : Nat) (w : World) (hn : n < 18446744073709551616) (hc : c < 18446744073709551616) (k : w.cell? ⟨p, 3, none⟩ = some (.int .u64 (c : Int))) :
    Calls Try.prog 17 #[.int .u64 (n : Int), .pointer (some ⟨p, 0, none⟩)] w fun e w' => e = .returned (.int .u64 ((Wig.rgap n c : Nat) : Int)) ∧ w = w' := by
  go_enter Try.func17, Try.ntmps17
  go_wp2_with fail
  all_goals
    go_ret
    exact ⟨ret_u64 (by unfold Wig.rgap; omega), rfl⟩

theorem undelayed_any (s l d : Nat) (w : World) (hs : s < 18446744073709551616) (hl : l < 18446744073709551616) (hd : d < 18446744073709551616) :
    Calls Try.prog 18 #[.int .u64 (s : Int), .int .u64 (l : Int), .int .u64 (d : Int)] w fun e w' => e = .returned (.int .u64 ((Wig.rown s l d : Nat) : Int)) ∧ w = w' := by
  have C := Lib.hid (fun w => add_any l d w hl hd)
  obtain ⟨r, hr⟩ : ∃ r, r = Wig.rown s l d := ⟨_, rfl⟩
  rw [← hr]
  obtain ⟨t, ht⟩ : ∃ t, t = Wig.fadd l d := ⟨_, rfl⟩
  rw [← ht] at C
  unfold Wig.rown at hr
  rw [← ht] at hr
  by_cases h : s < t
  · rw [if_pos h] at hr
    subst hr
    have h2 : decide (r < t) = true := decide_eq_true h
    clear ht h hs hl hd
    go_enter Try.func18, Try.ntmps18
    go_wp2_with fail
    refine (C.out _).mono ?_
    rintro e _ ⟨rfl, rfl⟩
    go_wp2_with fail
    go_ret
    exact ⟨rfl, rfl⟩
  · rw [if_neg h] at hr
    have hge : d ≤ s := by unfold Wig.fadd at ht; split at ht <;> omega
    have h2 : decide (s < t) = false := decide_eq_false h
    have e1 : IntKind.u64.wrap ((s : Int) - (d : Int)) = (r : Int) := by rw [IntKind.wrap_u64]; omega
    clear ht h hs hl hd hr
    go_enter Try.func18, Try.ntmps18
    go_wp2_with fail
    refine (C.out _).mono ?_
    rintro e _ ⟨rfl, rfl⟩
    go_wp2_with fail
    go_ret
    exact ⟨rfl, rfl⟩
end Go.Proofs.Yteaodhgfmbcmfaa
