/-
  What package varint's greatest and placeOf return, and the document's Size, for all numbers of 64 bits. Condition: the table of sizes holds what its text lays.
-/
import Derived.Test.YtogioabdijgglaaDoorVarM
import Derived.Test.YtogioabdijgglaaDoorByt
import Derived.WalkKit
import Derived.OwnWalk
import Derived.Deep.LoopGhost
import Derived.Lib.LaidTab
import Derived.LaidHandle
namespace Go.Proofs.YtogioabdijgglaaDoor
open Go.ChangeShapes Go.WideShapes Go.ChangeAt Go.RowKit Go.Deep
set_option linter.unusedVariables false

/-- The table of sizes. -/
structure Tab (w : World) : Prop where
  c0 : w.cell? ⟨1, 0, none⟩ = some (.int .i64 1)
  c1 : w.cell? ⟨1, 1, none⟩ = some (.int .i64 2)
  c2 : w.cell? ⟨1, 2, none⟩ = some (.int .i64 4)
  c3 : w.cell? ⟨1, 3, none⟩ = some (.int .i64 8)
theorem Tab.below {w w' : World} (h : Tab w) (hb : Below w.heap.size w w') : Tab w' := by
  have hs := World.block_lt_of_cell? w _ h.c0
  have k : ∀ j, w'.cell? ⟨1, j, none⟩ = w.cell? ⟨1, j, none⟩ := fun j => hb.cell hs
  exact ⟨(k 0).trans h.c0, (k 1).trans h.c1, (k 2).trans h.c2, (k 3).trans h.c3⟩
theorem Tab.under {B : Nat} {w w' : World} (h : Tab w) (hb : Below B w w') (hB : w.heap.size ≤ B) : Tab w' := h.below (hb.mono hB)
theorem Tab.at_ {w : World} (h : Tab w) (k : Nat) (hk : k < 4) : w.cell? ⟨1, k, none⟩ = some (.int .i64 ((Wig.vsz k : Nat) : Int)) := by
  have : k = 0 ∨ k = 1 ∨ k = 2 ∨ k = 3 := by omega
  rcases this with rfl | rfl | rfl | rfl
  · exact h.c0
  · exact h.c1
  · exact h.c2
  · exact h.c3

theorem greatest_0 (w : World) : Calls Tryd.prog 52 #[.int .i64 1] w fun e w' => e = .returned (.int .u64 63) ∧ w = w' := by
  go_enter Tryd.func52, Tryd.ntmps52
  go_wp2_with fail
  go_ret
  exact ⟨rfl, rfl⟩
theorem greatest_1 (w : World) : Calls Tryd.prog 52 #[.int .i64 2] w fun e w' => e = .returned (.int .u64 16383) ∧ w = w' := by
  go_enter Tryd.func52, Tryd.ntmps52
  go_wp2_with fail
  go_ret
  exact ⟨rfl, rfl⟩
theorem greatest_2 (w : World) : Calls Tryd.prog 52 #[.int .i64 4] w fun e w' => e = .returned (.int .u64 1073741823) ∧ w = w' := by
  go_enter Tryd.func52, Tryd.ntmps52
  go_wp2_with fail
  go_ret
  exact ⟨rfl, rfl⟩
theorem greatest_3 (w : World) : Calls Tryd.prog 52 #[.int .i64 8] w fun e w' => e = .returned (.int .u64 4611686018427387903) ∧ w = w' := by
  go_enter Tryd.func52, Tryd.ntmps52
  go_wp2_with fail
  go_ret
  exact ⟨rfl, rfl⟩
theorem greatest_any (k : Nat) (w : World) (hk : k < 4) :
    Calls Tryd.prog 52 #[.int .i64 ((Wig.vsz k : Nat) : Int)] w fun e w' => e = .returned (.int .u64 ((Wig.vmost k : Nat) : Int)) ∧ w = w' := by
  have : k = 0 ∨ k = 1 ∨ k = 2 ∨ k = 3 := by omega
  rcases this with rfl | rfl | rfl | rfl
  · exact greatest_0 w
  · exact greatest_1 w
  · exact greatest_2 w
  · exact greatest_3 w

theorem rsize_any (v : Nat) (w : World) :
    Calls Tryd.prog 47 #[.int .u64 (v : Int)] w fun e w' => e = .returned (.int .i64 ((Wig.vsize v : Nat) : Int)) ∧ w = w' := by
  unfold Wig.vsize
  rcases Wig.vplace_cases v with ⟨p, b⟩ | ⟨p, b, c⟩ | ⟨p, b, c⟩ | ⟨p, b, c⟩ | ⟨p, b⟩ <;> rw [p]
  · have t1 : decide ((v : Int) < 64) = true := decide_eq_true (by omega)
    clear p b
    go_enter Tryd.func47, Tryd.ntmps47
    go_wp2_with fail
    go_ret
    exact ⟨rfl, rfl⟩
  · have t1 : decide ((v : Int) < 64) = false := decide_eq_false (by omega)
    have t2 : decide ((v : Int) < 16384) = true := decide_eq_true (by omega)
    clear p b c
    go_enter Tryd.func47, Tryd.ntmps47
    go_wp2_with fail
    go_ret
    exact ⟨rfl, rfl⟩
  · have t1 : decide ((v : Int) < 64) = false := decide_eq_false (by omega)
    have t2 : decide ((v : Int) < 16384) = false := decide_eq_false (by omega)
    have t3 : decide ((v : Int) < 1073741824) = true := decide_eq_true (by omega)
    clear p b c
    go_enter Tryd.func47, Tryd.ntmps47
    go_wp2_with fail
    go_ret
    exact ⟨rfl, rfl⟩
  · have t1 : decide ((v : Int) < 64) = false := decide_eq_false (by omega)
    have t2 : decide ((v : Int) < 16384) = false := decide_eq_false (by omega)
    have t3 : decide ((v : Int) < 1073741824) = false := decide_eq_false (by omega)
    have t4 : decide ((v : Int) ≤ 4611686018427387903) = true := decide_eq_true (by omega)
    clear p b c
    go_enter Tryd.func47, Tryd.ntmps47
    go_wp2_with fail
    go_ret
    exact ⟨rfl, rfl⟩
  · have t1 : decide ((v : Int) < 64) = false := decide_eq_false (by omega)
    have t2 : decide ((v : Int) < 16384) = false := decide_eq_false (by omega)
    have t3 : decide ((v : Int) < 1073741824) = false := decide_eq_false (by omega)
    have t4 : decide ((v : Int) ≤ 4611686018427387903) = false := decide_eq_false (by omega)
    clear p b
    go_enter Tryd.func47, Tryd.ntmps47
    go_wp2_with fail
    go_ret
    exact ⟨rfl, rfl⟩

/-- At a round's head: k sizes have been asked, and none of them holds v. -/
def PlaceRel (v : Nat) (i : Value) : Prop := ∃ k : Nat, k ≤ 4 ∧ i = .int .i64 (k : Int) ∧ k ≤ Wig.vplace v

theorem place_hit {v k : Nat} (hk : k < 4) (h : k ≤ Wig.vplace v) (hv : v ≤ Wig.vmost k) : Wig.vplace v = k := by
  have := Wig.vplace_cases v
  have c : k = 0 ∨ k = 1 ∨ k = 2 ∨ k = 3 := by omega
  rcases c with rfl | rfl | rfl | rfl <;> simp only [Wig.vmost] at hv <;> omega
theorem place_miss {v k : Nat} (hk : k < 4) (h : k ≤ Wig.vplace v) (hv : ¬ v ≤ Wig.vmost k) : k + 1 ≤ Wig.vplace v := by
  have := Wig.vplace_cases v
  have c : k = 0 ∨ k = 1 ∨ k = 2 ∨ k = 3 := by omega
  rcases c with rfl | rfl | rfl | rfl <;> simp only [Wig.vmost] at hv <;> omega

theorem index_0 : ∀ w : World, (Instr.index 88 (.agg #[.int .i64 1, .int .i64 2, .int .i64 4, .int .i64 8]) (.int .i64 0)).run Tryd.prog w = .ok (.int .i64 1) w := fun _ => by kernel_rfl
theorem index_1 : ∀ w : World, (Instr.index 88 (.agg #[.int .i64 1, .int .i64 2, .int .i64 4, .int .i64 8]) (.int .i64 1)).run Tryd.prog w = .ok (.int .i64 2) w := fun _ => by kernel_rfl
theorem index_2 : ∀ w : World, (Instr.index 88 (.agg #[.int .i64 1, .int .i64 2, .int .i64 4, .int .i64 8]) (.int .i64 2)).run Tryd.prog w = .ok (.int .i64 4) w := fun _ => by kernel_rfl
theorem index_3 : ∀ w : World, (Instr.index 88 (.agg #[.int .i64 1, .int .i64 2, .int .i64 4, .int .i64 8]) (.int .i64 3)).run Tryd.prog w = .ok (.int .i64 8) w := fun _ => by kernel_rfl
theorem index_at (w : World) (k : Nat) (hk : k < 4) : (Instr.index 88 (.agg #[.int .i64 1, .int .i64 2, .int .i64 4, .int .i64 8]) (.int .i64 (k : Int))).run Tryd.prog w = .ok (.int .i64 ((Wig.vsz k : Nat) : Int)) w := by
  have : k = 0 ∨ k = 1 ∨ k = 2 ∨ k = 3 := by omega
  rcases this with rfl | rfl | rfl | rfl
  · exact index_0 w
  · exact index_1 w
  · exact index_2 w
  · exact index_3 w

set_option maxHeartbeats 1000000 in
theorem placeOf_any (v : Nat) (w : World) (hT : Tab w) :
    Calls Tryd.prog 46 #[.int .u64 (v : Int)] w fun e w' => e = .returned (.int .i64 ((Wig.vplace v : Nat) : Int)) ∧ w = w' := by
  have h0 := hT.c0
  have h1 := hT.c1
  have h2 := hT.c2
  have h3 := hT.c3
  clear hT
  go_enter Tryd.func46, Tryd.ntmps46
  go_wp2_with fail
  go_loop [6] (fun i => PlaceRel v i) (fun i => 4 - (intOf i).toNat)
  case atStart => exact ⟨0, by omega, rfl, Nat.zero_le _⟩
  case round =>
    have hx0 : (Instr.index 88 (.agg #[.int .i64 1, .int .i64 2, .int .i64 4, .int .i64 8]) (.int .i64 0)).run Tryd.prog w = .ok (.int .i64 1) w := index_at w 0 (by omega)
    have hx1 : (Instr.index 88 (.agg #[.int .i64 1, .int .i64 2, .int .i64 4, .int .i64 8]) (.int .i64 1)).run Tryd.prog w = .ok (.int .i64 2) w := index_at w 1 (by omega)
    have hx2 : (Instr.index 88 (.agg #[.int .i64 1, .int .i64 2, .int .i64 4, .int .i64 8]) (.int .i64 2)).run Tryd.prog w = .ok (.int .i64 4) w := index_at w 2 (by omega)
    have hx3 : (Instr.index 88 (.agg #[.int .i64 1, .int .i64 2, .int .i64 4, .int .i64 8]) (.int .i64 3)).run Tryd.prog w = .ok (.int .i64 8) w := index_at w 3 (by omega)
    obtain ⟨k, hk, rfl, hp⟩ := hrel
    by_cases hlt : k < 4
    · have C0 := Lib.hid (greatest_0 w)
      have C1 := Lib.hid (greatest_1 w)
      have C2 := Lib.hid (greatest_2 w)
      have C3 := Lib.hid (greatest_3 w)
      by_cases hv : v ≤ Wig.vmost k
      · have R := Lib.hid (place_hit hlt hp hv)
        have T := Lib.hid (decide_eq_true hv)
        clear hp hv
        have c : k = 0 ∨ k = 1 ∨ k = 2 ∨ k = 3 := by omega
        rcases c with rfl | rfl | rfl | rfl
        · go_wp2_with fail
          refine (C0.out).mono ?_
          rintro e w' ⟨rfl, rfl⟩
          have t : decide ((v : Int) ≤ 63) = true := decide_eq_true (by have := of_decide_eq_true T.out; simp only [Wig.vmost] at this; omega)
          go_wp2_with fail
          go_ret
          exact ⟨by rw [R.out]; rfl, rfl⟩
        · go_wp2_with fail
          refine (C1.out).mono ?_
          rintro e w' ⟨rfl, rfl⟩
          have t : decide ((v : Int) ≤ 16383) = true := decide_eq_true (by have := of_decide_eq_true T.out; simp only [Wig.vmost] at this; omega)
          go_wp2_with fail
          go_ret
          exact ⟨by rw [R.out]; rfl, rfl⟩
        · go_wp2_with fail
          refine (C2.out).mono ?_
          rintro e w' ⟨rfl, rfl⟩
          have t : decide ((v : Int) ≤ 1073741823) = true := decide_eq_true (by have := of_decide_eq_true T.out; simp only [Wig.vmost] at this; omega)
          go_wp2_with fail
          go_ret
          exact ⟨by rw [R.out]; rfl, rfl⟩
        · go_wp2_with fail
          refine (C3.out).mono ?_
          rintro e w' ⟨rfl, rfl⟩
          have t : decide ((v : Int) ≤ 4611686018427387903) = true := decide_eq_true (by have := of_decide_eq_true T.out; simp only [Wig.vmost] at this; omega)
          go_wp2_with fail
          go_ret
          exact ⟨by rw [R.out]; rfl, rfl⟩
      · have R := Lib.hid (place_miss hlt hp hv)
        have T := Lib.hid (decide_eq_false hv)
        clear hp hv
        have c : k = 0 ∨ k = 1 ∨ k = 2 ∨ k = 3 := by omega
        rcases c with rfl | rfl | rfl | rfl
        · go_wp2_with fail
          refine (C0.out).mono ?_
          rintro e w' ⟨rfl, rfl⟩
          have t : decide ((v : Int) ≤ 63) = false := decide_eq_false (by have := of_decide_eq_false T.out; simp only [Wig.vmost] at this; omega)
          go_wp2_with fail
          go_round
          case rel => exact ⟨1, by omega, rfl, R.out⟩
          case measure => simp [intOf]
        · go_wp2_with fail
          refine (C1.out).mono ?_
          rintro e w' ⟨rfl, rfl⟩
          have t : decide ((v : Int) ≤ 16383) = false := decide_eq_false (by have := of_decide_eq_false T.out; simp only [Wig.vmost] at this; omega)
          go_wp2_with fail
          go_round
          case rel => exact ⟨2, by omega, rfl, R.out⟩
          case measure => simp [intOf]
        · go_wp2_with fail
          refine (C2.out).mono ?_
          rintro e w' ⟨rfl, rfl⟩
          have t : decide ((v : Int) ≤ 1073741823) = false := decide_eq_false (by have := of_decide_eq_false T.out; simp only [Wig.vmost] at this; omega)
          go_wp2_with fail
          go_round
          case rel => exact ⟨3, by omega, rfl, R.out⟩
          case measure => simp [intOf]
        · go_wp2_with fail
          refine (C3.out).mono ?_
          rintro e w' ⟨rfl, rfl⟩
          have t : decide ((v : Int) ≤ 4611686018427387903) = false := decide_eq_false (by have := of_decide_eq_false T.out; simp only [Wig.vmost] at this; omega)
          go_wp2_with fail
          go_round
          case rel => exact ⟨4, by omega, rfl, R.out⟩
          case measure => simp [intOf]
    · obtain rfl : k = 4 := by omega
      have R := Lib.hid (show Wig.vplace v = 4 from Nat.le_antisymm (Wig.vplace_le v) hp)
      clear hp
      go_wp2_with fail
      go_ret
      exact ⟨by rw [R.out]; rfl, rfl⟩

end Go.Proofs.YtogioabdijgglaaDoor
