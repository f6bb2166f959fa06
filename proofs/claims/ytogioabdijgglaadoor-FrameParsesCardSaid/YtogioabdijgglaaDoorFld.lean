/-
  What package frame's fieldsOf, numberOf and slices.Contains at fields return. No condition.
-/
import Derived.Test.YtogioabdijgglaaDoorFrmN
import Derived.Test.YtogioabdijgglaaDoorByt
import Derived.OwnWalk
import Derived.Deep.LoopGhost
namespace Go.Proofs.YtogioabdijgglaaDoor
open Go.ChangeShapes Go.WideShapes Go.ChangeAt Go.RowKit Go.Deep
set_option linter.unusedVariables false

/-- What fieldsOf answers. -/
def FieldsAt (k : Nat) (w : World) (e : Ending) (w' : World) : Prop := match Wig.flds k with
  | none => e = .returned (.tuple #[.slice none 0 0, .bool false]) ∧ w = w'
  | some has => ∃ A, e = .returned (.tuple #[.slice A has.length has.length, .bool true]) ∧ RdN .i64 w' w'.heap.size A has ∧ Below w.heap.size w w' ∧ (∀ b o s, A = some ⟨b, o, s⟩ → w.heap.size ≤ b)
theorem rd_new (w : World) (xs : List Nat) : RdN .i64 (w.alloc (.cells (ncells .i64 xs).toArray 48)) (w.alloc (.cells (ncells .i64 xs).toArray 48)).heap.size (some ⟨w.heap.size, 0, none⟩) xs := by
  refine fun _ => ⟨w.heap.size, 0, rfl, by simp, fun j x hj => ?_⟩
  rw [World.cell?_alloc_at _ _ _ _ rfl, Nat.zero_add]
  simpa using ncells_at .i64 xs j x hj
theorem flds_none {k : Nat} (h : Wig.flds k = none) : k ≠ 0 ∧ k ≠ 1 ∧ k ≠ 2 ∧ k ≠ 3 ∧ k ≠ 4 ∧ k ≠ 5 ∧ k ≠ 6 ∧ k ≠ 14 ∧ k ≠ 16 ∧ k ≠ 17 ∧ k ≠ 18 ∧ k ≠ 20 ∧ k ≠ 21 ∧ k ≠ 28 ∧ k ≠ 30 := by
  refine ⟨?_, ?_, ?_, ?_, ?_, ?_, ?_, ?_, ?_, ?_, ?_, ?_, ?_, ?_, ?_⟩ <;> (rintro rfl; simp [Wig.flds] at h)

theorem fields_0 (w : World) : Calls Tryd.prog 17 #[.int .u64 0] w (FieldsAt 0 w) := by
  go_enter Tryd.func17, Tryd.ntmps17
  go_wp2_with fail
  go_ret2
  exact ⟨none, rfl, RdN.empty, Below.refl _ _, fun _ _ _ e => by cases e⟩
theorem fields_1 (w : World) : Calls Tryd.prog 17 #[.int .u64 1] w (FieldsAt 1 w) := by
  go_enter Tryd.func17, Tryd.ntmps17
  go_wp2_with fail
  go_ret2
  exact ⟨none, rfl, RdN.empty, Below.refl _ _, fun _ _ _ e => by cases e⟩
theorem fields_2 (w : World) : Calls Tryd.prog 17 #[.int .u64 2] w (FieldsAt 2 w) := by
  go_enter Tryd.func17, Tryd.ntmps17
  go_wp2_with fail
  go_ret2
  exact ⟨_, rfl, rd_new w [6, 4], (Below.refl _ _).alloc (Nat.le_refl _) _, fun _ _ _ e => by injection e with e; injection e with e; omega⟩
theorem fields_3 (w : World) : Calls Tryd.prog 17 #[.int .u64 3] w (FieldsAt 3 w) := by
  go_enter Tryd.func17, Tryd.ntmps17
  go_wp2_with fail
  go_ret2
  exact ⟨_, rfl, rd_new w [6, 4, 5], (Below.refl _ _).alloc (Nat.le_refl _) _, fun _ _ _ e => by injection e with e; injection e with e; omega⟩
theorem fields_4 (w : World) : Calls Tryd.prog 17 #[.int .u64 4] w (FieldsAt 4 w) := by
  go_enter Tryd.func17, Tryd.ntmps17
  go_wp2_with fail
  go_ret2
  exact ⟨_, rfl, rd_new w [0, 3, 2], (Below.refl _ _).alloc (Nat.le_refl _) _, fun _ _ _ e => by injection e with e; injection e with e; omega⟩
theorem fields_5 (w : World) : Calls Tryd.prog 17 #[.int .u64 5] w (FieldsAt 5 w) := by
  go_enter Tryd.func17, Tryd.ntmps17
  go_wp2_with fail
  go_ret2
  exact ⟨_, rfl, rd_new w [0, 3], (Below.refl _ _).alloc (Nat.le_refl _) _, fun _ _ _ e => by injection e with e; injection e with e; omega⟩
theorem fields_6 (w : World) : Calls Tryd.prog 17 #[.int .u64 6] w (FieldsAt 6 w) := by
  go_enter Tryd.func17, Tryd.ntmps17
  go_wp2_with fail
  go_ret2
  exact ⟨_, rfl, rd_new w [2, 1, 0], (Below.refl _ _).alloc (Nat.le_refl _) _, fun _ _ _ e => by injection e with e; injection e with e; omega⟩
theorem fields_14 (w : World) : Calls Tryd.prog 17 #[.int .u64 14] w (FieldsAt 14 w) := by
  go_enter Tryd.func17, Tryd.ntmps17
  go_wp2_with fail
  go_ret2
  exact ⟨_, rfl, rd_new w [0, 1, 7], (Below.refl _ _).alloc (Nat.le_refl _) _, fun _ _ _ e => by injection e with e; injection e with e; omega⟩
theorem fields_16 (w : World) : Calls Tryd.prog 17 #[.int .u64 16] w (FieldsAt 16 w) := by
  go_enter Tryd.func17, Tryd.ntmps17
  go_wp2_with fail
  go_ret2
  exact ⟨_, rfl, rd_new w [2], (Below.refl _ _).alloc (Nat.le_refl _) _, fun _ _ _ e => by injection e with e; injection e with e; omega⟩
theorem fields_17 (w : World) : Calls Tryd.prog 17 #[.int .u64 17] w (FieldsAt 17 w) := by
  go_enter Tryd.func17, Tryd.ntmps17
  go_wp2_with fail
  go_ret2
  exact ⟨_, rfl, rd_new w [0, 2], (Below.refl _ _).alloc (Nat.le_refl _) _, fun _ _ _ e => by injection e with e; injection e with e; omega⟩
theorem fields_18 (w : World) : Calls Tryd.prog 17 #[.int .u64 18] w (FieldsAt 18 w) := by
  go_enter Tryd.func17, Tryd.ntmps17
  go_wp2_with fail
  go_ret2
  exact ⟨_, rfl, rd_new w [2], (Below.refl _ _).alloc (Nat.le_refl _) _, fun _ _ _ e => by injection e with e; injection e with e; omega⟩
theorem fields_20 (w : World) : Calls Tryd.prog 17 #[.int .u64 20] w (FieldsAt 20 w) := by
  go_enter Tryd.func17, Tryd.ntmps17
  go_wp2_with fail
  go_ret2
  exact ⟨_, rfl, rd_new w [2], (Below.refl _ _).alloc (Nat.le_refl _) _, fun _ _ _ e => by injection e with e; injection e with e; omega⟩
theorem fields_21 (w : World) : Calls Tryd.prog 17 #[.int .u64 21] w (FieldsAt 21 w) := by
  go_enter Tryd.func17, Tryd.ntmps17
  go_wp2_with fail
  go_ret2
  exact ⟨_, rfl, rd_new w [0, 2], (Below.refl _ _).alloc (Nat.le_refl _) _, fun _ _ _ e => by injection e with e; injection e with e; omega⟩
theorem fields_28 (w : World) : Calls Tryd.prog 17 #[.int .u64 28] w (FieldsAt 28 w) := by
  go_enter Tryd.func17, Tryd.ntmps17
  go_wp2_with fail
  go_ret2
  exact ⟨_, rfl, rd_new w [3], (Below.refl _ _).alloc (Nat.le_refl _) _, fun _ _ _ e => by injection e with e; injection e with e; omega⟩
theorem fields_30 (w : World) : Calls Tryd.prog 17 #[.int .u64 30] w (FieldsAt 30 w) := by
  go_enter Tryd.func17, Tryd.ntmps17
  go_wp2_with fail
  go_ret2
  exact ⟨none, rfl, RdN.empty, Below.refl _ _, fun _ _ _ e => by cases e⟩
set_option maxHeartbeats 1000000 in
theorem fieldsOf_any (k : Nat) (w : World) : Calls Tryd.prog 17 #[.int .u64 (k : Int)] w (FieldsAt k w) := by
  cases h : Wig.flds k with
  | none =>
    have R := Lib.hid (show FieldsAt k w (.returned (.tuple #[.slice none 0 0, .bool false])) w by unfold FieldsAt; rw [h]; exact ⟨rfl, rfl⟩)
    obtain ⟨h0, h1, h2, h3, h4, h5, h6, h14, h16, h17, h18, h20, h21, h28, h30⟩ := flds_none h
    have t0 : ((k : Int) == 0) = false := by simp; omega
    have t1 : ((k : Int) == 1) = false := by simp; omega
    have t2 : ((k : Int) == 2) = false := by simp; omega
    have t3 : ((k : Int) == 3) = false := by simp; omega
    have t4 : ((k : Int) == 4) = false := by simp; omega
    have t5 : ((k : Int) == 5) = false := by simp; omega
    have t6 : ((k : Int) == 6) = false := by simp; omega
    have t14 : ((k : Int) == 14) = false := by simp; omega
    have t16 : ((k : Int) == 16) = false := by simp; omega
    have t17 : ((k : Int) == 17) = false := by simp; omega
    have t18 : ((k : Int) == 18) = false := by simp; omega
    have t20 : ((k : Int) == 20) = false := by simp; omega
    have t21 : ((k : Int) == 21) = false := by simp; omega
    have t28 : ((k : Int) == 28) = false := by simp; omega
    have t30 : ((k : Int) == 30) = false := by simp; omega
    clear h h0 h1 h2 h3 h4 h5 h6 h14 h16 h17 h18 h20 h21 h28 h30
    go_enter Tryd.func17, Tryd.ntmps17
    go_wp2_with fail
    go_ret2
    exact R.out
  | some has =>
    rcases Wig.flds_cases h with ⟨rfl, rfl⟩ | ⟨rfl, rfl⟩ | ⟨rfl, rfl⟩ | ⟨rfl, rfl⟩ | ⟨rfl, rfl⟩ | ⟨rfl, rfl⟩ | ⟨rfl, rfl⟩ | ⟨rfl, rfl⟩ | ⟨rfl, rfl⟩ | ⟨rfl, rfl⟩ | ⟨rfl, rfl⟩ | ⟨rfl, rfl⟩ | ⟨rfl, rfl⟩ | ⟨rfl, rfl⟩ | ⟨rfl, rfl⟩
    · exact fields_0 w
    · exact fields_1 w
    · exact fields_2 w
    · exact fields_3 w
    · exact fields_4 w
    · exact fields_5 w
    · exact fields_6 w
    · exact fields_14 w
    · exact fields_16 w
    · exact fields_17 w
    · exact fields_18 w
    · exact fields_20 w
    · exact fields_21 w
    · exact fields_28 w
    · exact fields_30 w

/-- The place of x in xs, or -1. -/
def placeIn (x : Nat) : List Nat → Int
  | [] => -1
  | y :: r => if y = x then 0 else if placeIn x r < 0 then -1 else placeIn x r + 1
theorem placeIn_has (x : Nat) : ∀ xs : List Nat, decide (0 ≤ placeIn x xs) = xs.contains x
  | [] => rfl
  | y :: r => by
    have ih := placeIn_has x r
    rw [placeIn, List.contains_cons]
    by_cases h : y = x
    · subst h; simp
    · rw [if_neg h]
      have e : (x == y) = false := by simp; exact fun e => h e.symm
      rw [e, Bool.false_or, ← ih]
      split
      · rw [decide_eq_false (by omega), decide_eq_false (by omega)]
      · rw [decide_eq_true (by omega), decide_eq_true (by omega)]
theorem contains_first {xs : List Nat} {k x : Nat} (h : xs[k]? = some x) : xs.contains x = true := List.contains_iff_mem.2 (List.mem_of_getElem? h)
theorem contains_none {xs : List Nat} {x : Nat} (h : ∀ j : Nat, j < xs.length → xs[j]? ≠ some x) : xs.contains x = false := by
  refine Bool.eq_false_iff.2 fun hc => ?_
  obtain ⟨j, hj⟩ := List.getElem?_of_mem (List.contains_iff_mem.1 hc)
  exact h j (List.getElem?_eq_some_iff.1 hj).1 hj
/-- What slices.Index answers. -/
def IdxAns (x : Nat) (xs : List Nat) (r : Int) : Prop := decide (0 ≤ r) = xs.contains x
/-- At a round's head of slices.Index: none of those ahead is x. -/
def IdxRel (x : Nat) (xs : List Nat) (i : Value) : Prop := ∃ k : Nat, k ≤ xs.length ∧ i = .int .i64 (k : Int) ∧ ∀ j : Nat, j < k → xs[j]? ≠ some x

set_option maxHeartbeats 1000000 in
theorem index_any (A : Option Addr) (n c : Nat) (x : Nat) (xs : List Nat) (B : Nat) (w : World) (hn : n = xs.length) (h8 : n ≤ 8) (hr : RdN .i64 w B A xs) :
    Calls Tryd.prog 38 #[.slice A n c, .int .i64 (x : Int)] w fun e w' => (∃ r : Int, e = .returned (.int .i64 r) ∧ IdxAns x xs r) ∧ w = w' := by
  have HR := Lib.hid hr
  have HN := Lib.hid hn
  clear hr hn
  go_enter Tryd.func38, Tryd.ntmps38
  go_wp2_with fail
  go_loop [8] (fun i => IdxRel x xs i) (fun i => n - (intOf i).toNat)
  case atStart => exact ⟨0, Nat.zero_le _, rfl, fun j hj => absurd hj (Nat.not_lt_zero _)⟩
  case round =>
    obtain ⟨k, hk, rfl, hall⟩ := hrel
    have HA := Lib.hid hall
    clear hall
    by_cases hlt : k < n
    · obtain ⟨y, hy⟩ : ∃ y, xs[k]? = some y := ⟨_, List.getElem?_eq_getElem (by have := HN.out; omega)⟩
      obtain ⟨b, off, rfl, hb, hc⟩ := HR.out.at_ hy
      have HY := Lib.hid hy
      have i0 : (0 : Int) ≤ (k : Int) := by omega
      have i1 : (k : Int) < (n : Int) := by omega
      clear hy hb hk
      by_cases he : x = y
      · have t : ((x : Int) == (y : Int)) = true := by simp; omega
        have R := Lib.hid (show IdxAns x xs (k : Int) by unfold IdxAns; rw [decide_eq_true (by omega), he]; exact (contains_first HY.out).symm)
        clear he
        go_wp2_with fail
        go_ret
        exact ⟨⟨_, rfl, R.out⟩, rfl⟩
      · have t : ((x : Int) == (y : Int)) = false := by simp; omega
        have R : IdxRel x xs (.int .i64 ((k : Int) + 1)) := ⟨k + 1, by have := HN.out; omega, rfl, fun j hj => by
          rcases Nat.lt_or_ge j k with h | h
          · exact HA.out j h
          · obtain rfl : j = k := by omega
            rw [HY.out]; intro e; injection e with e; exact he e.symm⟩
        have R' := Lib.hid R
        clear he R
        go_wp2_with fail
        go_round
        case rel => exact R'.out
        case measure => simp [intOf]; omega
    · have R := Lib.hid (show IdxAns x xs (-1) by unfold IdxAns; rw [contains_none (fun j hj => HA.out j (by have := HN.out; omega))]; rfl)
      have t : decide (k < n) = false := decide_eq_false hlt
      clear hk hlt
      go_wp2_with fail
      go_ret
      exact ⟨⟨_, rfl, R.out⟩, rfl⟩
theorem contains_any (A : Option Addr) (n c : Nat) (x : Nat) (xs : List Nat) (B : Nat) (w : World) (hn : n = xs.length) (h8 : n ≤ 8) (hr : RdN .i64 w B A xs) :
    Calls Tryd.prog 25 #[.slice A n c, .int .i64 (x : Int)] w fun e w' => e = .returned (.bool (xs.contains x)) ∧ w = w' := by
  have C := Lib.hid (index_any A n c x xs B w hn h8 hr)
  clear hn hr h8
  go_enter Tryd.func25, Tryd.ntmps25
  go_wp2_with fail
  refine (C.out).mono ?_
  rintro e w' ⟨⟨r, rfl, hr⟩, rfl⟩
  have HR := Lib.hid hr
  clear hr
  go_wp2_with fail
  go_ret
  have e := HR.out
  unfold IdxAns at e
  exact ⟨by rw [← e]; rfl, rfl⟩

theorem numberOf_0 (b o : Nat) (w : World) : Calls Tryd.prog 36 #[.pointer (some ⟨b, o, none⟩), .int .i64 0] w fun e w' => e = .returned (.pointer (some ⟨b, o + 1, none⟩)) ∧ w = w' := by
  go_enter Tryd.func36, Tryd.ntmps36
  go_wp2_with fail
  go_ret
  exact ⟨rfl, rfl⟩
theorem numberOf_1 (b o : Nat) (w : World) : Calls Tryd.prog 36 #[.pointer (some ⟨b, o, none⟩), .int .i64 1] w fun e w' => e = .returned (.pointer (some ⟨b, o + 2, none⟩)) ∧ w = w' := by
  go_enter Tryd.func36, Tryd.ntmps36
  go_wp2_with fail
  go_ret
  exact ⟨rfl, rfl⟩
theorem numberOf_2 (b o : Nat) (w : World) : Calls Tryd.prog 36 #[.pointer (some ⟨b, o, none⟩), .int .i64 2] w fun e w' => e = .returned (.pointer (some ⟨b, o + 3, none⟩)) ∧ w = w' := by
  go_enter Tryd.func36, Tryd.ntmps36
  go_wp2_with fail
  go_ret
  exact ⟨rfl, rfl⟩
theorem numberOf_3 (b o : Nat) (w : World) : Calls Tryd.prog 36 #[.pointer (some ⟨b, o, none⟩), .int .i64 3] w fun e w' => e = .returned (.pointer (some ⟨b, o + 4, none⟩)) ∧ w = w' := by
  go_enter Tryd.func36, Tryd.ntmps36
  go_wp2_with fail
  go_ret
  exact ⟨rfl, rfl⟩
theorem numberOf_4 (b o : Nat) (w : World) : Calls Tryd.prog 36 #[.pointer (some ⟨b, o, none⟩), .int .i64 4] w fun e w' => e = .returned (.pointer (some ⟨b, o + 5, none⟩)) ∧ w = w' := by
  go_enter Tryd.func36, Tryd.ntmps36
  go_wp2_with fail
  go_ret
  exact ⟨rfl, rfl⟩
theorem numberOf_5 (b o : Nat) (w : World) : Calls Tryd.prog 36 #[.pointer (some ⟨b, o, none⟩), .int .i64 5] w fun e w' => e = .returned (.pointer (some ⟨b, o + 6, none⟩)) ∧ w = w' := by
  go_enter Tryd.func36, Tryd.ntmps36
  go_wp2_with fail
  go_ret
  exact ⟨rfl, rfl⟩
theorem numberOf_any (b o k : Nat) (w : World) (hk : k < 6) : Calls Tryd.prog 36 #[.pointer (some ⟨b, o, none⟩), .int .i64 (k : Int)] w fun e w' => e = .returned (.pointer (some ⟨b, o + (k + 1), none⟩)) ∧ w = w' := by
  have : k = 0 ∨ k = 1 ∨ k = 2 ∨ k = 3 ∨ k = 4 ∨ k = 5 := by omega
  rcases this with rfl | rfl | rfl | rfl | rfl | rfl
  · exact numberOf_0 b o w
  · exact numberOf_1 b o w
  · exact numberOf_2 b o w
  · exact numberOf_3 b o w
  · exact numberOf_4 b o w
  · exact numberOf_5 b o w
end Go.Proofs.YtogioabdijgglaaDoor
