/-
  What package varint's Get returns, for all bytes: the number that the document gives and its size, or the error. Condition: the table of sizes holds what its text lays.
-/
import Derived.Test.YtogioabdijgglaaDoorVarA
import Derived.Test.YtogioabdijgglaaDoorBit
namespace Go.Proofs.YtogioabdijgglaaDoor
open Go.ChangeShapes Go.WideShapes Go.ChangeAt Go.RowKit Go.Deep
set_option linter.unusedVariables false

/-- What Get and the document's Get return. -/
def GetsAt (xs : List Nat) (w : World) (e : Ending) (w' : World) : Prop :=
  e = .returned (.tuple #[.int .u64 ((Wig.vnum xs : Nat) : Int), .int .i64 ((Wig.vlen xs : Nat) : Int), .int .i64 ((Wig.vgot xs : Nat) : Int)]) ∧ w = w'

theorem gets_short {xs : List Nat} (h : Wig.vshort xs = true) (w : World) : GetsAt xs w (.returned (.tuple #[.int .u64 0, .int .i64 0, .int .i64 30])) w := by
  unfold GetsAt Wig.vnum Wig.vlen Wig.vgot
  rw [h]
  exact ⟨rfl, rfl⟩

theorem gets_full {xs : List Nat} (h : Wig.vshort xs = false) (w : World) {s g k : Nat} (hs : Wig.vneed xs = s) (hg : g = Wig.val (xs.take s) % (64 * 256 ^ (k - 1))) (hk : s = k) :
    GetsAt xs w (.returned (.tuple #[.int .u64 (g : Int), .int .i64 (s : Int), .int .i64 0])) w := by
  subst hk
  unfold GetsAt Wig.vnum Wig.vlen Wig.vgot
  rw [h, hs, hg]
  exact ⟨rfl, rfl⟩

/-- At a round's head: j bytes have been taken. -/
def GetRel (xs : List Nat) (s : Nat) (v i : Value) : Prop := ∃ j : Nat, j ≤ s ∧ i = .int .i64 (j : Int) ∧ v = .int .u64 ((Wig.val (xs.take j) : Nat) : Int)
theorem val_take_lt {xs : List Nat} (h : Wig.Bytes xs) {j : Nat} (hj : j ≤ 7) : Wig.val (xs.take j) < 72057594037927936 := by
  have h1 := Wig.val_lt (xs.take j) fun x hx => h x (List.mem_of_mem_take hx)
  have h2 : 256 ^ (xs.take j).length ≤ 256 ^ 7 := Nat.pow_le_pow_right (by decide) (by rw [List.length_take]; omega)
  have h3 : (256 : Nat) ^ 7 = 72057594037927936 := rfl
  omega
theorem val_take_8 {xs : List Nat} (h : Wig.Bytes xs) {j : Nat} (hj : j ≤ 8) : Wig.val (xs.take j) < 18446744073709551616 := by
  have h1 := Wig.val_lt (xs.take j) fun x hx => h x (List.mem_of_mem_take hx)
  have h2 : 256 ^ (xs.take j).length ≤ 256 ^ 8 := Nat.pow_le_pow_right (by decide) (by rw [List.length_take]; omega)
  have h3 : (256 : Nat) ^ 8 = 18446744073709551616 := rfl
  omega
theorem val_take_more {xs : List Nat} {j z : Nat} (h : xs[j]? = some z) : Wig.val (xs.take (j + 1)) = Wig.val (xs.take j) * 256 + z := by
  rw [List.take_add_one, h]
  exact Wig.val_snoc _ _

set_option maxHeartbeats 1000000 in
theorem get_any (A : Option Addr) (n c : Nat) (xs : List Nat) (w : World) (hx : Wig.Bytes xs) (hr : RdN .u8 w w.heap.size A xs) (hn : n = xs.length) (hl : n ≤ c) (hc : c ≤ maxLen) (hT : Tab w) :
    Calls Tryd.prog 48 #[.slice A n c] w (GetsAt xs w) := by
  cases xs with
  | nil =>
    have R := Lib.hid (gets_short (xs := []) rfl w)
    simp only [List.length_nil] at hn
    subst hn
    clear hx hr hl hc hT
    go_enter Tryd.func48, Tryd.ntmps48
    go_wp2_with fail
    go_ret3
    exact R.out
  | cons x r =>
    obtain ⟨b, off, rfl, hb, hcell⟩ := hr (by simp)
    have x256 : x < 256 := hx x (List.mem_cons_self ..)
    obtain ⟨k, hk⟩ : ∃ k, k = x / 64 := ⟨_, rfl⟩
    have hk4 : k < 4 := by omega
    have hneed : Wig.vneed (x :: r) = Wig.vsz k := by rw [hk]; rfl
    have hs := hT.at_ k hk4
    have C := Lib.hid (greatest_any k w hk4)
    obtain ⟨s, hs'⟩ : ∃ s, s = Wig.vsz k := ⟨_, rfl⟩
    rw [← hs'] at hs hneed C
    have c0 : w.cell? ⟨b, off, none⟩ = some (.int .u8 (x : Int)) := hcell 0 x rfl
    have t0 : ((n : Int) == 0) = false := by simp only [List.length_cons] at hn; simp; omega
    have e0 : (x : Int) / 64 = (k : Int) := by omega
    have b0 : (0 : Int) ≤ (k : Int) := by omega
    have b1 : (k : Int) < 4 := by omega
    have b2 : (0 : Int) < (n : Int) := by simp only [List.length_cons] at hn; omega
    have HC := Lib.hid hcell
    have HN := Lib.hid hn
    have HX := Lib.hid hx
    have HK := Lib.hid hk
    have HL := Lib.hid hl
    have HD := Lib.hid hneed
    have HS := Lib.hid hs'
    clear hcell hn hx hk hl hneed hs' hr hT hb
    by_cases hsh : n < s
    · have R := Lib.hid (gets_short (xs := x :: r) (decide_eq_true (by rw [HD.out, ← HN.out]; exact hsh)) w)
      have t1 : decide (n < s) = true := decide_eq_true hsh
      clear hsh
      go_enter Tryd.func48, Tryd.ntmps48
      go_wp2_with fail
      go_ret3
      exact R.out
    · have t1 : decide (n < s) = false := decide_eq_false hsh
      have hsc : s ≤ c := by have := HL.out; omega
      have HSN := Lib.hid (show s ≤ n by omega)
      have HS8 := Lib.hid (show s ≤ 8 by have := Wig.vsz_cases x x256; rw [← HK.out, ← HS.out] at this; omega)
      clear hsh
      go_enter Tryd.func48, Tryd.ntmps48
      go_wp2_with fail
      go_loop [6, 26] (fun v i => GetRel (x :: r) s v i) (fun _ i => s - (intOf i).toNat)
      case atStart => exact ⟨0, by omega, rfl, rfl⟩
      case round =>
        obtain ⟨j, hj, rfl, rfl⟩ := hrel
        by_cases hlt : j < s
        · obtain ⟨z, hz⟩ : ∃ z, (x :: r)[j]? = some z := ⟨_, List.getElem?_eq_getElem (by have := HN.out; have := HSN.out; omega)⟩
          have z256 : z < 256 := HX.out z (List.mem_of_getElem? hz)
          have hc1 := HC.out j z hz
          have hy := val_take_lt (xs := x :: r) HX.out (j := j) (by have := HS8.out; omega)
          have hnext : Wig.val ((x :: r).take (j + 1)) = Wig.val ((x :: r).take j) * 256 + z := val_take_more hz
          obtain ⟨y, hye⟩ : ∃ y, y = Wig.val ((x :: r).take j) := ⟨_, rfl⟩
          rw [← hye] at hy hnext ⊢
          have f1 := byte_in_shl hy
          have f2 := byte_in_or hy z256
          have f3 := byte_wide z256
          have i0 : (0 : Int) ≤ (j : Int) := by omega
          have j8 : j < 8 := by have := HS8.out; omega
          have i1 : (j : Int) < (s : Int) := by omega
          generalize y * 256 = y2 at *
          obtain ⟨y3, hy3⟩ : ∃ y3, y3 = y2 + z := ⟨_, rfl⟩
          rw [← hy3] at f2 hnext
          have R := Lib.hid hnext
          clear hnext hy3 hye hy z256 hz
          go_wp2_with fail
          go_round
          case rel => exact ⟨j + 1, by omega, rfl, by rw [R.out]⟩
          case measure => simp [intOf]; omega
        · obtain rfl : j = s := by omega
          obtain ⟨u, hu⟩ : ∃ u, u = Wig.val ((x :: r).take j) := ⟨_, rfl⟩
          obtain ⟨m, hm⟩ : ∃ m, m = Wig.vmost k := ⟨_, rfl⟩
          have ub : u < 18446744073709551616 := by rw [hu]; exact val_take_8 HX.out HS8.out
          have f1 := low_and ub hk4
          have R : GetsAt (x :: r) w (.returned (.tuple #[.int .u64 ((u % (64 * 256 ^ (Wig.vsz k - 1)) : Nat) : Int), .int .i64 (j : Int), .int .i64 0])) w :=
            gets_full (decide_eq_false (by rw [HD.out, ← HN.out]; have := HSN.out; omega)) w HD.out (by rw [hu]) HS.out
          obtain ⟨g, hg⟩ : ∃ g, g = u % (64 * 256 ^ (Wig.vsz k - 1)) := ⟨_, rfl⟩
          rw [← hg] at f1 R
          rw [← hm] at f1 C
          rw [← hu]
          have R' := Lib.hid R
          clear hlt hj R hg hm hu ub
          go_wp2_with fail
          refine (C.out).mono ?_
          rintro e w' ⟨rfl, rfl⟩
          go_wp2_with fail
          go_ret3
          exact R'.out
end Go.Proofs.YtogioabdijgglaaDoor
