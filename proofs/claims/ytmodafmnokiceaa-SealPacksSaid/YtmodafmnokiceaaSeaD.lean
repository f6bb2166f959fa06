/-
  What package seal's Open returns, for at most two thousand bytes: the number and the payload in memory of its own, or the error. No condition.
-/
import Derived.Test.YtmodafmnokiceaaSeaC
import Derived.Deep.QuietTactic
import Derived.BigQuiet
namespace Go.Proofs.Ytmodafmnokiceaa
open Go.ChangeShapes Go.WideShapes Go.ChangeAt Go.RowKit Go.Deep
set_option linter.unusedVariables false

theorem head_of {xs : List Nat} {x : Nat} (h : xs[0]? = some x) : xs.headD 0 = x := by
  cases xs with
  | nil => simp at h
  | cons y r => simp at h; exact h

set_option maxHeartbeats 1000000 in
theorem sizeOf_any (A : Option Addr) (n c : Nat) (xs : List Nat) (w : World) (hx : Wig.Bytes xs) (hn : n = xs.length) (hl : n ≤ 1000000) (hr : RdN .u8 w w.heap.size A xs) :
    Calls Try.prog 26 #[.slice A n c] w fun e w' => e = .returned (.tuple #[.int .i64 ((Wig.ssize xs : Nat) : Int), .bool (decide (0 < Wig.ssize xs))]) ∧ w = w' := by
  by_cases h0 : n = 0
  · have e : Wig.ssize xs = 0 := by unfold Wig.ssize; rw [if_neg (by omega)]
    rw [e]
    subst h0
    clear hx hn hl hr e
    go_enter Try.func26, Try.ntmps26
    go_wp2_with fail
    go_ret2
    exact ⟨rfl, rfl⟩
  · have t0 : ((n : Int) == 0) = false := by simp; omega
    by_cases h1 : 1200 < n
    · have e : Wig.ssize xs = 0 := by unfold Wig.ssize; rw [if_neg (by omega)]
      rw [e]
      have t1 : decide ((1200 : Int) < (n : Int)) = true := decide_eq_true (by omega)
      clear hx hn hl hr e h0 h1
      go_enter Try.func26, Try.ntmps26
      go_wp2_with fail
      go_ret2
      exact ⟨rfl, rfl⟩
    · have t1 : decide ((1200 : Int) < (n : Int)) = false := decide_eq_false (by omega)
      obtain ⟨x, hx0⟩ : ∃ x, xs[0]? = some x := ⟨_, List.getElem?_eq_getElem (by omega)⟩
      obtain ⟨b, off, rfl, -, hcell⟩ := hr.at_ hx0
      rw [Nat.add_zero] at hcell
      have hh := head_of hx0
      have x256 : x < 256 := hx x (List.mem_of_getElem? hx0)
      obtain ⟨z, hz⟩ : ∃ z : Int, z = (x : Int) - 63 := ⟨_, rfl⟩
      have e1 : (x : Int) - 63 = z := hz.symm
      have i1 : (0 : Int) < (n : Int) := by omega
      have i2 : 0 < n := by omega
      by_cases h2 : 64 ≤ x ∧ x ≤ 67 ∧ x - 63 + 6 ≤ n
      · obtain ⟨s, hs⟩ : ∃ s, s = x - 63 := ⟨_, rfl⟩
        have e : Wig.ssize xs = s := by unfold Wig.ssize; rw [hh, if_pos (by omega), hs]
        have t : decide (0 < s) = true := decide_eq_true (by omega)
        rw [e, t]
        obtain rfl : z = (s : Int) := by omega
        have t2 : decide ((s : Int) < 1) = false := decide_eq_false (by omega)
        have t3 : decide ((4 : Int) < (s : Int)) = false := decide_eq_false (by omega)
        obtain ⟨q, hq⟩ : ∃ q, q = 1 + s + 4 := ⟨_, rfl⟩
        have e2 : (1 : Int) + (s : Int) + 4 = (q : Int) := by omega
        have t4 : decide (n ≤ q) = false := decide_eq_false (by omega)
        have s5 : s ≤ 4 := by omega
        clear hx hn hl hr h0 h1 h2 hx0 hh x256 hz hs e t hq
        go_enter Try.func26, Try.ntmps26
        go_wp2_with fail
        go_ret2
        exact ⟨rfl, rfl⟩
      · have e : Wig.ssize xs = 0 := by unfold Wig.ssize; rw [hh, if_neg (by omega)]
        rw [e]
        have T : decide (z < 1) = true ∨ (decide (z < 1) = false ∧ (decide (4 < z) = true ∨ (decide (4 < z) = false ∧ decide ((n : Int) ≤ 1 + z + 4) = true))) := by
          by_cases g1 : z < 1
          · exact .inl (decide_eq_true g1)
          · by_cases g2 : 4 < z
            · exact .inr ⟨decide_eq_false g1, .inl (decide_eq_true g2)⟩
            · exact .inr ⟨decide_eq_false g1, .inr ⟨decide_eq_false g2, decide_eq_true (by omega)⟩⟩
        have zl : -63 ≤ z := by omega
        have zu : z ≤ 192 := by omega
        clear hx hn hl hr h0 h1 h2 hx0 hh x256 hz e
        rcases T with t2 | ⟨t2, t3 | ⟨t3, t4⟩⟩
        all_goals
          go_enter Try.func26, Try.ntmps26
          go_wp2_with fail
          go_ret2
          exact ⟨rfl, rfl⟩

theorem bytes_back {xs : List Nat} (h : Wig.Bytes xs) : (xs.map UInt8.ofNat).map UInt8.toNat = xs := by
  rw [List.map_map]
  conv => rhs; rw [← List.map_id xs]
  refine List.map_congr_left fun x hx => ?_
  have := h x hx
  simp
  omega
theorem str_same {xs ys : List Nat} (hx : Wig.Bytes xs) (hy : Wig.Bytes ys) : ((str xs).toList == (str ys).toList) = decide (xs = ys) := by
  rw [str_toList, str_toList]
  by_cases h : xs = ys
  · rw [h]; simp
  · have : xs.map UInt8.ofNat ≠ ys.map UInt8.ofNat := fun e => h (by have := congrArg (List.map UInt8.toNat) e; rwa [bytes_back hx, bytes_back hy] at this)
    rw [decide_eq_false h]
    simpa using this

theorem equal_any (A A' : Option Addr) (n c n' c' : Nat) (xs ys : List Nat) (w : World) (hx : Wig.Bytes xs) (hy : Wig.Bytes ys) (hn : n = xs.length) (hn' : n' = ys.length) (hr : RdN .u8 w w.heap.size A xs) (hr' : RdN .u8 w w.heap.size A' ys) (h0 : xs ≠ []) (h1 : ys ≠ []) (t : Bool) (ht : decide (xs = ys) = t) :
    Calls Try.prog 27 #[.slice A n c, .slice A' n' c'] w fun e w' => e = .returned (.bool t) ∧ w = w' := by
  have c1 := conv_str (P := Try.prog) (src := 24) (e := 5) (dst := 9) Try.underlying24 Try.underlying5 Try.underlying9 hr (fun h => absurd h h0) n c hn
  have c2 := conv_str (P := Try.prog) (src := 24) (e := 5) (dst := 9) Try.underlying24 Try.underlying5 Try.underlying9 hr' (fun h => absurd h h1) n' c' hn'
  have hq := str_same hx hy
  rw [ht] at hq
  obtain ⟨s1, hs1⟩ : ∃ s, s = str xs := ⟨_, rfl⟩
  obtain ⟨s2, hs2⟩ : ∃ s, s = str ys := ⟨_, rfl⟩
  rw [← hs1] at c1 hq
  rw [← hs2] at c2 hq
  clear hx hy hn hn' hr hr' h0 h1 ht hs1 hs2
  go_enter Try.func27, Try.ntmps27
  go_wp2_with fail
  go_ret
  exact ⟨rfl, rfl⟩

/-- What Open and the document's Open return. -/
def OpensAt (xs : List Nat) (next : Nat) (w : World) (e : Ending) (w' : World) : Prop :=
  ∃ A n c, e = .returned (.tuple #[.int .u64 ((Wig.snum xs next : Nat) : Int), .slice A n c, .int .i64 ((Wig.sopenErr xs : Nat) : Int)]) ∧ n = (Wig.spay xs).length ∧ n ≤ c ∧ c ≤ maxLen ∧ RdN .u8 w' w'.heap.size A (Wig.spay xs) ∧ (Wig.spay xs = [] → A = none) ∧ Below w.heap.size w w'
theorem opens_no {xs : List Nat} {next : Nat} (h : Wig.sopens xs = false) {w w' : World} (hb : Below w.heap.size w w') : OpensAt xs next w (.returned (.tuple #[.int .u64 0, .slice none 0 0, .int .i64 60])) w' := by
  have e1 : Wig.sopenErr xs = 60 := by unfold Wig.sopenErr; rw [if_neg (by simp [h])]
  have e2 : Wig.spay xs = [] := by unfold Wig.spay; rw [if_neg (by simp [h])]
  have e3 : Wig.snum xs next = 0 := by unfold Wig.snum; rw [if_neg (by simp [h])]
  exact ⟨none, 0, 0, by rw [e1, e3]; rfl, by rw [e2]; rfl, by omega, by simp only [maxLen]; omega, by rw [e2]; exact RdN.empty, fun _ => rfl, hb⟩

/-- A part of a row that reads as a list. -/
theorem RdN.part {k : IntKind} {w : World} {B g off : Nat} {xs : List Nat} (h : RdN k w B (some ⟨g, off, none⟩) xs) (i n : Nat) : RdN k w B (some ⟨g, off + i, none⟩) ((xs.drop i).take n) := fun hn => by
  have hne : xs ≠ [] := by intro e; rw [e] at hn; simp at hn
  obtain ⟨b, o, e, hb, hc⟩ := h hne
  injection e with e
  injection e with e1 e2
  subst e1 e2
  refine ⟨g, off + i, rfl, hb, fun j x hx => ?_⟩
  rw [List.getElem?_take] at hx
  split at hx
  · rw [List.getElem?_drop] at hx
    rw [Nat.add_assoc]
    exact hc (i + j) x hx
  · cases hx

set_option maxHeartbeats 1000000 in
theorem open_no (A : Option Addr) (n c : Nat) (xs : List Nat) (next : Nat) (w : World) (hx : Wig.Bytes xs) (hn : n = xs.length) (hl : n ≤ 1000000) (hr : RdN .u8 w w.heap.size A xs) (hs : Wig.ssize xs = 0) :
    Calls Try.prog 16 #[.slice A n c, .int .u64 (next : Int)] w (OpensAt xs next w) := by
  have C := sizeOf_any A n c xs w hx hn hl hr
  rw [hs] at C
  have C1 := Lib.hid C
  have F := Lib.hid (show Wig.sopens xs = false from decide_eq_false (by omega))
  clear hx hn hl hr hs C
  go_enter Try.func16, Try.ntmps16
  go_wp2_with fail
  refine (C1.out).mono ?_
  rintro e w' ⟨rfl, rfl⟩
  go_wp2_with fail
  go_ret3
  exact opens_no F.out (Below.refl _ _)
end Go.Proofs.Ytmodafmnokiceaa
