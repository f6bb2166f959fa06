/-
  What the document's Get returns, for all bytes: the number and its size, or the error. No condition.
-/
import Derived.Test.YtogioabdijgglaaDoorVarC
namespace Go.Proofs.YtogioabdijgglaaDoor
open Go.ChangeShapes Go.WideShapes Go.ChangeAt Go.RowKit Go.Deep
set_option linter.unusedVariables false

/-- At a round's head: j bytes have been taken, the first without its two highest bits. -/
def RgetRel (xs : List Nat) (s : Nat) (v i : Value) : Prop := ∃ j : Nat, 1 ≤ j ∧ j ≤ s ∧ i = .int .i64 (j : Int) ∧ v = .int .u64 ((Wig.val (xs.take j) : Nat) : Int)
theorem rget_end {x j : Nat} {r : List Nat} (hj : 1 ≤ j) (hl : j ≤ (x :: r).length) (hr : Wig.Bytes r) : Wig.val (((x % 64) :: r).take j) = Wig.val ((x :: r).take j) % (64 * 256 ^ (j - 1)) := by
  obtain ⟨i, rfl⟩ : ∃ i, j = i + 1 := ⟨j - 1, by omega⟩
  rw [List.take_succ_cons, List.take_succ_cons, Wig.val, Wig.val, Nat.add_sub_cancel]
  have hlen : (r.take i).length = i := by rw [List.length_take]; simp at hl; omega
  have hlt := Wig.val_lt (r.take i) fun y hy => hr y (List.mem_of_mem_take hy)
  rw [hlen] at hlt ⊢
  have hx := Nat.div_add_mod' x 64
  generalize hM : 256 ^ i = M at *
  generalize hV : Wig.val (r.take i) = V at *
  have e : x * M + V = (x / 64) * (64 * M) + (x % 64 * M + V) := by
    rw [← Nat.mul_assoc, ← Nat.add_assoc, ← Nat.add_mul, hx]
  have hb : x % 64 * M + V < 64 * M := by
    have h1 : x % 64 * M ≤ 63 * M := Nat.mul_le_mul_right _ (by omega)
    omega
  rw [e, Nat.mul_comm (x / 64), Nat.mul_add_mod, Nat.mod_eq_of_lt hb]

set_option maxHeartbeats 1000000 in
theorem rget_any (A : Option Addr) (n c : Nat) (xs : List Nat) (w : World) (hx : Wig.Bytes xs) (hr : RdN .u8 w w.heap.size A xs) (hn : n = xs.length) (hl : n ≤ c) (hc : c ≤ maxLen) :
    Calls Tryd.prog 31 #[.slice A n c] w (GetsAt xs w) := by
  cases xs with
  | nil =>
    have R := Lib.hid (gets_short (xs := []) rfl w)
    simp only [List.length_nil] at hn
    subst hn
    clear hx hr hl hc
    go_enter Tryd.func31, Tryd.ntmps31
    go_wp2_with fail
    go_ret3
    exact R.out
  | cons x r =>
    obtain ⟨b, off, rfl, hb, hcell⟩ := hr (by simp)
    have x256 : x < 256 := hx x (List.mem_cons_self ..)
    obtain ⟨k, hk⟩ : ∃ k, k = x / 64 := ⟨_, rfl⟩
    have hk4 : k < 4 := by omega
    have hneed : Wig.vneed (x :: r) = Wig.vsz k := by rw [hk]; rfl
    obtain ⟨s, hs'⟩ : ∃ s, s = Wig.vsz k := ⟨_, rfl⟩
    rw [← hs'] at hneed
    have c0 : w.cell? ⟨b, off, none⟩ = some (.int .u8 (x : Int)) := hcell 0 x rfl
    have t0 : ((n : Int) == 0) = false := by simp only [List.length_cons] at hn; simp; omega
    have w2 : wrap64 ((2 : Int) ^ k) = (s : Int) := by
      rw [hs']
      have : k = 0 ∨ k = 1 ∨ k = 2 ∨ k = 3 := by omega
      rcases this with e | e | e | e <;> rw [e] <;> unfold wrap64 <;> decide
    have e0 : (x : Int) / 64 = (k : Int) := by omega
    have b0 : (0 : Int) ≤ (k : Int) := by omega
    have b1 : (k : Int) < 4 := by omega
    have b2 : (0 : Int) < (n : Int) := by simp only [List.length_cons] at hn; omega
    have HC := Lib.hid hcell
    have HN := Lib.hid hn
    have HX := Lib.hid hx
    have HK := Lib.hid hk
    have HL := Lib.hid hl
    have HD := Lib.hid hneed
    have HS := Lib.hid hs'
    clear hcell hn hx hk hl hneed hs' hr hb
    by_cases hsh : n < s
    · have R := Lib.hid (gets_short (xs := x :: r) (decide_eq_true (by rw [HD.out, ← HN.out]; exact hsh)) w)
      have t1 : decide (n < s) = true := decide_eq_true hsh
      clear hsh
      go_enter Tryd.func31, Tryd.ntmps31
      go_wp2_with fail
      go_ret3
      exact R.out
    · have t1 : decide (n < s) = false := decide_eq_false hsh
      have hsc : s ≤ c := by have := HL.out; omega
      have HSN := Lib.hid (show s ≤ n by omega)
      have HS8 := Lib.hid (show s ≤ 8 by have := Wig.vsz_cases x x256; rw [← HK.out, ← HS.out] at this; omega)
      clear hsh
      go_enter Tryd.func31, Tryd.ntmps31
      go_wp2_with fail
      rw [w2]
      have HW := Lib.hid w2
      have e6 : (x : Int) % 64 = ((x % 64 : Nat) : Int) := by omega
      have x1 : (x % 64) = Wig.val ((x % 64) :: r.take 0) := by simp [Wig.val]
      rw [e6, x1]
      have HB1 := Lib.hid (show Wig.Bytes ((x % 64) :: r) from fun y hy => by
        rcases List.mem_cons.1 hy with rfl | hy
        · omega
        · exact HX.out y (List.mem_cons_of_mem _ hy))
      clear e6 x1
      go_loop [6, 7] (fun v i => RgetRel ((x % 64) :: r) s v i) (fun _ i => s - (intOf i).toNat)
      case atStart => exact ⟨1, by omega, by have := Wig.vsz_cases x x256; rw [← HK.out, ← HS.out] at this; omega, rfl, rfl⟩
      case round =>
        obtain ⟨j, hj1, hj, rfl, rfl⟩ := hrel
        by_cases hlt : j < s
        · obtain ⟨z, hz⟩ : ∃ z, (x :: r)[j]? = some z := ⟨_, List.getElem?_eq_getElem (by have := HN.out; have := HSN.out; omega)⟩
          have z256 : z < 256 := HX.out z (List.mem_of_getElem? hz)
          have hc1 := HC.out j z hz
          have hz' : ((x % 64) :: r)[j]? = some z := by
            obtain ⟨i, rfl⟩ : ∃ i, j = i + 1 := ⟨j - 1, by omega⟩
            simpa using hz
          have hy := val_take_lt HB1.out (j := j) (by have := HS8.out; omega)
          have hnext := val_take_more hz'
          obtain ⟨y, hye⟩ : ∃ y, y = Wig.val (((x % 64) :: r).take j) := ⟨_, rfl⟩
          rw [← hye] at hy hnext ⊢
          have f1 := byte_in_shl hy
          have f3 := byte_wide z256
          have i0 : (0 : Int) ≤ (j : Int) := by omega
          have i1 : (j : Int) < (n : Int) := by have := HSN.out; omega
          have j8 : j < 8 := by have := HS8.out; omega
          obtain ⟨y3, hy3⟩ : ∃ y3, y3 = y * 256 + z := ⟨_, rfl⟩
          have f2 : IntKind.u64.wrap (((y * 256 : Nat) : Int) + (z : Int)) = (y3 : Int) := by rw [IntKind.wrap_u64]; omega
          generalize y * 256 = y2 at *
          rw [← hy3] at hnext
          have R := Lib.hid hnext
          clear hnext hy3 hye hy z256 hz hz' hj1
          go_wp2_with fail
          go_round
          case rel => exact ⟨j + 1, by omega, by omega, rfl, by rw [R.out]⟩
          case measure => simp [intOf]; omega
        · obtain rfl : j = s := by omega
          have hy := rget_end (x := x) (r := r) (j := j) hj1 (by have := HN.out; have := HSN.out; omega) (fun y hy => HX.out y (List.mem_cons_of_mem _ hy))
          have R : GetsAt (x :: r) w (.returned (.tuple #[.int .u64 ((Wig.val (((x % 64) :: r).take j) : Nat) : Int), .int .i64 (j : Int), .int .i64 0])) w :=
            gets_full (decide_eq_false (by rw [HD.out, ← HN.out]; have := HSN.out; omega)) w HD.out hy rfl
          obtain ⟨u, hu⟩ : ∃ u, u = Wig.val (((x % 64) :: r).take j) := ⟨_, rfl⟩
          rw [← hu] at R ⊢
          have R' := Lib.hid R
          clear hlt hj R hu hy
          go_wp2_with fail
          go_ret3
          exact R'.out
end Go.Proofs.YtogioabdijgglaaDoor
