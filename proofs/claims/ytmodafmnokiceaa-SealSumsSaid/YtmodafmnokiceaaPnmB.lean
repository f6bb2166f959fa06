/-
  What package pnum's Size returns, and the document's, for all numbers of 64 bits. No condition.
-/
import Derived.Test.YtmodafmnokiceaaPnmA
import Derived.OwnWalk
import Derived.Deep.Cut
import Derived.Deep.LoopGhost
namespace Go.Proofs.Ytmodafmnokiceaa
open Go.ChangeShapes Go.WideShapes Go.ChangeAt Go.RowKit
set_option linter.unusedVariables false

theorem quiet_eq {P : Program} {f : FuncId} {args : Array Value} {w : World} {n : Nat} {v : Value}
    (h : Calls P f args (w.drewN n) fun e w' => e = .returned v ∧ w.drewN n = w') : Calls P f args (w.drewN n) fun e w'' => e = .returned v ∧ ∃ m, w'' = w.drewN m :=
  h.mono fun _ _ ⟨he, hm⟩ => ⟨he, n, hm.symm⟩

/-- The closure: is half a size's window above the distance? -/
theorem enough_any (k a b d p q : Nat) (t : Bool) (w : World) (hab : b ≤ a) (ha : a < 18446744073709551616) (hd : a - b = d) (ht : decide (d < Wig.pwin (Wig.pk (k : Int)) / 2) = t)
    (hp : w.cell? ⟨p, 0, none⟩ = some (.int .u64 (a : Int))) (hq : w.cell? ⟨q, 0, none⟩ = some (.int .u64 (b : Int))) :
    Calls Try.prog 31 #[.int .i64 (k : Int), .pointer (some ⟨p, 0, none⟩), .pointer (some ⟨q, 0, none⟩)] w fun e w' => e = .returned (.bool t) ∧ ∃ n, w.drewN n = w' := by
  have C := Lib.hid (window_any (k : Int))
  obtain ⟨g, hg⟩ : ∃ g, g = Wig.pwin (Wig.pk (k : Int)) := ⟨_, rfl⟩
  rw [← hg] at C ht
  obtain ⟨h, hh⟩ : ∃ h, h = g / 2 := ⟨_, rfl⟩
  rw [← hh] at ht
  have e1 : (g : Int) / 2 = (h : Int) := by omega
  have e3 : IntKind.u64.wrap (h : Int) = (h : Int) := by have := Wig.pwin_four (Wig.pk (k : Int)); rw [IntKind.wrap_u64]; omega
  have e2 : IntKind.u64.wrap ((a : Int) - (b : Int)) = (d : Int) := by rw [IntKind.wrap_u64]; omega
  have T := Lib.hid ht
  clear hg hh hab ha hd ht
  go_enter Try.func31, Try.ntmps31
  go_wp2_with fail
  go_quiet ((go_at_call 32; exact quiet_eq (C.out _)))
  go_wp2_with fail
  go_ret
  exact ⟨ret_bool (by rw [← T.out]), _, rfl⟩

/-- At a round's head: k sizes have been asked, and none of them is enough. -/
def SizeRel (a b : Nat) (w : World) (i : Value) (wr : World) : Prop := ∃ k q : Nat, k ≤ 4 ∧ i = .int .i64 (k : Int) ∧ wr = w.drewN q ∧ ∀ j, j < k → ¬ a - b < Wig.pwin (j + 1) / 2
theorem pk_next {k : Nat} (h : k < 4) : Wig.pk ((k : Int) + 1) = k + 1 := by
  have := Wig.pk_cases ((k : Int) + 1)
  omega

set_option maxHeartbeats 1000000 in
theorem size_any (a b : Nat) (w : World) (ha : a < 18446744073709551616) (hb : b < 18446744073709551616) :
    Calls Try.prog 18 #[.int .u64 (a : Int), .int .u64 (b : Int)] w fun e w' => e = .returned (.int .i64 ((Wig.psize a b : Nat) : Int)) ∧ Below w.heap.size w w' := by
  have hmf : ∀ (fn : Fn) (first cap : Array Value) (w : World), (Instr.makeFunc fn first cap).run Try.prog w = .ok (.func fn first cap) w := fun _ _ _ _ => rfl
  obtain ⟨w1, hw1⟩ : ∃ w1, w1 = w.alloc (.cells #[.int .u64 (a : Int)] 23) := ⟨_, rfl⟩
  obtain ⟨w2, hw2⟩ : ∃ w2, w2 = w1.alloc (.cells #[.int .u64 (b : Int)] 23) := ⟨_, rfl⟩
  have z1 : w1.heap.size = w.heap.size + 1 := by rw [hw1]; simp
  have z2 : w2.heap.size = w.heap.size + 2 := by rw [hw2]; simp; omega
  have kb : w2.cell? ⟨w1.heap.size, 0, none⟩ = some (.int .u64 (b : Int)) := by rw [hw2, World.cell?_alloc_at _ _ _ _ rfl]; rfl
  have ka : w2.cell? ⟨w.heap.size, 0, none⟩ = some (.int .u64 (a : Int)) := by rw [hw2, World.cell?_alloc_past _ _ _ (show w.heap.size < w1.heap.size by omega), hw1, World.cell?_alloc_at _ _ _ _ rfl]; rfl
  have hB : Below w.heap.size w w2 := by rw [hw2, hw1]; exact ((Below.refl _ _).alloc (Nat.le_refl _) _).alloc (by simp) _
  have HB := Lib.hid hB
  rw [z1] at kb
  clear hB
  by_cases hlt : a < b
  · have e : Wig.psize a b = 4 := by unfold Wig.psize; rw [if_pos hlt]
    rw [e]
    have t1 : decide (a < b) = true := decide_eq_true hlt
    clear e hlt ka kb
    subst hw2; subst hw1
    go_enter Try.func18, Try.ntmps18
    go_wp2_with fail
    go_ret
    exact ⟨rfl, HB.out⟩
  · have t1 : decide (a < b) = false := decide_eq_false hlt
    have C := Lib.hid (fun k t w' ht hp hq => enough_any k a b (a - b) w.heap.size (w.heap.size + 1) t w' (by omega) ha rfl ht hp hq)
    have HL := Lib.hid (show b ≤ a by omega)
    have KA := Lib.hid ka
    have KB := Lib.hid kb
    clear hlt ka kb ha hb z1 z2
    go_enter Try.func18, Try.ntmps18
    go_wp2_with fail
    rw [← hw1, ← hw2]
    clear hw1 hw2
    go_loopw [11] (fun i wr => SizeRel a b w2 i wr) (fun i _ => 4 - (intOf i).toNat)
    case atStart => exact ⟨0, 0, by omega, rfl, rfl, fun j hj => absurd hj (Nat.not_lt_zero _)⟩
    case round =>
      obtain ⟨k, q, hk, rfl, rfl, hp⟩ := hrel
      have HP := Lib.hid hp
      clear hp
      by_cases hlt : k < 4
      · have ka := (show (w2.drewN q).cell? ⟨w.heap.size, 0, none⟩ = some (.int .u64 (a : Int)) from KA.out)
        have kb := (show (w2.drewN q).cell? ⟨w.heap.size + 1, 0, none⟩ = some (.int .u64 (b : Int)) from KB.out)
        by_cases ht : a - b < Wig.pwin (k + 1) / 2
        · have R := Lib.hid (Wig.psize_hit HL.out hlt HP.out ht)
          have CC := C.out (k + 1) true (w2.drewN q) (decide_eq_true (by push_cast; rw [pk_next hlt]; exact ht)) ka kb
          have C1 := Lib.hid CC
          clear CC ka kb ht
          go_wp2_with fail
          refine (C1.out).mono ?_
          rintro e w' ⟨rfl, m, rfl⟩
          go_wp2_with fail
          go_ret
          exact ⟨by rw [R.out]; rfl, below_drewN' HB.out _⟩
        · have R := Lib.hid (show ∀ j, j < k + 1 → ¬ a - b < Wig.pwin (j + 1) / 2 from fun j hj => by
            rcases Nat.lt_succ_iff_lt_or_eq.1 hj with h | h
            · exact HP.out j h
            · rw [h]; exact ht)
          have CC := C.out (k + 1) false (w2.drewN q) (decide_eq_false (by push_cast; rw [pk_next hlt]; exact ht)) ka kb
          have C1 := Lib.hid CC
          clear CC ka kb ht
          go_wp2_with fail
          refine (C1.out).mono ?_
          rintro e w' ⟨rfl, m, rfl⟩
          go_wp2_with fail
          go_roundw
          case rel => exact ⟨k + 1, q + m, by omega, rfl, rfl, R.out⟩
          case measure => simp [intOf]; omega
      · obtain rfl : k = 4 := by omega
        have R := Lib.hid (Wig.psize_none HL.out HP.out)
        go_wp2_with fail
        go_ret
        exact ⟨by rw [R.out]; rfl, below_drewN' HB.out _⟩

/-- At a round's head: the sizes below this one do not hold. -/
def RsizeRel (a b : Nat) (i : Value) : Prop := ∃ k : Nat, 1 ≤ k ∧ k ≤ 4 ∧ i = .int .i64 (k : Int) ∧ k ≤ Wig.psize a b
theorem pk_self {k : Nat} (h1 : 1 ≤ k) (h : k < 4) : Wig.pk (k : Int) = k := by
  have := Wig.pk_cases (k : Int)
  omega

set_option maxHeartbeats 1000000 in
theorem rsize_any (a b : Nat) (w : World) (ha : a < 18446744073709551616) (hb : b < 18446744073709551616) :
    Calls Try.prog 22 #[.int .u64 (a : Int), .int .u64 (b : Int)] w fun e w' => e = .returned (.int .i64 ((Wig.psize a b : Nat) : Int)) ∧ w = w' := by
  by_cases hlt : a < b
  · have e : Wig.psize a b = 4 := by unfold Wig.psize; rw [if_pos hlt]
    rw [e]
    have t1 : decide (a < b) = true := decide_eq_true hlt
    clear e hlt
    go_enter Try.func22, Try.ntmps22
    go_wp2_with fail
    go_ret
    exact ⟨rfl, rfl⟩
  · have t1 : decide (a < b) = false := decide_eq_false hlt
    obtain ⟨d, hd⟩ : ∃ d, d = a - b := ⟨_, rfl⟩
    have e1 : IntKind.u64.wrap ((a : Int) - (b : Int)) = (d : Int) := by rw [IntKind.wrap_u64]; omega
    have HL := Lib.hid (show b ≤ a by omega)
    have HD := Lib.hid hd
    have h4 := Lib.hid (Wig.psize_range a b)
    clear hlt hd ha hb
    go_enter Try.func22, Try.ntmps22
    go_wp2_with fail
    clear e1
    go_loop [6] (fun i => RsizeRel a b i) (fun i => 4 - (intOf i).toNat)
    case atStart => exact ⟨1, by omega, by omega, rfl, h4.out.1⟩
    case round =>
      obtain ⟨k, hk1, hk4, rfl, hp⟩ := hrel
      have HP := Lib.hid hp
      clear hp
      by_cases hlt : k < 4
      · have C := Lib.hid (rwindow_any (k : Int))
        rw [pk_self hk1 hlt] at C
        have L := Wig.psize_least HL.out hk1 hlt HP.out
        rw [← HD.out] at L
        obtain ⟨g, hg⟩ : ∃ g, g = Wig.pwin k := ⟨_, rfl⟩
        have g4 := Wig.pwin_four k
        rw [← hg] at C L g4
        clear hg
        by_cases hs : d < 2147483648
        · have t2 : decide ((d : Int) < 2147483648) = true := decide_eq_true (by omega)
          have e2 : IntKind.u64.wrap (2 * (d : Int)) = ((2 * d : Nat) : Int) := by rw [IntKind.wrap_u64]; omega
          have e3 : IntKind.u64.wrap (((2 * d : Nat) : Int) + 1) = ((2 * d + 1 : Nat) : Int) := by rw [IntKind.wrap_u64]; omega
          by_cases ht : 2 * d + 1 ≤ g
          · have R := Lib.hid (L.1 ht)
            obtain ⟨d2, hd2⟩ : ∃ d2, d2 = 2 * d := ⟨_, rfl⟩
            obtain ⟨d3, hd3⟩ : ∃ d3, d3 = d2 + 1 := ⟨_, rfl⟩
            rw [← hd2] at e2 e3 ht
            rw [← hd3] at e3 ht
            have t3 : decide (d3 ≤ g) = true := decide_eq_true ht
            have T2 := fun _ : Unit => t2
            have E2 := fun _ : Unit => e2
            have E3 := fun _ : Unit => e3
            clear hd2 hd3 ht L g4 hs t2 e2 e3
            go_upto_region 7 with fail
            have t2 := T2 ()
            have e2 := E2 ()
            have e3 := E3 ()
            go_wp2_with fail
            refine (C.out _).mono ?_
            rintro e w' ⟨rfl, rfl⟩
            go_wp2_with fail
            go_ret
            exact ⟨by rw [R.out]; rfl, rfl⟩
          · have R := Lib.hid (show k + 1 ≤ Wig.psize a b by have := HP.out; have : ¬ Wig.psize a b = k := fun h => ht (L.2 h); omega)
            obtain ⟨d2, hd2⟩ : ∃ d2, d2 = 2 * d := ⟨_, rfl⟩
            obtain ⟨d3, hd3⟩ : ∃ d3, d3 = d2 + 1 := ⟨_, rfl⟩
            rw [← hd2] at e2 e3 ht
            rw [← hd3] at e3 ht
            have t3 : decide (d3 ≤ g) = false := decide_eq_false ht
            have T2 := fun _ : Unit => t2
            have E2 := fun _ : Unit => e2
            have E3 := fun _ : Unit => e3
            clear hd2 hd3 ht L g4 hs t2 e2 e3
            go_upto_region 7 with fail
            have t2 := T2 ()
            have e2 := E2 ()
            have e3 := E3 ()
            go_wp2_with fail
            refine (C.out _).mono ?_
            rintro e w' ⟨rfl, rfl⟩
            go_wp2_with fail
            go_round
            case rel => exact ⟨k + 1, by omega, by omega, rfl, R.out⟩
            case measure => simp [intOf]; omega
        · have R := Lib.hid (show k + 1 ≤ Wig.psize a b by have := HP.out; have : ¬ Wig.psize a b = k := fun h => by { have := L.2 h; omega }; omega)
          have t2 : decide ((d : Int) < 2147483648) = false := decide_eq_false (by omega)
          clear L g4 hs
          have T2 := fun _ : Unit => t2
          clear t2
          go_upto_region 7 with fail
          have t2 := T2 ()
          clear hk1 hk4
          go_wp2_with fail
          go_round
          case rel => exact ⟨k + 1, by omega, by omega, rfl, R.out⟩
          case measure => simp [intOf]; omega
      · obtain rfl : k = 4 := by omega
        have R := Lib.hid (show Wig.psize a b = 4 by have := HP.out; have := h4.out; omega)
        go_wp2_with fail
        go_ret
        exact ⟨by rw [R.out]; rfl, rfl⟩
end Go.Proofs.Ytmodafmnokiceaa
