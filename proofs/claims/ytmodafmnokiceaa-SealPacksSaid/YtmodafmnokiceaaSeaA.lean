/-
  What package seal's Sum and the document's return, for all bytes. No condition.
-/
import Derived.Test.YtmodafmnokiceaaSeaM
import Derived.Test.YtmodafmnokiceaaByt
import Derived.Laws.BitsAllLaws
import Derived.Deep.Cut
import Derived.Deep.LoopGhost
import Derived.OwnWalk
namespace Go.Proofs.Ytmodafmnokiceaa
open Go.ChangeShapes Go.WideShapes Go.ChangeAt Go.RowKit Go.Deep
set_option linter.unusedVariables false

theorem low_bit (v : Nat) (hv : v < 4294967296) : bits .and .u32 (v : Int) 1 = ((v % 2 : Nat) : Int) := by
  have := u32_and_nat v 1 hv (by omega)
  rw [Nat.and_one_is_mod] at this
  exact this

set_option maxHeartbeats 1000000 in
theorem step_any (p v : Nat) (w : World) (hv : v < 4294967296) (hc : w.cell? ⟨p, 0, none⟩ = some (.int .u32 (v : Int))) (hf : w.frozen? ⟨p, 0, none⟩ = false) :
    Calls Try.prog 25 #[.pointer (some ⟨p, 0, none⟩)] w fun e w' => e = .returned (.tuple #[]) ∧ w.setCell ⟨p, 0, none⟩ (.int .u32 ((Wig.cstep v : Nat) : Int)) = w' := by
  have e1 := low_bit v hv
  obtain ⟨q, hq⟩ : ∃ q, q = v / 2 := ⟨_, rfl⟩
  have e2 : (v : Int) / 2 = (q : Int) := by omega
  obtain ⟨r, hr⟩ : ∃ r, r = Wig.cstep v := ⟨_, rfl⟩
  by_cases h : v % 2 = 1
  · have e3 : bits .and .u32 2197175160 4294967295 = 2197175160 := by decide +kernel
    have e4 : bits .xor .u32 (q : Int) 2197175160 = (r : Int) := by
      have := u32_xor_nat q 2197175160 (by omega) (by omega)
      rw [hr, Wig.cstep, if_pos h, ← hq]
      exact this
    rw [h] at e1
    rw [← hr]
    clear hq hr h hv
    go_enter Try.func25, Try.ntmps25
    go_wp2_with fail
    go_end0
    exact ⟨rfl, rfl⟩
  · have e3 : bits .and .u32 2197175160 0 = 0 := by decide +kernel
    have e4 : bits .xor .u32 (q : Int) 0 = (r : Int) := by
      have := u32_xor_nat q 0 (by omega) (by omega)
      rw [Nat.xor_zero] at this
      rw [hr, Wig.cstep, if_neg h, ← hq]
      exact this
    rw [show v % 2 = 0 by omega] at e1
    rw [← hr]
    clear hq hr h hv
    go_enter Try.func25, Try.ntmps25
    go_wp2_with fail
    go_end0
    exact ⟨rfl, rfl⟩

/-- The word lies in its box. -/
def Wrd (w wr : World) (p v : Nat) : Prop := wr.cell? ⟨p, 0, none⟩ = some (.int .u32 (v : Int)) ∧ wr.frozen? ⟨p, 0, none⟩ = false ∧ Below p w wr
theorem Wrd.set {w wr : World} {p v : Nat} (h : Wrd w wr p v) (u : Nat) : Wrd w (wr.setCell ⟨p, 0, none⟩ (.int .u32 (u : Int))) p u :=
  ⟨World.cell?_setCell_same _ _ _ h.1, (World.frozen?_setCell _ _ _ _).trans h.2.1, h.2.2.setCell (Nat.le_refl _) _⟩
/-- At a round's head: k bytes are in. -/
def SumRel (xs : List Nat) (w : World) (p : Nat) (i : Value) (wr : World) : Prop := ∃ k : Nat, k ≤ xs.length ∧ i = .int .i64 (k : Int) ∧ Wrd w wr p (Wig.creg 4294967295 (xs.take k))
/-- j bits are out. -/
def BitRel (u : Nat) (w : World) (p : Nat) (i : Value) (wr : World) : Prop := ∃ j : Nat, j ≤ 8 ∧ i = .int .i64 (j : Int) ∧ Wrd w wr p (Wig.csteps j u)
theorem take_one {xs : List Nat} {k x : Nat} (h : xs[k]? = some x) : xs.take (k + 1) = xs.take k ++ [x] := by rw [List.take_add_one, h]; rfl
theorem bytes_take {xs : List Nat} (h : Wig.Bytes xs) (k : Nat) : Wig.Bytes (xs.take k) := fun x hx => h x (List.mem_of_mem_take hx)
theorem creg_step {xs : List Nat} {k x : Nat} (h : xs[k]? = some x) (w : Nat) : Wig.csteps 8 (Wig.creg w (xs.take k) ^^^ x) = Wig.creg w (xs.take (k + 1)) := by
  rw [take_one h, Wig.creg_snoc, Wig.cbyte_eq]

set_option maxHeartbeats 1000000 in
theorem sum_any (A : Option Addr) (n c : Nat) (xs : List Nat) (w : World) (hx : Wig.Bytes xs) (hn : n = xs.length) (hm : n ≤ 1000000) (hr : RdN .u8 w w.heap.size A xs) :
    Calls Try.prog 14 #[.slice A n c] w fun e w' => e = .returned (.int .u32 ((Wig.csum xs : Nat) : Int)) ∧ Below w.heap.size w w' := by
  have hmf : ∀ (fn : Fn) (first cap : Array Value) (w : World), (Instr.makeFunc fn first cap).run Try.prog w = .ok (.func fn first cap) w := fun _ _ _ _ => rfl
  obtain ⟨w1, hw1⟩ : ∃ w1, w1 = w.alloc (.cells #[.int .u32 4294967295] 28) := ⟨_, rfl⟩
  have ha : Wrd w w1 w.heap.size 4294967295 := by
    rw [hw1]
    exact ⟨by rw [World.cell?_alloc_at _ _ _ _ rfl]; rfl, by rw [World.frozen?_alloc_at _ _ _ _ rfl], (Below.refl _ _).alloc (Nat.le_refl _) _⟩
  have HA := Lib.hid ha
  have HR := Lib.hid hr
  have HN := Lib.hid hn
  have HX := Lib.hid hx
  have HM := fun _ : Unit => hm
  clear ha hr hn hx hm
  go_enter Try.func14, Try.ntmps14
  go_wp2_with fail
  rw [← hw1]
  clear hw1
  go_loopw [10] (fun i wr => SumRel xs w w.heap.size i wr) (fun i _ => n - (intOf i).toNat)
  case atStart => exact ⟨0, by omega, rfl, by rw [List.take_zero, Wig.creg_nil]; exact HA.out⟩
  case round =>
    obtain ⟨k, hk, rfl, hw⟩ := hrel
    have HW := Lib.hid hw
    clear hw
    rw [← HN.out] at hk
    by_cases hlt : k < n
    · obtain ⟨x, hx⟩ : ∃ x, xs[k]? = some x := ⟨_, List.getElem?_eq_getElem (by rw [← HN.out]; exact hlt)⟩
      obtain ⟨b, off, rfl, -, hcell⟩ := (HR.out.below HW.out.2.2).at_ hx
      have xl : x < 256 := HX.out x (List.mem_of_getElem? hx)
      obtain ⟨r, hr⟩ : ∃ r, r = Wig.creg 4294967295 (xs.take k) := ⟨_, rfl⟩
      have rl : r < 4294967296 := by rw [hr]; exact Wig.creg_lt _ (by omega) (bytes_take HX.out k)
      obtain ⟨u, hu⟩ : ∃ u, u = r ^^^ x := ⟨_, rfl⟩
      have ul : u < 4294967296 := by rw [hu]; exact Wig.xor_small rl (by omega)
      have e1 : IntKind.u32.wrap (x : Int) = (x : Int) := by rw [IntKind.wrap_u32]; omega
      have e2 : bits .xor .u32 (r : Int) (x : Int) = (u : Int) := by rw [hu]; exact u32_xor_nat r x rl (by omega)
      have HE := Lib.hid (show Wig.csteps 8 u = Wig.creg 4294967295 (xs.take (k + 1)) by rw [hu, hr]; exact creg_step hx _)
      have hc := HW.out.1
      have hf := HW.out.2.1
      rw [← hr] at hc
      have b0 : (0 : Int) ≤ (k : Int) := by omega
      have b1 : (k : Int) < (n : Int) := by omega
      have HU := Lib.hid (HW.out.set u)
      have UL := fun _ : Unit => ul
      have HK := Lib.hid hlt
      clear hr hu hx xl rl ul HW hk hlt
      go_wp2_with fail
      go_loopw [18] (fun i w2 => BitRel u w w.heap.size i w2) (fun i _ => 8 - (intOf i).toNat)
      case atStart => exact ⟨0, by omega, rfl, HU.out⟩
      case round =>
        obtain ⟨j, hj, rfl, hw⟩ := hrel
        have HW := Lib.hid hw
        clear hw
        by_cases hlt : j < 8
        · have C := Lib.hid (step_any w.heap.size (Wig.csteps j u) wr (Wig.csteps_lt j (UL ())) HW.out.1 HW.out.2.1)
          have R := Lib.hid (HW.out.set (Wig.cstep (Wig.csteps j u)))
          go_wp2_with fail
          refine (C.out).mono ?_
          rintro e w' ⟨rfl, rfl⟩
          go_wp2_with fail
          go_roundw
          case rel => exact ⟨j + 1, by omega, rfl, R.out⟩
          case measure => simp [intOf]; omega
        · obtain rfl : j = 8 := by omega
          have R := HW.out
          rw [HE.out] at R
          have R2 := Lib.hid R
          have HK2 : k < n := HK.out
          have HK3 : k < 1000000 := by have := HM (); omega
          clear R
          go_wp2_with fail
          go_roundw
          case rel => exact ⟨k + 1, by rw [← HN.out]; omega, rfl, R2.out⟩
          case measure => simp [intOf]; omega
    · obtain rfl : k = n := by omega
      obtain ⟨r, hr⟩ : ∃ r, r = Wig.creg 4294967295 xs := ⟨_, rfl⟩
      obtain ⟨s, hs⟩ : ∃ s, s = Wig.csum xs := ⟨_, rfl⟩
      have rl : r < 4294967296 := by rw [hr]; exact Wig.creg_lt _ (by omega) HX.out
      have hc := HW.out.1
      rw [HN.out, List.take_length, ← hr] at hc
      have e1 : bits .xor .u32 IntKind.u32.max (r : Int) = (s : Int) := by
        have := u32_xor_nat 4294967295 r (by omega) rl
        rw [Nat.xor_comm, Wig.xor_all rl, hr, ← Wig.csum, ← hs] at this
        rw [hr]
        exact this
      have HS := Lib.hid hs
      clear hr hs rl
      go_wp2_with fail
      go_ret
      exact ⟨congrArg (fun x : Nat => Ending.returned (.int .u32 (x : Int))) HS.out, HW.out.2.2⟩

/-- At a round's head: k bytes are in. -/
def RsumRel (xs : List Nat) (r i : Value) : Prop := ∃ k : Nat, k ≤ xs.length ∧ i = .int .i64 (k : Int) ∧ r = .int .u32 ((Wig.creg 4294967295 (xs.take k) : Nat) : Int)
def RbitRel (u : Nat) (r i : Value) : Prop := ∃ j : Nat, j ≤ 8 ∧ i = .int .i64 (j : Int) ∧ r = .int .u32 ((Wig.csteps j u : Nat) : Int)

set_option maxHeartbeats 1000000 in
theorem rsum_any (A : Option Addr) (n c : Nat) (xs : List Nat) (w : World) (hx : Wig.Bytes xs) (hn : n = xs.length) (hm : n ≤ 1000000) (hr : RdN .u8 w w.heap.size A xs) :
    Calls Try.prog 15 #[.slice A n c] w fun e w' => e = .returned (.int .u32 ((Wig.csum xs : Nat) : Int)) ∧ w = w' := by
  have HR := Lib.hid hr
  have HN := Lib.hid hn
  have HX := Lib.hid hx
  have HM := fun _ : Unit => hm
  clear hr hn hx hm
  go_enter Try.func15, Try.ntmps15
  go_wp2_with fail
  go_loop [3, 4] (fun r i => RsumRel xs r i) (fun _ i => n - (intOf i).toNat)
  case atStart => exact ⟨0, by omega, rfl, by rw [List.take_zero, Wig.creg_nil]; rfl⟩
  case round =>
    obtain ⟨k, hk, rfl, rfl⟩ := hrel
    rw [← HN.out] at hk
    obtain ⟨r, hr⟩ : ∃ r, r = Wig.creg 4294967295 (xs.take k) := ⟨_, rfl⟩
    have rl : r < 4294967296 := by rw [hr]; exact Wig.creg_lt _ (by omega) (bytes_take HX.out k)
    rw [← hr]
    by_cases hlt : k < n
    · obtain ⟨x, hx⟩ : ∃ x, xs[k]? = some x := ⟨_, List.getElem?_eq_getElem (by rw [← HN.out]; exact hlt)⟩
      obtain ⟨b, off, rfl, -, hcell⟩ := HR.out.at_ hx
      have xl : x < 256 := HX.out x (List.mem_of_getElem? hx)
      obtain ⟨u, hu⟩ : ∃ u, u = r ^^^ x := ⟨_, rfl⟩
      have ul : u < 4294967296 := by rw [hu]; exact Wig.xor_small rl (by omega)
      have e1 : IntKind.u32.wrap (x : Int) = (x : Int) := by rw [IntKind.wrap_u32]; omega
      have e2 : bits .xor .u32 (r : Int) (x : Int) = (u : Int) := by rw [hu]; exact u32_xor_nat r x rl (by omega)
      have HE := Lib.hid (show Wig.csteps 8 u = Wig.creg 4294967295 (xs.take (k + 1)) by rw [hu, hr]; exact creg_step hx _)
      have b0 : (0 : Int) ≤ (k : Int) := by omega
      have b1 : (k : Int) < (n : Int) := by omega
      have UL := fun _ : Unit => ul
      have HK := Lib.hid hlt
      clear hr hu hx xl rl ul hk hlt
      go_wp2_with fail
      go_loop [3, 5] (fun r i => RbitRel u r i) (fun _ i => 8 - (intOf i).toNat)
      case atStart => exact ⟨0, by omega, rfl, rfl⟩
      case round =>
        obtain ⟨j, hj, rfl, rfl⟩ := hrel
        obtain ⟨v, hv⟩ : ∃ v, v = Wig.csteps j u := ⟨_, rfl⟩
        have vl : v < 4294967296 := by rw [hv]; exact Wig.csteps_lt j (UL ())
        rw [← hv]
        by_cases hlt : j < 8
        · obtain ⟨q, hq⟩ : ∃ q, q = v / 2 := ⟨_, rfl⟩
          obtain ⟨z, hz⟩ : ∃ z, z = Wig.csteps (j + 1) u := ⟨_, rfl⟩
          have e3 : (v : Int) / 2 = (q : Int) := by omega
          have e6 : (q : Int) % 4294967296 = (q : Int) := by omega
          have HZ := Lib.hid hz
          by_cases h : v % 2 = 1
          · have e4 : bits .xor .u32 (q : Int) 2197175160 = (z : Int) := by
              have := u32_xor_nat q 2197175160 (by omega) (by omega)
              rw [hz, Wig.csteps, ← hv, Wig.cstep, if_pos h, ← hq]
              exact this
            have e5 : (v : Int) % 2 = 1 := by omega
            clear h hq hz hv vl
            go_wp2_with fail
            go_round
            case rel => exact ⟨j + 1, by omega, rfl, by rw [← HZ.out]⟩
            case measure => simp [intOf]; omega
          · have e4 : q = z := by
              rw [hz, Wig.csteps, ← hv, Wig.cstep, if_neg h, ← hq]
            have e5 : (v : Int) % 2 = 0 := by omega
            subst e4
            clear h hq hz hv vl
            go_wp2_with fail
            go_round
            case rel => exact ⟨j + 1, by omega, rfl, by rw [← HZ.out]⟩
            case measure => simp [intOf]; omega
        · obtain rfl : j = 8 := by omega
          rw [HE.out] at hv
          have HV := Lib.hid hv
          have HK2 : k < n := HK.out
          have HK3 : k < 1000000 := by have := HM (); omega
          clear hv vl
          go_wp2_with fail
          go_round
          case rel => exact ⟨k + 1, by rw [← HN.out]; omega, rfl, by rw [← HV.out]⟩
          case measure => simp [intOf]; omega
    · obtain rfl : k = n := by omega
      obtain ⟨s, hs⟩ : ∃ s, s = Wig.csum xs := ⟨_, rfl⟩
      rw [HN.out, List.take_length] at hr
      have e1 : bits .xor .u32 IntKind.u32.max (r : Int) = (s : Int) := by
        have := u32_xor_nat 4294967295 r (by omega) rl
        rw [Nat.xor_comm, Wig.xor_all rl, hr, ← Wig.csum, ← hs] at this
        rw [hr]
        exact this
      have HS := Lib.hid hs
      clear hr hs rl
      go_wp2_with fail
      go_ret
      exact ⟨congrArg (fun x : Nat => Ending.returned (.int .u32 (x : Int))) HS.out, rfl⟩
end Go.Proofs.Ytmodafmnokiceaa
