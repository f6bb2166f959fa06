/-
  What the document's PushMax, PushMin and Same return. Conditions: the lists read as samples of 64 bits, at most four hundred and two of them.
-/
import Derived.Test.YtjojnbeflongkaaDoorFlR
import Derived.Laws.StructEq
namespace Go.Proofs.YtjojnbeflongkaaDoor
open Go.ChangeShapes Go.WideShapes Go.ChangeAt Go.RowKit Go.Deep
set_option linter.unusedVariables false

/-- Two samples compared: the model's '!='. -/
theorem smp_guard : Tryd.prog.eqGuardType Tryd.prog.depth 56 = false := by kernel_rfl
theorem smp_ne (p0 p1 r0 r1 : Nat) (w : World) : (binOp .neq 56 (.agg #[.int .u64 (p0 : Int), .int .u64 (p1 : Int)]) (.agg #[.int .u64 (r0 : Int), .int .u64 (r1 : Int)])).run Tryd.prog w =
    .ok (.bool (!(decide (p0 = r0) && decide (p1 = r1)))) w := by
  have u := Tryd.underlying24
  have a := Tryd.isAgg24
  have z := Tryd.sizeOf24
  have hS : Tryd.prog.underlying 56 = some (.struct (Tryd.prog.fieldsOf 56)) := by kernel_rfl
  have hp : Tryd.prog.stoodInHeld 56 = false := by kernel_rfl
  rw [run_neq_struct, show (10000 : Nat) = 9999 + 1 from rfl, run_equalIn_agg w 9999 56 _ _ hS hp]
  simp only [Program.fieldsOf, Tryd.underlying56]
  go_simp
  by_cases h1 : p0 = r0 <;> by_cases h2 : p1 = r1 <;> simp [h1, h2] <;> omega

set_option maxHeartbeats 1000000 in
theorem same_any (ss tt : List Wig.Smp) (A B : Option Addr) (c d : Nat) (w : World) (hl1 : ss.length ≤ 402) (hl2 : tt.length ≤ 402) (hr : Rd w w.heap.size A ss) (hq : Rd w w.heap.size B tt) :
    Calls Tryd.prog 24 #[.slice A ss.length c, .slice B tt.length d] w fun e w' => e = .returned (.bool (decide (ss = tt))) ∧ ∃ k, w.drewN k = w' := by
  obtain ⟨n, hn⟩ : ∃ n, n = ss.length := ⟨_, rfl⟩
  obtain ⟨m, hm⟩ : ∃ m, m = tt.length := ⟨_, rfl⟩
  by_cases he : n = m
  · rw [← hn, ← hm, ← he]
    rw [← hn] at hl1
    have HR := Lib.hid hr
    have HQ := Lib.hid hq
    have HN := Lib.hid hn
    have HM := Lib.hid (he.trans hm)
    clear hr hq hn hm hl2 he
    go_enter Tryd.func24, Tryd.ntmps24
    go_wp2_with fail
    go_loopw [5] (fun i wr => ∃ k q : Nat, k ≤ n ∧ i = .int .i64 k ∧ wr = w.drewN q ∧ (∀ j, j < k → ss[j]? = tt[j]?))
      (fun i _ => n - (intOf i).toNat)
    case atStart => exact ⟨0, 0, Nat.zero_le _, rfl, rfl, fun _ h => absurd h (by omega)⟩
    case round =>
      obtain ⟨k, q, hk, rfl, rfl, hsame⟩ := hrel
      have HS := Lib.hid hsame
      clear hsame
      by_cases hlt : k < n
      · obtain ⟨p, hp⟩ : ∃ p, ss[k]? = some p := ⟨_, List.getElem?_eq_getElem (by have := HN.out; omega)⟩
        obtain ⟨r, hrr⟩ : ∃ r, tt[k]? = some r := ⟨_, List.getElem?_eq_getElem (by have := HM.out; omega)⟩
        obtain ⟨b, off, rfl, hb, hc0, hc1⟩ := (HR.out.drewN q).at_ hp
        obtain ⟨b2, off2, rfl, hb2, hd0, hd1⟩ := (HQ.out.drewN q).at_ hrr
        have HP := Lib.hid hp
        have HRR := Lib.hid hrr
        obtain ⟨p0, p1⟩ := p
        obtain ⟨r0, r1⟩ := r
        clear hp hrr
        simp only [World.cell?_drewN] at hc0 hc1 hd0 hd1
        have i1 : (0 : Int) ≤ (k : Int) := by omega
        have i2 : (k : Int) < (n : Int) := by omega
        have hgd := smp_guard
        by_cases h0 : p0 = r0 ∧ p1 = r1
        · obtain ⟨rfl, rfl⟩ := h0
          have hne : ∀ w, (binOp .neq 56 (.agg #[.int .u64 (p0 : Int), .int .u64 (p1 : Int)]) (.agg #[.int .u64 (p0 : Int), .int .u64 (p1 : Int)])).run Tryd.prog w = .ok (.bool false) w := fun w => by
            rw [smp_ne]; simp
          go_wp2_with fail
          go_quiet (fail)
          go_wp2_with fail
          go_roundw
          case rel =>
            refine ⟨k + 1, _, by omega, rfl, rfl, fun j hj => ?_⟩
            rcases Nat.lt_or_ge j k with h | h
            · exact HS.out j h
            · obtain rfl : j = k := by omega
              exact HP.out.trans HRR.out.symm
          case measure => simp [intOf]; omega
        · have hne : ∀ w, (binOp .neq 56 (.agg #[.int .u64 (p0 : Int), .int .u64 (p1 : Int)]) (.agg #[.int .u64 (r0 : Int), .int .u64 (r1 : Int)])).run Tryd.prog w = .ok (.bool true) w := fun w => by
            rw [smp_ne]
            by_cases h1 : p0 = r0
            · have h2 : ¬ p1 = r1 := fun h => h0 ⟨h1, h⟩
              simp [h1, h2]
            · simp [h1]
          have hd : decide (ss = tt) = false := decide_eq_false (fun h => h0 (by
            have h1 := HP.out
            rw [h, HRR.out] at h1
            injection h1 with h1
            injection h1 with h2 h3
            exact ⟨h2.symm, h3.symm⟩))
          have HD := Lib.hid hd
          clear h0 hd
          go_wp2_with fail
          go_quiet (fail)
          go_wp2_with fail
          go_ret
          exact ⟨ret_bool HD.out.symm, q + nq, (World.drewN_drewN _ _ _).symm⟩
      · have hkn : k = n := by omega
        subst hkn
        have hd : decide (ss = tt) = true := decide_eq_true (List.ext_getElem? (fun j => by
          rcases Nat.lt_or_ge j k with h | h
          · exact HS.out j h
          · rw [List.getElem?_eq_none (by rw [← HN.out]; exact h), List.getElem?_eq_none (by rw [← HM.out]; exact h)]))
        have HD := Lib.hid hd
        clear hd
        go_wp2_with fail
        go_ret
        exact ⟨ret_bool HD.out.symm, _, rfl⟩
  · have hd : decide (ss = tt) = false := decide_eq_false (fun h => he (by rw [hn, hm, h]))
    have HD := Lib.hid hd
    have he' : decide (n = m) = false := decide_eq_false he
    rw [← hn, ← hm]
    rw [← hn] at hl1
    rw [← hm] at hl2
    clear hr hq hn hm hd
    go_enter Tryd.func24, Tryd.ntmps24
    go_wp2_with fail
    go_ret
    exact ⟨ret_bool HD.out.symm, 0, rfl⟩

set_option maxHeartbeats 1000000 in
theorem rpushMax_any (win s0 s1 : Nat) (ss : List Wig.Smp) (A : Option Addr) (c : Nat) (w : World) (hlen : ss.length ≤ 400) (hf : Wig.Fits ss) (hr : Rd w w.heap.size A ss)
    (hw : win < 18446744073709551616) (hs0 : s0 < 18446744073709551616) (hs1 : s1 < 18446744073709551616) :
    Calls Tryd.prog 32 #[.slice A ss.length c, .int .u64 (win : Int), .agg #[.int .u64 (s0 : Int), .int .u64 (s1 : Int)]] w fun e w' =>
      ∃ v, e = .returned v ∧ Own w' w.heap.size v (Wig.pushed true win (s0, s1) ss) ∧ Below w.heap.size w w' := by
  obtain ⟨n, hn⟩ : ∃ n, n = ss.length := ⟨_, rfl⟩
  obtain ⟨w1, hw1⟩ : ∃ w1, w1 = w.alloc (.cells #[.int .u64 (s0 : Int), .int .u64 (s1 : Int)] 56) := ⟨_, rfl⟩
  have hB1 : Below w.heap.size w w1 := by rw [hw1]; exact (Below.refl _ _).alloc (Nat.le_refl _) _
  have hsz : w1.heap.size = w.heap.size + 1 := by rw [hw1]; simp
  have C := Lib.hid (rpush_any true win s0 s1 ss A c w1 hlen hf ((hr.below hB1).wide (by omega)) hw hs0 hs1)
  have HB := Lib.hid hB1
  clear hB1 hsz hr hf hw hs0 hs1
  rw [← hn] at hlen C ⊢
  clear hn
  subst hw1
  go_enter Tryd.func32, Tryd.ntmps32
  go_wp2_with fail
  refine C.out.mono ?_
  rintro e w4 ⟨v, rfl, hown, hb4⟩
  have R1 := Lib.hid (hown.base_le (base' := w.heap.size) (by simp))
  have R2 := Lib.hid (HB.out.trans (hb4.mono (by simp)))
  clear hown hb4
  go_wp2_with fail
  go_ret
  exact ⟨v, rfl, R1.out, R2.out⟩

end Go.Proofs.YtjojnbeflongkaaDoor
