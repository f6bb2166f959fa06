/-
  What package filt's push, PushMax, PushMin and Best return: the samples that stay and the new one behind them, in memory of the call's own; the first sample's value. Conditions: the list reads as samples of 64 bits, at most four hundred of them.
-/
import Derived.Test.YtjojnbeflongkaaDoorFlB
namespace Go.Proofs.YtjojnbeflongkaaDoor
open Go.ChangeShapes Go.WideShapes Go.ChangeAt Go.RowKit Go.Deep
set_option linter.unusedVariables false

set_option maxHeartbeats 1600000 in
theorem push_any (great : Bool) (win s0 s1 : Nat) (ss : List Wig.Smp) (A : Option Addr) (c bs : Nat) (q : FuncId) (w : World) (hlen : ss.length ≤ 400) (hf : Wig.Fits ss) (hr : Rd w w.heap.size A ss)
    (hw : win < 18446744073709551616) (hs0 : s0 < 18446744073709551616) (hs1 : s1 < 18446744073709551616) (hq : q = beatF great) (hbs : w.cell? ⟨bs, 1, none⟩ = some (.int .u64 (s1 : Int))) (hg0 : great = true) :
    Calls Tryd.prog 51 #[.slice A ss.length c, .int .u64 (win : Int), .agg #[.int .u64 (s0 : Int), .int .u64 (s1 : Int)], .func (.func q) #[] #[.pointer (some ⟨bs, 0, none⟩)]] w fun e w' =>
      ∃ v, e = .returned v ∧ Own w' w.heap.size v (Wig.pushed great win (s0, s1) ss) ∧ Below w.heap.size w w' := by
  have hmf : ∀ (fn : Fn) (first cap : Array Value) (w : World), (Instr.makeFunc fn first cap).run Tryd.prog w = .ok (.func fn first cap) w := fun _ _ _ _ => rfl
  obtain ⟨i0, hi, hz0, hz1, hz2⟩ := info_parts samp_info
  obtain ⟨n, hn⟩ : ∃ n, n = ss.length := ⟨_, rfl⟩
  obtain ⟨w3, hw3⟩ : ∃ w3, w3 = ((w.alloc (.cells #[.int .u64 (win : Int)] 24)).alloc (.cells #[.int .u64 (s0 : Int), .int .u64 (s1 : Int)] 56)).alloc (.cells #[.func (.func q) #[] #[.pointer (some ⟨bs, 0, none⟩)]] 67) := ⟨_, rfl⟩
  have lbs := World.block_lt_of_cell? w _ hbs
  simp only at lbs
  have hsz3 : w3.heap.size = w.heap.size + 3 := by rw [hw3]; simp
  have k5 : w3.cell? ⟨w.heap.size, 0, none⟩ = some (.int .u64 (win : Int)) := by
    rw [hw3, World.cell?_alloc_past _ _ _ (by simp; omega), World.cell?_alloc_past _ _ _ (by simp), World.cell?_alloc_at _ _ _ _ rfl]; rfl
  have k6 : w3.cell? ⟨w.heap.size + 1, 0, none⟩ = some (.int .u64 (s0 : Int)) := by
    rw [hw3, World.cell?_alloc_past _ _ _ (by simp), World.cell?_alloc_at _ _ _ _ (by simp)]; rfl
  have k61 : w3.cell? ⟨w.heap.size + 1, 1, none⟩ = some (.int .u64 (s1 : Int)) := by
    rw [hw3, World.cell?_alloc_past _ _ _ (by simp), World.cell?_alloc_at _ _ _ _ (by simp)]; rfl
  have k7 : w3.cell? ⟨w.heap.size + 1 + 1, 0, none⟩ = some (beats great bs) := by
    rw [hw3, World.cell?_alloc_at _ _ _ _ (by simp), hq]; rfl
  have ks : w3.cell? ⟨bs, 1, none⟩ = some (.int .u64 (s1 : Int)) := by
    rw [hw3, World.cell?_alloc_past _ _ _ (by simp; omega), World.cell?_alloc_past _ _ _ (by simp; omega), World.cell?_alloc_past _ _ _ lbs]; exact hbs
  have hB3 : Below w.heap.size w w3 := by
    rw [hw3]; exact (((Below.refl _ _).alloc (Nat.le_refl _) _).alloc (by simp) _).alloc (by simp; omega) _
  have hT : Tests w3 w3.heap.size 55 #[.pointer (some ⟨w.heap.size, 0, none⟩), .pointer (some ⟨w.heap.size + 1, 0, none⟩), .pointer (some ⟨w.heap.size + 1 + 1, 0, none⟩)] (Wig.stays great win (s0, s1)) := by
    intro w' p0 p1 hp0 hp1 hb hB
    exact stays_any great win s0 s1 p0 p1 w.heap.size (w.heap.size + 1) (w.heap.size + 1 + 1) bs w' hw hp0
      ((hb.cell (by simp; omega)).trans k5) ((hb.cell (by simp; omega)).trans k6) ((hb.cell (by simp; omega)).trans k7) ((hb.cell (by simp; omega)).trans ks) hg0
  have C := Lib.hid (keep_any (Wig.stays great win (s0, s1)) ss A c w.heap.size (w.heap.size + 1) (w.heap.size + 1 + 1) w3 hlen hf ((hr.below hB3).wide (by omega)) hT)
  have HB3 := Lib.hid hB3
  have H60 := Lib.hid k6
  have H61 := Lib.hid k61
  have H3 := Lib.hid hsz3
  clear k5 k6 k61 k7 ks hT hr hf hbs hB3 lbs hw hsz3
  rw [← hn] at hlen C ⊢
  have hkl := Wig.kept_le great win (s0, s1) ss
  rw [← hn] at hkl
  have HK := Lib.hid hkl
  clear hkl hn hq hs0 hs1 hg0
  subst hw3
  go_enter Tryd.func51, Tryd.ntmps51
  go_wp2_with fail
  refine C.out.mono ?_
  rintro e w4 ⟨v, rfl, hown, hb4⟩
  have HO := Lib.hid (hown.base_le (base' := w.heap.size) (by simp; omega))
  have m0 : w4.cell? ⟨w.heap.size + 1, 0, none⟩ = some (.int .u64 (s0 : Int)) := (hb4.cell (by simp)).trans H60.out
  have m1 : w4.cell? ⟨w.heap.size + 1, 1, none⟩ = some (.int .u64 (s1 : Int)) := (hb4.cell (by simp)).trans H61.out
  have hsz4 : w.heap.size ≤ w4.heap.size := by have := hb4.size; simp at this; omega
  have HB4 := Lib.hid (HB3.out.trans (hb4.mono (by simp; omega)))
  clear hown hb4
  go_wp2_with (at_builtin; refine wpList_append_own _ rfl _ _ 23 rfl w.heap.size 56 i0 (.agg #[.int .u64 0, .int .u64 0]) 2 16 Tryd.underlying23 hi hz0 hz1 hz2 rfl (by decide) _ _ _ rfl (World.ownsRow.alloc HO.out _) ⟨w4.heap.size, 0, none⟩ 1 1 (two (s0, s1)) rfl rfl ?c1 ?c2 ?c3 ?c4 ?c5 ?_)
  case c1 => exact cell_two_new w4 (s0, s1)
  case c2 => exact one_two (s0, s1)
  case c3 => have := HK.out; show (Wig.kept great win (s0, s1) ss).length + 1 ≤ _; unfold maxLen; omega
  case c4 => have := HK.out; show ((Wig.kept great win (s0, s1) ss).length + 1) * 16 ≤ _; omega
  case c5 => simp; omega
  intro v' w5 hown' hgrow _
  have R1 := Lib.hid hown'
  have R2 := Lib.hid ((HB4.out.alloc hsz4 (.cells #[.int .u64 (s0 : Int), .int .u64 (s1 : Int)] 56)).grown hgrow (by simp; omega) (fun q hq => (HO.out.block q hq).1))
  clear hown' hgrow
  go_wp2_with fail
  go_ret
  refine ⟨v', rfl, ?_, R2.out⟩
  unfold Own Wig.pushed
  rw [flat_app, flat_one, List.length_append]
  exact R1.out

set_option maxHeartbeats 1000000 in
theorem pushMax_any (win s0 s1 : Nat) (ss : List Wig.Smp) (A : Option Addr) (c : Nat) (w : World) (hlen : ss.length ≤ 400) (hf : Wig.Fits ss) (hr : Rd w w.heap.size A ss)
    (hw : win < 18446744073709551616) (hs0 : s0 < 18446744073709551616) (hs1 : s1 < 18446744073709551616) :
    Calls Tryd.prog 42 #[.slice A ss.length c, .int .u64 (win : Int), .agg #[.int .u64 (s0 : Int), .int .u64 (s1 : Int)]] w fun e w' =>
      ∃ v, e = .returned v ∧ Own w' w.heap.size v (Wig.pushed true win (s0, s1) ss) ∧ Below w.heap.size w w' := by
  have hmf : ∀ (fn : Fn) (first cap : Array Value) (w : World), (Instr.makeFunc fn first cap).run Tryd.prog w = .ok (.func fn first cap) w := fun _ _ _ _ => rfl
  obtain ⟨n, hn⟩ : ∃ n, n = ss.length := ⟨_, rfl⟩
  obtain ⟨w1, hw1⟩ : ∃ w1, w1 = w.alloc (.cells #[.int .u64 (s0 : Int), .int .u64 (s1 : Int)] 56) := ⟨_, rfl⟩
  have hB1 : Below w.heap.size w w1 := by rw [hw1]; exact (Below.refl _ _).alloc (Nat.le_refl _) _
  have hsz : w1.heap.size = w.heap.size + 1 := by rw [hw1]; simp
  have ks : w1.cell? ⟨w.heap.size, 1, none⟩ = some (.int .u64 (s1 : Int)) := by rw [hw1, World.cell?_alloc_at _ _ _ _ rfl]; rfl
  have C := Lib.hid (push_any true win s0 s1 ss A c w.heap.size 52 w1 hlen hf ((hr.below hB1).wide (by omega)) hw hs0 hs1 rfl ks rfl)
  have HB := Lib.hid hB1
  have HS := Lib.hid hsz
  clear hB1 hsz ks hr hf hw hs0 hs1
  rw [← hn] at hlen C ⊢
  clear hn
  subst hw1
  go_enter Tryd.func42, Tryd.ntmps42
  go_wp2_with fail
  refine C.out.mono ?_
  rintro e w4 ⟨v, rfl, hown, hb4⟩
  have R1 := Lib.hid (hown.base_le (base' := w.heap.size) (by simp))
  have R2 := Lib.hid (HB.out.trans (hb4.mono (by simp)))
  clear hown hb4
  go_wp2_with fail
  go_ret
  exact ⟨v, rfl, R1.out, R2.out⟩

theorem best_any (ss : List Wig.Smp) (A : Option Addr) (c : Nat) (w : World) (hlen : ss.length ≤ 400) (hr : Rd w w.heap.size A ss) :
    Calls Tryd.prog 23 #[.slice A ss.length c] w fun e w' => e = .returned (.int .u64 (Wig.best ss : Int)) ∧ w = w' := by
  cases ss with
  | nil =>
    clear hr
    go_enter Tryd.func23, Tryd.ntmps23
    go_wp2_with fail
    go_ret
    exact ⟨rfl, rfl⟩
  | cons p ss =>
    obtain ⟨b, off, rfl, hb, hc0, hc1⟩ := hr.at_ (j := 0) (p := p) rfl
    obtain ⟨n, hn⟩ : ∃ n, n + 1 = (p :: ss).length := ⟨_, rfl⟩
    rw [← hn] at hlen ⊢
    clear hr hn hc0
    rw [Nat.zero_mul, Nat.add_zero] at hc1
    have h0 : ((n : Int) + 1 == 0) = false := by simp; omega
    go_enter Tryd.func23, Tryd.ntmps23
    go_wp2_with fail
    go_ret
    exact ⟨rfl, rfl⟩

theorem rbest_any (ss : List Wig.Smp) (A : Option Addr) (c : Nat) (w : World) (hlen : ss.length ≤ 400) (hr : Rd w w.heap.size A ss) :
    Calls Tryd.prog 45 #[.slice A ss.length c] w fun e w' => e = .returned (.int .u64 (Wig.best ss : Int)) ∧ w = w' := by
  cases ss with
  | nil =>
    clear hr
    go_enter Tryd.func45, Tryd.ntmps45
    go_wp2_with fail
    go_ret
    exact ⟨rfl, rfl⟩
  | cons p ss =>
    obtain ⟨b, off, rfl, hb, hc0, hc1⟩ := hr.at_ (j := 0) (p := p) rfl
    obtain ⟨n, hn⟩ : ∃ n, n + 1 = (p :: ss).length := ⟨_, rfl⟩
    rw [← hn] at hlen ⊢
    clear hr hn hc0
    rw [Nat.zero_mul, Nat.add_zero] at hc1
    have h0 : ((n : Int) + 1 == 0) = false := by simp; omega
    go_enter Tryd.func45, Tryd.ntmps45
    go_wp2_with fail
    go_ret
    exact ⟨rfl, rfl⟩
end Go.Proofs.YtjojnbeflongkaaDoor
