/-
  What package filt's tests of one sample return: whether its value beats another one's, whether it stays behind a push. No condition beyond what the memory holds.
-/
import Derived.Test.YtjojnbeflongkaaDoorSamp
import Derived.Test.YtjojnbeflongkaaDoorFixAdd
import Derived.Test.YtjojnbeflongkaaDoorPost
import Derived.Lib.Hide
import Derived.Deep.QuietTactic
import Derived.BigQuiet
namespace Go.Proofs.YtjojnbeflongkaaDoor
open Go.ChangeShapes Go.WideShapes Go.ChangeAt Go.RowKit Go.Deep
set_option linter.unusedVariables false

/-- The test that a push hands on: the sample's place in memory is b. -/
def beatF (great : Bool) : FuncId := 52
def beats (great : Bool) (b : Nat) : Value := .func (.func (beatF great)) #[] #[.pointer (some ⟨b, 0, none⟩)]

theorem ret_bool {a b : Bool} (h : a = b) : Ending.returned (.bool a) = .returned (.bool b) := by rw [h]

theorem above_any (x y : Nat) (b : Nat) (w : World) (h : w.cell? ⟨b, 1, none⟩ = some (.int .u64 (y : Int))) :
    Calls Tryd.prog 52 #[.int .u64 (x : Int), .pointer (some ⟨b, 0, none⟩)] w fun e w' => e = .returned (.bool (Wig.better true x y)) ∧ w = w' := by
  go_enter Tryd.func52, Tryd.ntmps52
  go_wp2_with fail
  go_ret
  exact ⟨ret_bool (by simp [Wig.better]), rfl⟩

theorem quiet_eq {P : Program} {f : FuncId} {args : Array Value} {w : World} {n : Nat} {v : Value}
    (h : Calls P f args (w.drewN n) fun e w' => e = .returned v ∧ w.drewN n = w') : Calls P f args (w.drewN n) fun e w'' => e = .returned v ∧ ∃ m, w'' = w.drewN m :=
  h.mono fun _ _ ⟨he, hm⟩ => ⟨he, n, hm.symm⟩
theorem quiet_draws {P : Program} {f : FuncId} {args : Array Value} {w : World} {n : Nat} {v : Value}
    (h : Calls P f args (w.drewN n) fun e w' => e = .returned v ∧ ∃ m, (w.drewN n).drewN m = w') : Calls P f args (w.drewN n) fun e w'' => e = .returned v ∧ ∃ m, w'' = w.drewN m :=
  h.mono fun _ _ ⟨he, m, hm⟩ => ⟨he, n + m, by rw [← hm, World.drewN_drewN]⟩

set_option maxHeartbeats 1000000 in
theorem stays_any (great : Bool) (win : Nat) (s0 s1 p0 p1 b5 b6 b7 bs : Nat) (w : World) (hw : win < 18446744073709551616) (hp0 : p0 < 18446744073709551616)
    (h5 : w.cell? ⟨b5, 0, none⟩ = some (.int .u64 (win : Int))) (h6 : w.cell? ⟨b6, 0, none⟩ = some (.int .u64 (s0 : Int)))
    (h7 : w.cell? ⟨b7, 0, none⟩ = some (beats great bs)) (hs : w.cell? ⟨bs, 1, none⟩ = some (.int .u64 (s1 : Int))) (hg0 : great = true) :
    Calls Tryd.prog 55 #[.agg #[.int .u64 (p0 : Int), .int .u64 (p1 : Int)], .pointer (some ⟨b5, 0, none⟩), .pointer (some ⟨b6, 0, none⟩), .pointer (some ⟨b7, 0, none⟩)] w fun e w' =>
      e = .returned (.bool (Wig.stays great win (s0, s1) (p0, p1))) ∧ Below w.heap.size w w' := by
  have l5 := World.block_lt_of_cell? w _ h5
  have l6 := World.block_lt_of_cell? w _ h6
  have l7 := World.block_lt_of_cell? w _ h7
  have ls := World.block_lt_of_cell? w _ hs
  obtain ⟨wn, hwn⟩ : ∃ wn, wn = w.alloc (.cells #[.int .u64 (p0 : Int), .int .u64 (p1 : Int)] 56) := ⟨_, rfl⟩
  have k5 : wn.cell? ⟨b5, 0, none⟩ = some (.int .u64 (win : Int)) := by rw [hwn, World.cell?_alloc_past _ _ _ l5]; exact h5
  have k6 : wn.cell? ⟨b6, 0, none⟩ = some (.int .u64 (s0 : Int)) := by rw [hwn, World.cell?_alloc_past _ _ _ l6]; exact h6
  have k7 : wn.cell? ⟨b7, 0, none⟩ = some (beats great bs) := by rw [hwn, World.cell?_alloc_past _ _ _ l7]; exact h7
  have ks : wn.cell? ⟨bs, 1, none⟩ = some (.int .u64 (s1 : Int)) := by rw [hwn, World.cell?_alloc_past _ _ _ ls]; exact hs
  have kp0 : wn.cell? ⟨w.heap.size, 0, none⟩ = some (.int .u64 (p0 : Int)) := by rw [hwn, World.cell?_alloc_at _ _ _ _ rfl]; rfl
  have kp1 : wn.cell? ⟨w.heap.size, 1, none⟩ = some (.int .u64 (p1 : Int)) := by rw [hwn, World.cell?_alloc_at _ _ _ _ rfl]; rfl
  have hbel : Below w.heap.size w wn := by rw [hwn]; exact (Below.refl _ _).alloc (Nat.le_refl _) _
  obtain ⟨a, ha⟩ : ∃ a, a = Wig.fadd p0 win := ⟨_, rfl⟩
  have C1 := Lib.hid (fun w => add_any p0 win w hp0 hw)
  rw [← ha] at C1
  have hst : Wig.stays great win (s0, s1) (p0, p1) = (decide (s0 ≤ a) && Wig.better great p1 s1) := by rw [ha]; rfl
  have Hst := Lib.hid hst
  clear ha hst
  subst hwn
  have HB := Lib.hid hbel
  clear hbel h5 h6 h7 hs l5 l6 l7 ls hw
  have D2 := Lib.hid (fun w h => above_any p1 s1 bs w h)
  by_cases hn : s0 ≤ a
  · have hd : decide (s0 ≤ a) = true := decide_eq_true hn
    subst hg0
    · simp only [beats, beatF] at k7
      go_enter Tryd.func55, Tryd.ntmps55
      go_wp2_with fail
      go_quiet (first | (go_at_call 25; exact quiet_eq (C1.out _)) | (go_at_call 52; exact quiet_eq (D2.out _ ks)))
      go_wp2_with fail
      go_ret
      exact ⟨ret_bool (by rw [Hst.out, hd, Bool.true_and]), below_drewN' HB.out _⟩
  · have hd : decide (s0 ≤ a) = false := decide_eq_false hn
    clear k7 ks kp1 hg0
    go_enter Tryd.func55, Tryd.ntmps55
    go_wp2_with fail
    go_quiet ((go_at_call 25; exact quiet_eq (C1.out _)))
    go_wp2_with fail
    go_ret
    exact ⟨ret_bool (by rw [Hst.out, hd, Bool.false_and]), below_drewN' HB.out _⟩
end Go.Proofs.YtjojnbeflongkaaDoor
