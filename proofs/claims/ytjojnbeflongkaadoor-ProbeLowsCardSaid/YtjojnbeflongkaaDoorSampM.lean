/-
  Lists of samples (pairs of a time and a value) as plain numbers: which of them stay behind one more, the best one. No condition: nothing of the program is named here.
-/
import Derived.Test.YtjojnbeflongkaaDoorFixMath
namespace Wig
/-- A sample: its time, its value. -/
abbrev Smp := Nat × Nat
/-- Of two values the one that is kept ahead of the other: the greater one, or the less one. -/
def better (great : Bool) (x y : Nat) : Bool := if great then decide (y < x) else decide (x < y)
/-- A sample of a list that stays behind a push of s. -/
def stays (great : Bool) (win : Nat) (s p : Smp) : Bool := decide (s.1 ≤ fadd p.1 win) && better great p.2 s.2
def kept (great : Bool) (win : Nat) (s : Smp) (ss : List Smp) : List Smp := ss.filter (stays great win s)
def pushed (great : Bool) (win : Nat) (s : Smp) (ss : List Smp) : List Smp := kept great win s ss ++ [s]
def best (ss : List Smp) : Nat := match ss with | [] => 0 | p :: _ => p.2
def Fits (ss : List Smp) : Prop := ∀ p ∈ ss, p.1 < 18446744073709551616 ∧ p.2 < 18446744073709551616

theorem kept_fits {great : Bool} {win : Nat} {s : Smp} {ss : List Smp} (h : Fits ss) : Fits (kept great win s ss) := fun p hp => h p (List.mem_filter.1 hp).1
theorem pushed_fits {great : Bool} {win : Nat} {s : Smp} {ss : List Smp} (h : Fits ss) (hs : s.1 < 18446744073709551616 ∧ s.2 < 18446744073709551616) : Fits (pushed great win s ss) := by
  intro p hp
  rcases List.mem_append.1 hp with hp | hp
  · exact kept_fits h p hp
  · rw [List.mem_singleton.1 hp]; exact hs
theorem kept_le (great : Bool) (win : Nat) (s : Smp) (ss : List Smp) : (kept great win s ss).length ≤ ss.length := List.length_filter_le _ _
theorem pushed_le (great : Bool) (win : Nat) (s : Smp) (ss : List Smp) : (pushed great win s ss).length ≤ ss.length + 1 := by
  unfold pushed; rw [List.length_append]; have := kept_le great win s ss; simp; omega
theorem take_more {α : Type} (ss : List α) (k : Nat) (p : α) (h : ss[k]? = some p) : ss.take (k + 1) = ss.take k ++ [p] := by
  rw [List.take_add_one, h]; rfl
theorem kept_hit {great : Bool} {win : Nat} {s p : Smp} {ss : List Smp} {k : Nat} (h : ss[k]? = some p) (hs : stays great win s p = true) : kept great win s (ss.take (k + 1)) = kept great win s (ss.take k) ++ [p] := by
  simp [kept, take_more ss k p h, List.filter_append, hs]
theorem kept_miss {great : Bool} {win : Nat} {s p : Smp} {ss : List Smp} {k : Nat} (h : ss[k]? = some p) (hs : stays great win s p = false) : kept great win s (ss.take (k + 1)) = kept great win s (ss.take k) := by
  simp [kept, take_more ss k p h, List.filter_append, hs]
end Wig
