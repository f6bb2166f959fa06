/-
  Plain mathematics under FiltWindows: what a list that is pushed onto keeps of all samples of the window, and what the greatest (the least) value of the window is. No condition: nothing of the program is named here.
-/
import Derived.Test.YtmfldjdkmfpdkaaSamp
namespace Wig

theorem fadd_mono {a b w : Nat} (h : a ≤ b) : fadd a w ≤ fadd b w := by unfold fadd; split <;> split <;> omega
theorem fadd_ge {a w : Nat} (h : a < 18446744073709551616) : a ≤ fadd a w := by unfold fadd; split <;> omega

theorem better_irrefl (g : Bool) (x : Nat) : better g x x = false := by cases g <;> simp [better]
theorem better_trans {g : Bool} {x y z : Nat} (h : better g x y = true) (k : better g y z = true) : better g x z = true := by
  cases g <;> simp [better] at * <;> omega
theorem better_tri {g : Bool} {x y : Nat} (h : better g x y = false) (k : better g y x = false) : x = y := by
  cases g <;> simp [better] at * <;> omega
theorem better_asymm {g : Bool} {x y : Nat} (h : better g x y = true) : better g y x = false := by
  cases g <;> simp [better] at * <;> omega
/-- Not beaten by y, which is not beaten by z: not beaten by z. -/
theorem worse_trans {g : Bool} {x y z : Nat} (h : better g y x = false) (k : better g z y = false) : better g z x = false := by
  cases g <;> simp [better] at * <;> omega

/-- What a pushed list l holds of all samples at the time now. -/
structure Holds (g : Bool) (win : Nat) (all l : List Smp) (now : Nat) : Prop where
  inn : ∀ p ∈ l, p ∈ all ∧ now ≤ fadd p.1 win
  falls : l.Pairwise fun p q => better g p.2 q.2 = true
  cover : ∀ p ∈ all, now ≤ fadd p.1 win → ∃ q ∈ l, p.1 ≤ q.1 ∧ better g p.2 q.2 = false
  past : ∀ p ∈ all, p.1 ≤ now

theorem holds_nil (g : Bool) (win : Nat) : Holds g win [] [] 0 := ⟨fun _ h => (by cases h), List.Pairwise.nil, fun _ h => (by cases h), fun _ h => (by cases h)⟩

theorem holds_push {g : Bool} {win now now' v : Nat} {all l : List Smp} (h : Holds g win all l now) (hn : now ≤ now') (hb : now' < 18446744073709551616) :
    Holds g win (all ++ [(now', v)]) (pushed g win (now', v) l) now' := by
  have beats : ∀ p ∈ kept g win (now', v) l, p ∈ l ∧ now' ≤ fadd p.1 win ∧ better g p.2 v = true := by
    intro p hp
    obtain ⟨h1, h2⟩ := List.mem_filter.1 hp
    unfold stays at h2
    rw [Bool.and_eq_true, decide_eq_true_eq] at h2
    exact ⟨h1, h2.1, h2.2⟩
  refine ⟨fun p hp => ?_, ?_, fun p hp hw => ?_, fun p hp => ?_⟩
  · rcases List.mem_append.1 hp with hp | hp
    · obtain ⟨h1, h2, _⟩ := beats p hp
      exact ⟨List.mem_append_left _ (h.inn p h1).1, h2⟩
    · rw [List.mem_singleton.1 hp]
      exact ⟨List.mem_append_right _ (List.mem_singleton.2 rfl), fadd_ge hb⟩
  · refine List.pairwise_append.2 ⟨h.falls.filter _, List.pairwise_singleton _ _, fun p hp q hq => ?_⟩
    rw [List.mem_singleton.1 hq]
    exact (beats p hp).2.2
  · rcases List.mem_append.1 hp with hp | hp
    · obtain ⟨q, hq, hle, hbt⟩ := h.cover p hp (Nat.le_trans hn hw)
      by_cases hs : better g q.2 v = true
      · refine ⟨q, List.mem_append_left _ (List.mem_filter.2 ⟨hq, ?_⟩), hle, hbt⟩
        unfold stays
        rw [Bool.and_eq_true, decide_eq_true_eq]
        exact ⟨Nat.le_trans hw (fadd_mono hle), hs⟩
      · refine ⟨(now', v), List.mem_append_right _ (List.mem_singleton.2 rfl), Nat.le_trans (h.past p hp) hn, ?_⟩
        exact worse_trans (by simpa using hs) hbt
    · rw [List.mem_singleton.1 hp]
      exact ⟨(now', v), List.mem_append_right _ (List.mem_singleton.2 rfl), Nat.le_refl _, better_irrefl _ _⟩
  · rcases List.mem_append.1 hp with hp | hp
    · exact Nat.le_trans (h.past p hp) hn
    · rw [List.mem_singleton.1 hp]; exact Nat.le_refl _

/-- m is a value of the window that no value of the window's first samples beats. -/
structure Most (g : Bool) (win now : Nat) (all some_ : List Smp) (m : Nat) : Prop where
  isin : ∃ p ∈ all, now ≤ fadd p.1 win ∧ p.2 = m
  top : ∀ p ∈ some_, now ≤ fadd p.1 win → better g p.2 m = false

theorem most_start {g : Bool} {win now v : Nat} {all : List Smp} (h : (now, v) ∈ all) (hb : now < 18446744073709551616) : Most g win now all [] v := ⟨⟨(now, v), h, fadd_ge hb, rfl⟩, fun _ h => (by cases h)⟩
theorem most_out {g : Bool} {win now m : Nat} {all l : List Smp} {p : Smp} (h : Most g win now all l m) (hp : ¬ now ≤ fadd p.1 win) : Most g win now all (l ++ [p]) m := by
  refine ⟨h.isin, fun q hq hw => ?_⟩
  rcases List.mem_append.1 hq with hq | hq
  · exact h.top q hq hw
  · rw [List.mem_singleton.1 hq] at hw; exact absurd hw hp
theorem most_max {win now m : Nat} {all l : List Smp} {p : Smp} (h : Most true win now all l m) (hp : p ∈ all) (hw : now ≤ fadd p.1 win) : Most true win now all (l ++ [p]) (max m p.2) := by
  refine ⟨?_, fun q hq hqw => ?_⟩
  · rcases Nat.le_total m p.2 with hle | hle
    · exact ⟨p, hp, hw, (Nat.max_eq_right hle).symm⟩
    · rw [Nat.max_eq_left hle]; exact h.isin
  · rcases List.mem_append.1 hq with hq | hq
    · have := h.top q hq hqw
      simp [better] at this ⊢
      omega
    · rw [List.mem_singleton.1 hq]
      simp [better]
      omega
theorem most_min {win now m : Nat} {all l : List Smp} {p : Smp} (h : Most false win now all l m) (hp : p ∈ all) (hw : now ≤ fadd p.1 win) : Most false win now all (l ++ [p]) (min m p.2) := by
  refine ⟨?_, fun q hq hqw => ?_⟩
  · rcases Nat.le_total m p.2 with hle | hle
    · rw [Nat.min_eq_left hle]; exact h.isin
    · exact ⟨p, hp, hw, (Nat.min_eq_right hle).symm⟩
  · rcases List.mem_append.1 hq with hq | hq
    · have := h.top q hq hqw
      simp [better] at this ⊢
      omega
    · rw [List.mem_singleton.1 hq]
      simp [better]
      omega

/-- The pushed list's first value is the window's. -/
theorem best_most {g : Bool} {win now m : Nat} {all l : List Smp} (h : Holds g win all l now) (k : Most g win now all all m) : best l = m := by
  obtain ⟨p, hp, hw, rfl⟩ := k.isin
  obtain ⟨q, hq, _, hbt⟩ := h.cover p hp hw
  cases l with
  | nil => cases hq
  | cons r l =>
    show r.2 = p.2
    have hr := h.inn r (List.mem_cons_self)
    have h1 : better g r.2 p.2 = false := k.top r hr.1 hr.2
    refine better_tri h1 ?_
    have hqr : better g q.2 r.2 = false := by
      rcases List.mem_cons.1 hq with rfl | hq
      · exact better_irrefl _ _
      · exact better_asymm ((List.pairwise_cons.1 h.falls).1 q hq)
    cases g <;> simp [better] at * <;> omega
end Wig
