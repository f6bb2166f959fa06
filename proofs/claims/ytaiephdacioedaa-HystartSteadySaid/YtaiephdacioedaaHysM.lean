/-
  The end of a slow start as plain numbers: what is known behind a time that an answer took, by how much a window grows; what of this the statements of layer 11 ask. No condition: nothing of the program is named here.
-/
import Derived.Test.YtaiephdacioedaaFixMath
set_option linter.unusedVariables false
namespace Wig
/-- A slow start. -/
structure Sw where
  phase : Int
  fin : Nat
  last : Nat
  low : Nat
  count : Nat
  base : Nat
  rounds : Nat
deriving DecidableEq
def Sw.Ok (s : Sw) : Prop := -9223372036854775808 ≤ s.phase ∧ s.phase ≤ 9223372036854775807 ∧ s.fin < 18446744073709551616 ∧ s.last < 18446744073709551616 ∧ s.low < 18446744073709551616 ∧ s.count < 18446744073709551616 ∧ s.base < 18446744073709551616 ∧ s.rounds < 18446744073709551616
def hnew (next : Nat) : Sw := ⟨0, next, 18446744073709551615, 18446744073709551615, 0, 18446744073709551615, 0⟩
def hfinish (s : Sw) : Sw := { s with phase := 2 }
def hlimit (last : Nat) : Nat := min (max (last / 8) 4) 16
/-- Where a round ends. -/
def hround (s : Sw) (next : Nat) : Sw :=
  if s.phase = 1 then ⟨if fadd s.rounds 1 = 5 then 2 else 1, next, s.low, 18446744073709551615, 0, s.base, fadd s.rounds 1⟩
  else ⟨s.phase, next, s.low, 18446744073709551615, 0, s.base, s.rounds⟩
/-- The round's end, if there is one. -/
def hturn (s : Sw) (number next : Nat) : Sw := if s.fin ≤ number then hround s next else s
/-- A sample is counted. -/
def hcount (s : Sw) (took : Nat) : Sw := { s with low := min s.low took, count := fadd s.count 1 }
/-- What the samples tell. -/
def htell (s : Sw) : Sw :=
  if s.count < 8 ∨ s.low = 18446744073709551615 ∨ s.last = 18446744073709551615 then s
  else if s.phase = 0 then (if fadd s.last (hlimit s.last) ≤ s.low then { s with phase := 1, base := s.low, rounds := 0 } else s)
  else if s.phase = 1 then (if s.low < s.base then { s with phase := 0, base := 18446744073709551615 } else s)
  else s
def hsample (s : Sw) (number next took : Nat) : Sw :=
  if s.phase = 2 then s
  else if (hturn s number next).phase = 2 then hturn s number next
  else htell (hcount (hturn s number next) took)
def hgrow (s : Sw) (bytes : Nat) : Nat := if s.phase = 0 then bytes else if s.phase = 1 then bytes / 4 else 0

theorem fadd_lth (a b : Nat) : fadd a b < 18446744073709551616 := by unfold fadd; split <;> omega
theorem hlimit_ge (l : Nat) : 4 ≤ hlimit l := by unfold hlimit; omega
theorem hlimit_le (l : Nat) : hlimit l ≤ 16 := by unfold hlimit; omega
theorem hgrow_le (s : Sw) (b : Nat) : hgrow s b ≤ b := by unfold hgrow; split; omega; split <;> omega
theorem hnew_ok {n : Nat} (h : n < 18446744073709551616) : (hnew n).Ok := by
  refine ⟨?_, ?_, h, ?_, ?_, ?_, ?_, ?_⟩ <;> simp [hnew]
theorem hround_ok {s : Sw} {n : Nat} (h : s.Ok) (hn : n < 18446744073709551616) : (hround s n).Ok := by
  obtain ⟨h1, h2, h3, h4, h5, h6, h7, h8⟩ := h
  unfold hround
  split
  · refine ⟨?_, ?_, hn, h5, by simp, by simp, h7, fadd_lth _ _⟩ <;> (simp only; split <;> omega)
  · exact ⟨h1, h2, hn, h5, by simp, by simp, h7, h8⟩
theorem hturn_ok {s : Sw} {m n : Nat} (h : s.Ok) (hn : n < 18446744073709551616) : (hturn s m n).Ok := by
  unfold hturn
  split
  · exact hround_ok h hn
  · exact h
theorem hcount_ok {s : Sw} {t : Nat} (h : s.Ok) : (hcount s t).Ok := by
  obtain ⟨h1, h2, h3, h4, h5, h6, h7, h8⟩ := h
  exact ⟨h1, h2, h3, h4, by simp only [hcount]; omega, fadd_lth _ _, h7, h8⟩
theorem htell_ok {s : Sw} (h : s.Ok) : (htell s).Ok := by
  obtain ⟨h1, h2, h3, h4, h5, h6, h7, h8⟩ := h
  unfold htell
  split
  · exact ⟨h1, h2, h3, h4, h5, h6, h7, h8⟩
  · split
    · split
      · exact ⟨by simp, by simp, h3, h4, h5, h6, h5, by simp⟩
      · exact ⟨h1, h2, h3, h4, h5, h6, h7, h8⟩
    · split
      · split
        · exact ⟨by simp, by simp, h3, h4, h5, h6, by simp, h8⟩
        · exact ⟨h1, h2, h3, h4, h5, h6, h7, h8⟩
      · exact ⟨h1, h2, h3, h4, h5, h6, h7, h8⟩
theorem hsample_ok {s : Sw} {m n t : Nat} (h : s.Ok) (hn : n < 18446744073709551616) : (hsample s m n t).Ok := by
  unfold hsample
  split
  · exact h
  · split
    · exact hturn_ok h hn
    · exact htell_ok (hcount_ok (hturn_ok h hn))

/-! ### What htell leaves -/
theorem htell_low (s : Sw) : (htell s).low = s.low := by
  unfold htell
  split
  · rfl
  · split
    · split <;> rfl
    · split
      · split <;> rfl
      · rfl
theorem htell_phase {s : Sw} (h : s.phase = 0 ∨ s.phase = 1) : (htell s).phase = 0 ∨ (htell s).phase = 1 := by
  unfold htell
  split
  · exact h
  · split
    · split
      · exact .inr rfl
      · exact h
    · split
      · split
        · exact .inl rfl
        · exact h
      · exact h
theorem htell_rounds {s : Sw} : (htell s).rounds ≤ s.rounds := by
  unfold htell
  split
  · exact Nat.le_refl _
  · split
    · split
      · exact Nat.zero_le _
      · exact Nat.le_refl _
    · split
      · split <;> exact Nat.le_refl _
      · exact Nat.le_refl _

/-! ### Finished once: what holds behind each answer -/
def HInv (s : Sw) (low : Nat) : Prop := (s.phase = 2 ∧ s.rounds ≤ 5) ∨ ((s.phase = 0 ∨ s.phase = 1) ∧ s.rounds ≤ 4 ∧ s.low = low)
/-- The least time of the round behind an answer. -/
def hlow (s : Sw) (low number took : Nat) : Nat := min (if s.fin ≤ number then 18446744073709551615 else low) took
theorem hinv_new (n : Nat) : HInv (hnew n) 18446744073709551615 := .inr ⟨.inl rfl, by simp [hnew], rfl⟩
theorem hsample_finished {s : Sw} (h : s.phase = 2) (m n t : Nat) : hsample s m n t = s := by unfold hsample; rw [if_pos h]
theorem hturn_inv {s : Sw} {low m n : Nat} (hp : s.phase = 0 ∨ s.phase = 1) (hr : s.rounds ≤ 4) (hl : s.low = low) :
    ((hturn s m n).phase = 2 ∧ (hturn s m n).rounds = 5 ∧ s.rounds = 4) ∨ (((hturn s m n).phase = 0 ∨ (hturn s m n).phase = 1) ∧ (hturn s m n).rounds ≤ 4 ∧ (hturn s m n).low = if s.fin ≤ m then 18446744073709551615 else low) := by
  unfold hturn
  by_cases he : s.fin ≤ m
  · rw [if_pos he, if_pos he]
    unfold hround
    by_cases h1 : s.phase = 1
    · rw [if_pos h1]
      have e : fadd s.rounds 1 = s.rounds + 1 := by unfold fadd; rw [if_pos (by omega)]
      by_cases h5 : s.rounds + 1 = 5
      · exact .inl ⟨by simp only [e, if_pos h5], by simp only [e]; omega, by omega⟩
      · exact .inr ⟨.inr (by simp only [e, if_neg h5]), by simp only [e]; omega, rfl⟩
    · rw [if_neg h1]
      exact .inr ⟨hp, hr, rfl⟩
  · rw [if_neg he, if_neg he]
    exact .inr ⟨hp, hr, hl⟩
theorem hinv_sample {s : Sw} {low m n t : Nat} (h : HInv s low) (hs : s.phase ≠ 2) :
    HInv (hsample s m n t) (hlow s low m t) ∧ ((hsample s m n t).phase ≠ 2 → (hsample s m n t).low = hlow s low m t) ∧ ((hsample s m n t).phase = 2 → s.rounds = 4) ∧ (hsample s m n t).rounds ≤ 5 ∧ 0 ≤ (hsample s m n t).phase ∧ (hsample s m n t).phase ≤ 2 := by
  rcases h with ⟨h, _⟩ | ⟨hp, hr, hl⟩
  · exact absurd h hs
  · unfold hsample
    rw [if_neg hs]
    rcases hturn_inv (m := m) (n := n) hp hr hl with ⟨h1, h2, h3⟩ | ⟨h1, h2, h3⟩
    · rw [if_pos h1]
      exact ⟨.inl ⟨h1, by omega⟩, fun h => absurd h1 h, fun _ => h3, by omega, by omega, by omega⟩
    · rw [if_neg (by omega)]
      have hl2 : (htell (hcount (hturn s m n) t)).low = hlow s low m t := by
        rw [htell_low]
        show min (hturn s m n).low t = _
        rw [h3]
        rfl
      have hp2 := htell_phase (s := hcount (hturn s m n) t) h1
      have hr2 : (htell (hcount (hturn s m n) t)).rounds ≤ 4 := Nat.le_trans htell_rounds h2
      exact ⟨.inr ⟨hp2, hr2, hl2⟩, fun _ => hl2, fun h => by omega, by omega, by omega, by omega⟩

/-! ### Fewer than eight samples -/
/-- Behind i samples of a round that does not end. -/
def hfew (s : Sw) (low i : Nat) : Sw := ⟨s.phase, s.fin, s.last, low, i, s.base, s.rounds⟩
theorem hfew_sample {s : Sw} {low i n t : Nat} (hp : s.phase = 0 ∨ s.phase = 1) (he : s.fin ≠ 0) (hi : i < 7) : hsample (hfew s low i) (s.fin - 1) n t = hfew s (min low t) (i + 1) := by
  have hf : (hfew s low i).fin = s.fin := rfl
  have hph : (hfew s low i).phase = s.phase := rfl
  have e1 : hturn (hfew s low i) (s.fin - 1) n = hfew s low i := by unfold hturn; rw [hf, if_neg (by omega)]
  have e2 : fadd i 1 = i + 1 := by unfold fadd; rw [if_pos (by omega)]
  have e3 : hcount (hfew s low i) t = hfew s (min low t) (i + 1) := by
    show Sw.mk _ _ _ _ (fadd i 1) _ _ = _
    rw [e2]
    rfl
  unfold hsample
  rw [if_neg (by rw [hph]; omega), e1, if_neg (by rw [hph]; omega), e3]
  unfold htell
  rw [if_pos (.inl (by show i + 1 < 8; omega))]

/-! ### All answers take the same time -/
def HSteady (t : Nat) (s : Sw) : Prop := s.phase = 0 ∧ (s.low = t ∨ s.low = 18446744073709551615) ∧ (s.last = t ∨ s.last = 18446744073709551615)
theorem hsteady_new (t n : Nat) : HSteady t (hnew n) := ⟨rfl, .inr rfl, .inr rfl⟩
theorem hsteady_sample {s : Sw} {m n t : Nat} (h : HSteady t s) (ht : t < 18446744073709551615) : HSteady t (hsample s m n t) ∧ (hsample s m n t).low = t := by
  obtain ⟨h1, h2, h3⟩ := h
  have hturn0 : (hturn s m n).phase = 0 ∧ ((hturn s m n).low = t ∨ (hturn s m n).low = 18446744073709551615) ∧ ((hturn s m n).last = t ∨ (hturn s m n).last = 18446744073709551615) := by
    unfold hturn
    split
    · unfold hround
      rw [if_neg (by omega)]
      exact ⟨h1, .inr rfl, h2⟩
    · exact ⟨h1, h2, h3⟩
  obtain ⟨g1, g2, g3⟩ := hturn0
  generalize hu : hturn s m n = u at g1 g2 g3
  have e : hsample s m n t = htell (hcount u t) := by
    unfold hsample
    rw [if_neg (by omega), hu, if_neg (by omega)]
  have hl : (hcount u t).low = t := by
    show min u.low t = t
    omega
  have e2 : htell (hcount u t) = hcount u t := by
    unfold htell
    split
    · rfl
    · rename_i hno
      have hlast : (hcount u t).last = t := by
        rcases g3 with g3 | g3
        · exact g3
        · exact absurd (.inr (.inr g3)) hno
      rw [if_pos (show (hcount u t).phase = 0 from g1), hl, hlast, if_neg]
      have h4 := hlimit_ge t
      unfold fadd
      split <;> omega
  rw [e, e2]
  exact ⟨⟨g1, .inl hl, g3⟩, hl⟩
end Wig
