/-
  The halved window as plain numbers: what a window is behind bytes that came, a loss, a collapse; what of this the statements of layer 10 ask. No condition: nothing of the program is named here.
-/
import Derived.Test.YtpdmepblmjjeeaaFixMath
set_option linter.unusedVariables false
namespace Wig
/-- A window. -/
structure Rn where
  cwnd : Nat
  thresh : Nat
  since : Nat
  rest : Nat
deriving DecidableEq
def Rn.Ok (c : Rn) : Prop := c.cwnd < 18446744073709551616 ∧ c.thresh < 18446744073709551616 ∧ c.since < 18446744073709551616 ∧ c.rest < 18446744073709551616
def nheld (c : Nat) : Nat := if c < 2400 then 2400 else if 16777216 < c then 16777216 else c
def nnew : Rn := ⟨12000, 16777216, 0, 0⟩
/-- What is left over, and bytes times Segment. -/
def nrest (c : Rn) (bytes : Nat) : Nat := fadd c.rest (fmul bytes 1200)
/-- The divisor. -/
def nby (c : Rn) : Nat := if c.cwnd = 0 then 1 else c.cwnd
def nack (c : Rn) (bytes at_ : Nat) (limited : Bool) : Rn :=
  if at_ < c.since ∨ limited = true then c
  else if c.cwnd < c.thresh then { c with cwnd := nheld (fadd c.cwnd bytes) }
  else { c with cwnd := nheld (fadd c.cwnd (nrest c bytes / nby c)), rest := nrest c bytes % nby c }
def nloss (c : Rn) (at_ now : Nat) : Rn := if at_ < c.since then c else ⟨nheld (c.cwnd / 2), nheld (c.cwnd / 2), fadd now 1, 0⟩
def ncoll (c : Rn) : Rn := ⟨2400, c.thresh, 0, 0⟩

theorem fadd_lt0 (a b : Nat) : fadd a b < 18446744073709551616 := by unfold fadd; split <;> omega
theorem fmul_lt0 (a b : Nat) : fmul a b < 18446744073709551616 := by unfold fmul; split <;> omega
theorem nheld_le (c : Nat) : nheld c ≤ 16777216 := by unfold nheld; split; omega; split <;> omega
theorem nheld_ge (c : Nat) : 2400 ≤ nheld c := by unfold nheld; split; omega; split <;> omega
theorem nheld_id {c : Nat} (h0 : 2400 ≤ c) (h1 : c ≤ 16777216) : nheld c = c := by unfold nheld; rw [if_neg (by omega), if_neg (by omega)]
theorem nby_pos (c : Rn) : 0 < nby c := by unfold nby; split <;> omega
theorem nrest_lt (c : Rn) (b : Nat) : nrest c b < 18446744073709551616 := fadd_lt0 _ _
theorem nby_lt {c : Rn} (h : c.Ok) : nby c < 18446744073709551616 := by unfold nby; have := h.1; split <;> omega
theorem nack_ok {c : Rn} (h : c.Ok) (b a : Nat) (l : Bool) : (nack c b a l).Ok := by
  obtain ⟨h1, h2, h3, h4⟩ := h
  unfold nack
  split
  · exact ⟨h1, h2, h3, h4⟩
  · split
    · exact ⟨by have := nheld_le (fadd c.cwnd b); simp only; omega, h2, h3, h4⟩
    · refine ⟨by have := nheld_le (fadd c.cwnd (nrest c b / nby c)); simp only; omega, h2, h3, ?_⟩
      have h5 := Nat.mod_lt (nrest c b) (nby_pos c)
      have h6 := nby_lt ⟨h1, h2, h3, h4⟩
      simp only
      omega
theorem nloss_ok {c : Rn} (h : c.Ok) (a n : Nat) : (nloss c a n).Ok := by
  unfold nloss
  split
  · exact h
  · have h1 := nheld_le (c.cwnd / 2)
    exact ⟨by simp only; omega, by simp only; omega, fadd_lt0 _ _, by simp⟩
theorem ncoll_ok {c : Rn} (h : c.Ok) : (ncoll c).Ok := ⟨by simp [ncoll], h.2.1, by simp [ncoll], by simp [ncoll]⟩
theorem nnew_ok : nnew.Ok := by refine ⟨?_, ?_, ?_, ?_⟩ <;> decide

/-! ### Products through a number -/
/-- A product through a number that is no less than one factor. -/
theorem fmuldiv_le {a b c : Nat} (h : b ≤ c) (ha : a < 18446744073709551616) : fmuldiv a b c ≤ a := by
  unfold fmuldiv
  split
  · omega
  · rename_i h1
    have hc : 0 < c := by
      rcases Nat.eq_zero_or_pos c with h0 | h0
      · have : b = 0 := by omega
        subst this
        simp at h1
      · exact h0
    have h2 : a * b ≤ a * c := Nat.mul_le_mul_left _ h
    have h3 : a * c < c * 18446744073709551616 := by rw [Nat.mul_comm a c]; exact (Nat.mul_lt_mul_left hc).2 ha
    rw [if_neg (by omega)]
    exact Nat.div_le_of_le_mul (by rw [Nat.mul_comm c a]; exact h2)
theorem fmuldiv_mono {a a' b c : Nat} (h : a ≤ a') : fmuldiv a b c ≤ fmuldiv a' b c := by
  have h1 : a * b ≤ a' * b := Nat.mul_le_mul_right _ h
  unfold fmuldiv
  generalize a * b = p at h1 ⊢
  generalize a' * b = q at h1 ⊢
  split
  · exact Nat.zero_le _
  · rw [if_neg (show ¬ q = 0 by omega)]
    split
    · rw [if_pos (by omega)]
      exact Nat.le_refl _
    · split
      · have hc : p / c < 18446744073709551616 := by
          rcases Nat.eq_zero_or_pos c with h0 | h0
          · subst h0; simp
          · rw [Nat.div_lt_iff_lt_mul h0, Nat.mul_comm]; omega
        omega
      · exact Nat.div_le_div_right h1

/-! ### Within the least and the greatest -/
def NFine (c : Rn) : Prop := 2400 ≤ c.cwnd ∧ c.cwnd ≤ 16777216 ∧ 2400 ≤ c.thresh ∧ c.thresh ≤ 16777216
theorem nfine_new : NFine nnew := by refine ⟨?_, ?_, ?_, ?_⟩ <;> decide
theorem nheld_up {c x : Nat} (h : c ≤ 16777216) (hx : c ≤ x) : c ≤ nheld x := by unfold nheld; split; omega; split <;> omega
theorem fadd_up {a b : Nat} (h : a < 18446744073709551616) : a ≤ fadd a b := by unfold fadd; split <;> omega
theorem nfine_ack {c : Rn} (h : NFine c) (b a : Nat) (l : Bool) : NFine (nack c b a l) ∧ c.cwnd ≤ (nack c b a l).cwnd ∧ (nack c b a l).thresh = c.thresh ∧ (nack c b a l).since = c.since := by
  obtain ⟨h1, h2, h3, h4⟩ := h
  unfold nack
  split
  · exact ⟨⟨h1, h2, h3, h4⟩, Nat.le_refl _, rfl, rfl⟩
  · split
    · exact ⟨⟨nheld_ge _, nheld_le _, h3, h4⟩, nheld_up h2 (fadd_up (by omega)), rfl, rfl⟩
    · exact ⟨⟨nheld_ge _, nheld_le _, h3, h4⟩, nheld_up h2 (fadd_up (by omega)), rfl, rfl⟩
theorem nfine_loss {c : Rn} (h : NFine c) (a n : Nat) : NFine (nloss c a n) ∧ (nloss c a n).cwnd ≤ c.cwnd := by
  obtain ⟨h1, h2, h3, h4⟩ := h
  unfold nloss
  split
  · exact ⟨⟨h1, h2, h3, h4⟩, Nat.le_refl _⟩
  · refine ⟨⟨nheld_ge _, nheld_le _, nheld_ge _, nheld_le _⟩, ?_⟩
    simp only
    unfold nheld
    split
    · omega
    · split <;> omega
theorem nfine_coll {c : Rn} (h : NFine c) : NFine (ncoll c) := ⟨by simp [ncoll], by simp [ncoll], h.2.2.1, h.2.2.2⟩

/-! ### Behind a loss -/
theorem nloss_none {c : Rn} {a n : Nat} (h : a < c.since) : nloss c a n = c := by unfold nloss; rw [if_pos h]
theorem nloss_some {c : Rn} {a n : Nat} (h : ¬ a < c.since) : nloss c a n = ⟨nheld (c.cwnd / 2), nheld (c.cwnd / 2), fadd n 1, 0⟩ := by unfold nloss; rw [if_neg h]
theorem nloss_again {c : Rn} {a n e m : Nat} (h : ¬ a < c.since) (hn : n < 4294967296) (he : e ≤ n) : nloss (nloss c a n) e m = nloss c a n := by
  refine nloss_none ?_
  rw [nloss_some h]
  unfold fadd
  simp only
  rw [if_pos (by omega)]
  omega
theorem nack_old {c : Rn} {b a : Nat} {l : Bool} (h : a < c.since) : nack c b a l = c := by unfold nack; rw [if_pos (.inl h)]
theorem nack_limited {c : Rn} {b a : Nat} : nack c b a true = c := by unfold nack; rw [if_pos (.inr rfl)]
theorem nack_behind {c : Rn} {a n e b : Nat} {l : Bool} (h : ¬ a < c.since) (hn : n < 4294967296) (he : e ≤ n) : nack (nloss c a n) b e l = nloss c a n := by
  refine nack_old ?_
  rw [nloss_some h]
  unfold fadd
  simp only
  rw [if_pos (by omega)]
  omega

/-! ### Slowly: a packet a window -/
/-- Behind some bytes, of a window that began at w with a thresh of 2400 and nothing left over; T is how many bytes came. -/
def NRound (w T : Nat) (c : Rn) : Prop := w ≤ c.cwnd ∧ c.cwnd ≤ w + 1200 ∧ c.thresh = 2400 ∧ c.since = 0 ∧ w * (c.cwnd - w) + c.rest ≤ 1200 * T
theorem nround_start (w : Nat) : NRound w 0 ⟨w, 2400, 0, 0⟩ := ⟨Nat.le_refl _, by simp, rfl, rfl, by simp⟩
theorem nround_ack {w T b : Nat} {c : Rn} (hw : 2400 ≤ w) (hw2 : w ≤ 1002399) (h : NRound w T c) (hb : T + b ≤ w) : NRound w (T + b) (nack c b 0 false) := by
  obtain ⟨h1, h2, h3, h4, h5⟩ := h
  have hr : c.rest ≤ 1200 * T := Nat.le_trans (Nat.le_add_left _ _) h5
  have e1 : fmul b 1200 = b * 1200 := by unfold fmul; rw [if_pos (by omega)]
  have e2 : nrest c b = c.rest + b * 1200 := by unfold nrest fadd; rw [e1, if_pos (by omega)]
  have e3 : nby c = c.cwnd := by unfold nby; rw [if_neg (by omega)]
  obtain ⟨g, hg⟩ : ∃ g, g = (c.rest + b * 1200) / c.cwnd := ⟨_, rfl⟩
  obtain ⟨r, hr2⟩ : ∃ r, r = (c.rest + b * 1200) % c.cwnd := ⟨_, rfl⟩
  have hd : c.cwnd * g + r = c.rest + b * 1200 := by rw [hg, hr2]; exact Nat.div_add_mod _ _
  have key : w * (c.cwnd - w + g) + r ≤ 1200 * (T + b) := by
    have : w * g ≤ c.cwnd * g := Nat.mul_le_mul_right _ h1
    rw [Nat.mul_add]
    omega
  have hle : c.cwnd - w + g ≤ 1200 := by
    have h6 : w * (c.cwnd - w + g) ≤ w * 1200 := by
      have : 1200 * (T + b) ≤ 1200 * w := Nat.mul_le_mul_left _ hb
      omega
    exact Nat.le_of_mul_le_mul_left h6 (by omega)
  have e4 : fadd c.cwnd g = c.cwnd + g := by unfold fadd; rw [if_pos (by omega)]
  have e5 : nack c b 0 false = ⟨c.cwnd + g, c.thresh, c.since, r⟩ := by
    unfold nack
    rw [if_neg (by rw [h4]; simp), if_neg (by omega), e2, e3, ← hg, ← hr2, e4, nheld_id (by omega) (by omega)]
  rw [e5]
  refine ⟨by simp only; omega, by simp only; omega, h3, h4, ?_⟩
  simp only
  rw [show c.cwnd + g - w = c.cwnd - w + g by omega]
  exact key
theorem nround_once {w : Nat} (hw : 2400 ≤ w) (hw2 : w ≤ 1002399) : nack ⟨w, 2400, 0, 0⟩ w 0 false = ⟨w + 1200, 2400, 0, 0⟩ := by
  have e1 : fmul w 1200 = 1200 * w := by unfold fmul; rw [if_pos (by omega)]; omega
  have e2 : nrest ⟨w, 2400, 0, 0⟩ w = 1200 * w := by unfold nrest fadd; rw [e1, if_pos (by simp only; omega)]; simp
  have e3 : nby ⟨w, 2400, 0, 0⟩ = w := by unfold nby; rw [if_neg (by simp only; omega)]
  unfold nack
  rw [if_neg (by simp), if_neg (by simp only; omega), e2, e3, Nat.mul_div_cancel _ (by omega), Nat.mul_mod_left]
  have e4 : fadd w 1200 = w + 1200 := by unfold fadd; rw [if_pos (by omega)]
  simp only
  rw [e4, nheld_id (by omega) (by omega)]

/-! ### Ahead of the thresh -/
theorem nslow_ack {s b : Nat} (h0 : 12000 ≤ s) (h1 : s < 16777216) (hb : b < 4294967296) : nack ⟨s, 16777216, 0, 0⟩ b 0 false = ⟨min (s + b) 16777216, 16777216, 0, 0⟩ := by
  unfold nack
  rw [if_neg (by simp), if_pos (by simp only; omega)]
  have e : nheld (fadd s b) = min (s + b) 16777216 := by
    unfold fadd
    rw [if_pos (by omega)]
    unfold nheld
    rw [if_neg (by omega)]
    split <;> omega
  simp only
  rw [e]

/-! ### Halved again and again -/
theorem nfalls {c : Rn} {i : Nat} (hc : c.cwnd ≤ 16777216) (hs : c.since ≤ 10 * i) (hi : i < 30) :
    nloss c (10 * i + 5) (10 * i + 9) = ⟨max (c.cwnd / 2) 2400, max (c.cwnd / 2) 2400, 10 * (i + 1), 0⟩ := by
  rw [nloss_some (by omega)]
  have e1 : fadd (10 * i + 9) 1 = 10 * (i + 1) := by unfold fadd; rw [if_pos (by omega)]; omega
  have e2 : nheld (c.cwnd / 2) = max (c.cwnd / 2) 2400 := by
    unfold nheld
    split
    · omega
    · rw [if_neg (by omega)]; omega
  rw [e1, e2]
end Wig
