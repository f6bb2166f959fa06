/-
  The window that falls by marks as plain numbers; what of this the statements of layer 14 ask. No condition: nothing of the program is named here.
-/
import Derived.Test.YtpdmepblmjjeeaaRenM
set_option linter.unusedVariables false
namespace Wig
structure Pg where
  base : Rn
  alpha : Nat
  acked : Nat
  marked : Nat
  fin : Nat
  cut : Bool
deriving DecidableEq
def Pg.Ok (c : Pg) : Prop := c.base.Ok ∧ c.alpha < 18446744073709551616 ∧ c.acked < 18446744073709551616 ∧ c.marked < 18446744073709551616 ∧ c.fin < 18446744073709551616
def gnew (next : Nat) : Pg := ⟨nnew, 1048576, 0, 0, next, false⟩
/-- Which part of 2^20 was marked. -/
def gshare (marked acked : Nat) : Nat := if acked = 0 then 0 else fmuldiv (min marked acked) 1048576 acked
def galpha (alpha marked acked : Nat) : Nat := fadd (alpha - alpha / 16) (gshare marked acked / 16)
def gturn (c : Pg) (bytes number next : Nat) : Pg :=
  if c.fin ≤ number then ⟨c.base, galpha c.alpha c.marked (fadd c.acked bytes), 0, 0, next, false⟩ else { c with acked := fadd c.acked bytes }
def gack (c : Pg) (bytes at_ number next : Nat) (limited : Bool) : Pg := { gturn c bytes number next with base := nack c.base bytes at_ limited }
def gless (c : Pg) : Nat := nheld (fsub c.base.cwnd (fmuldiv c.base.cwnd c.alpha 2097152))
def gmark (c : Pg) (bytes at_ : Nat) : Pg :=
  if c.cut = true ∨ at_ < c.base.since then { c with marked := fadd c.marked bytes }
  else ⟨⟨gless c, gless c, c.base.since, 0⟩, c.alpha, c.acked, fadd c.marked bytes, c.fin, true⟩
def gloss (c : Pg) (at_ now : Nat) : Pg := { c with base := nloss c.base at_ now }
def gcoll (c : Pg) : Pg := { c with base := ncoll c.base }

theorem gshare_le {m a : Nat} : gshare m a ≤ 1048576 := by
  unfold gshare
  split
  · omega
  · rename_i h
    unfold fmuldiv
    split
    · omega
    · have h1 : min m a * 1048576 ≤ a * 1048576 := Nat.mul_le_mul_right _ (Nat.min_le_right _ _)
      rw [if_neg (by omega)]
      exact Nat.div_le_of_le_mul h1
theorem gshare_mono {m m' a : Nat} (h : m ≤ m') : gshare m a ≤ gshare m' a := by
  unfold gshare
  split
  · omega
  · exact fmuldiv_mono (by omega)
theorem gshare_all {m a : Nat} (ha : a ≠ 0) (h : a ≤ m) : gshare m a = 1048576 := by
  unfold gshare
  have e : min m a = a := by omega
  rw [if_neg ha, e]
  unfold fmuldiv
  have h0 : 0 < a * 1048576 := by omega
  rw [if_neg (by omega), if_neg (by omega), Nat.mul_comm]
  exact Nat.mul_div_cancel _ (by omega)
theorem gshare_none (a : Nat) : gshare 0 a = 0 := by
  unfold gshare
  split
  · rfl
  · unfold fmuldiv; rw [if_pos (by simp)]
theorem galpha_lt (x m a : Nat) : galpha x m a < 18446744073709551616 := fadd_lt0 _ _
theorem galpha_eq {x m a : Nat} (hx : x ≤ 1048576) : galpha x m a = x - x / 16 + gshare m a / 16 := by
  have := gshare_le (m := m) (a := a)
  unfold galpha fadd
  rw [if_pos (by omega)]
theorem galpha_le {x m a : Nat} (hx : x ≤ 1048576) : galpha x m a ≤ 1048576 := by
  have := gshare_le (m := m) (a := a)
  rw [galpha_eq hx]
  omega
theorem gturn_ok {c : Pg} {b m n : Nat} (h : c.Ok) (hn : n < 18446744073709551616) : (gturn c b m n).Ok := by
  obtain ⟨h1, h2, h3, h4, h5⟩ := h
  unfold gturn
  split
  · exact ⟨h1, galpha_lt _ _ _, by simp, by simp, hn⟩
  · exact ⟨h1, h2, fadd_lt0 _ _, h4, h5⟩
theorem gack_ok {c : Pg} {b a m n : Nat} {l : Bool} (h : c.Ok) (hn : n < 18446744073709551616) : (gack c b a m n l).Ok := by
  obtain ⟨_, h2, h3, h4, h5⟩ := gturn_ok (b := b) (m := m) h hn
  exact ⟨nack_ok h.1 _ _ _, h2, h3, h4, h5⟩
theorem gmark_ok {c : Pg} {b a : Nat} (h : c.Ok) : (gmark c b a).Ok := by
  obtain ⟨h1, h2, h3, h4, h5⟩ := h
  unfold gmark
  split
  · exact ⟨h1, h2, h3, fadd_lt0 _ _, h5⟩
  · have := nheld_le (fsub c.base.cwnd (fmuldiv c.base.cwnd c.alpha 2097152))
    refine ⟨⟨?_, ?_, h1.2.2.1, by simp⟩, h2, h3, fadd_lt0 _ _, h5⟩ <;> (show nheld _ < _; omega)
theorem gloss_ok {c : Pg} {a n : Nat} (h : c.Ok) : (gloss c a n).Ok := ⟨nloss_ok h.1 _ _, h.2.1, h.2.2.1, h.2.2.2.1, h.2.2.2.2⟩
theorem gcoll_ok {c : Pg} (h : c.Ok) : (gcoll c).Ok := ⟨ncoll_ok h.1, h.2.1, h.2.2.1, h.2.2.2.1, h.2.2.2.2⟩
theorem gnew_ok {n : Nat} (h : n < 18446744073709551616) : (gnew n).Ok := ⟨nnew_ok, by simp [gnew], by simp [gnew], by simp [gnew], h⟩

/-! ### Within the least and the greatest -/
def GFine (c : Pg) : Prop := NFine c.base ∧ c.alpha ≤ 1048576
theorem gfine_new (n : Nat) : GFine (gnew n) := ⟨nfine_new, by simp [gnew]⟩
theorem gfine_ack {c : Pg} (h : GFine c) (b a m n : Nat) (l : Bool) : GFine (gack c b a m n l) ∧ c.base.cwnd ≤ (gack c b a m n l).base.cwnd := by
  obtain ⟨h1, h2⟩ := h
  obtain ⟨k1, k2, _, _⟩ := nfine_ack h1 b a l
  refine ⟨⟨k1, ?_⟩, k2⟩
  show (gturn c b m n).alpha ≤ _
  unfold gturn
  split
  · exact galpha_le h2
  · exact h2
theorem gless_le {c : Pg} (h : NFine c.base) : gless c ≤ c.base.cwnd := by
  obtain ⟨h1, h2, _, _⟩ := h
  unfold gless nheld fsub
  split
  · omega
  · split <;> omega
theorem gfine_mark {c : Pg} (h : GFine c) (b a : Nat) : GFine (gmark c b a) ∧ (gmark c b a).base.cwnd ≤ c.base.cwnd ∧ (c.cut = true → (gmark c b a).base = c.base) ∧ (gmark c b a).alpha = c.alpha := by
  obtain ⟨h1, h2⟩ := h
  unfold gmark
  split
  · exact ⟨⟨h1, h2⟩, Nat.le_refl _, fun _ => rfl, rfl⟩
  · rename_i hc
    exact ⟨⟨⟨nheld_ge _, nheld_le _, nheld_ge _, nheld_le _⟩, h2⟩, gless_le h1, fun h => absurd (.inl h) hc, rfl⟩
theorem gfine_loss {c : Pg} (h : GFine c) (a n : Nat) : GFine (gloss c a n) ∧ (gloss c a n).base.cwnd ≤ c.base.cwnd := by
  obtain ⟨k1, k2⟩ := nfine_loss h.1 a n
  exact ⟨⟨k1, h.2⟩, k2⟩
theorem gfine_coll {c : Pg} (h : GFine c) : GFine (gcoll c) := ⟨nfine_coll h.1, h.2⟩

/-! ### Without marks -/
/-- What a window without marks and chapter 10's have in common. -/
def GCalm (c : Pg) (b : Rn) : Prop := c.base = b ∧ c.marked = 0
theorem gcalm_new (n : Nat) : GCalm (gnew n) nnew := ⟨rfl, rfl⟩
theorem gcalm_ack {c : Pg} {r : Rn} (h : GCalm c r) (hx : c.alpha ≤ 1048576) (b a m n : Nat) (l : Bool) :
    GCalm (gack c b a m n l) (nack r b a l) ∧ (gack c b a m n l).alpha = (if c.fin ≤ m then c.alpha - c.alpha / 16 else c.alpha) := by
  obtain ⟨h1, h2⟩ := h
  refine ⟨⟨by rw [← h1]; rfl, ?_⟩, ?_⟩
  · show (gturn c b m n).marked = 0
    unfold gturn
    split
    · rfl
    · exact h2
  · show (gturn c b m n).alpha = _
    unfold gturn
    split
    · show galpha c.alpha c.marked _ = _
      rw [h2, galpha_eq hx, gshare_none]
      omega
    · rfl
theorem gcalm_loss {c : Pg} {r : Rn} (h : GCalm c r) (a n : Nat) : GCalm (gloss c a n) (nloss r a n) := ⟨by rw [← h.1]; rfl, h.2⟩
theorem gcalm_coll {c : Pg} {r : Rn} (h : GCalm c r) : GCalm (gcoll c) (ncoll r) := ⟨by rw [← h.1]; rfl, h.2⟩

/-! ### Halves -/
theorem fmuldiv_half {w : Nat} (h : w ≤ 16777216) : fmuldiv w 1048576 2097152 = w / 2 := by
  unfold fmuldiv
  split
  · omega
  · rw [if_neg (by omega)]
    omega
theorem gmark_half {c : Pg} {b : Nat} (hc : c.cut = false) (hs : c.base.since = 0) (h0 : 4800 ≤ c.base.cwnd) (h1 : c.base.cwnd ≤ 16777216) (ha : c.alpha = 1048576) :
    (gmark c b 0).base.cwnd = c.base.cwnd - c.base.cwnd / 2 ∧ (gmark c b 0).base.thresh = (gmark c b 0).base.cwnd ∧ (gmark c b 0).cut = true := by
  unfold gmark
  rw [if_neg (by rw [hc, hs]; simp)]
  refine ⟨?_, rfl, rfl⟩
  show gless c = _
  unfold gless fsub
  rw [ha, fmuldiv_half h1]
  exact nheld_id (by omega) (by omega)
theorem gmark_none {c : Pg} {b : Nat} (hc : c.cut = false) (hs : c.base.since = 0) (h0 : 4800 ≤ c.base.cwnd) (h1 : c.base.cwnd ≤ 16777216) (ha : c.alpha = 0) :
    (gmark c b 0).base.cwnd = c.base.cwnd ∧ (gmark c b 0).cut = true := by
  unfold gmark
  rw [if_neg (by rw [hc, hs]; simp)]
  refine ⟨?_, rfl⟩
  show gless c = _
  unfold gless fsub
  have : fmuldiv c.base.cwnd c.alpha 2097152 = 0 := by rw [ha]; unfold fmuldiv; rw [if_pos (by simp)]
  rw [this]
  exact nheld_id (by omega) (by omega)

/-! ### Shares -/
theorem gshares {x m b : Nat} (hx : x ≤ 1048576) : galpha x 0 b ≤ x ∧ (x ≤ galpha x b b + 16 ∨ b = 0) ∧ galpha x 0 b ≤ galpha x m b ∧ galpha x m b ≤ galpha x b b ∧ galpha x b b ≤ 1048576 := by
  have h1 := gshare_mono (m := 0) (m' := m) (a := b) (Nat.zero_le _)
  have h2 : gshare m b ≤ gshare b b := by
    by_cases hb : b = 0
    · subst hb; unfold gshare; simp
    · rw [gshare_all hb (Nat.le_refl _)]; exact gshare_le
  have h3 := galpha_le (m := b) (a := b) hx
  rw [galpha_eq hx] at h3
  rw [galpha_eq hx, galpha_eq hx, galpha_eq hx]
  refine ⟨by rw [gshare_none]; omega, ?_, by omega, by omega, h3⟩
  by_cases hb : b = 0
  · exact .inr hb
  · rw [gshare_all hb (Nat.le_refl _)]
    exact .inl (by omega)
end Wig
