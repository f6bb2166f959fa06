/-
  The cube's window as plain numbers: the target of a time, what a window is behind bytes that came, a loss, a collapse; what of this the statements of layer 12 ask. No condition: nothing of the program is named here.
-/
import Derived.Test.YtjnkmghlhihjkaaRenM
set_option linter.unusedVariables false
namespace Wig
structure Cb where
  cwnd : Nat
  thresh : Nat
  since : Nat
  has : Bool
  epoch : Nat
  most : Nat
  k : Nat
  est : Nat
deriving DecidableEq
def Cb.Ok (c : Cb) : Prop := c.cwnd < 18446744073709551616 ∧ c.thresh < 18446744073709551616 ∧ c.since < 18446744073709551616 ∧ c.epoch < 18446744073709551616 ∧ c.most < 18446744073709551616 ∧ c.k < 18446744073709551616 ∧ c.est < 18446744073709551616
def cfar (d : Nat) : Nat := if 2097152 < d then 2097152 else d
def ccube (d : Nat) : Nat := fmuldiv (cfar d * cfar d * cfar d) 480 1000000000
def cout (c : Cb) (t : Nat) : Nat := if c.k ≤ t then fadd c.most (ccube (t - c.k)) else fsub c.most (ccube (c.k - t))
def cbound (w x : Nat) : Nat := if x < w then w else if fadd w (w / 2) < x then fadd w (w / 2) else x
def ctarget (c : Cb) (t : Nat) : Nat := cbound c.cwnd (cout c t)
def cnew : Cb := ⟨12000, 16777216, 0, false, 0, 0, 0, 0⟩
def cbegun (c : Cb) (now : Nat) : Cb :=
  if c.has = true then c
  else if c.cwnd < c.most then ⟨c.cwnd, c.thresh, c.since, true, now, c.most, fcbrt (fmuldiv (c.most - c.cwnd) 1000000000 480), c.cwnd⟩
  else ⟨c.cwnd, c.thresh, c.since, true, now, c.cwnd, 0, c.cwnd⟩
def cest (c : Cb) (bytes : Nat) : Nat := fadd c.est (fmuldiv bytes 635 c.cwnd)
def cnext (c : Cb) (bytes now took : Nat) : Nat := fadd c.cwnd (fmuldiv (ctarget c (fadd (fsub now c.epoch) took) - c.cwnd) bytes c.cwnd)
def cgrown (c : Cb) (bytes now took : Nat) : Cb := { c with cwnd := nheld (max (cest c bytes) (cnext c bytes now took)), est := cest c bytes }
def cack (c : Cb) (bytes at_ now took : Nat) (limited : Bool) : Cb :=
  if at_ < c.since ∨ limited = true then c
  else if c.cwnd < c.thresh then { c with cwnd := nheld (fadd c.cwnd bytes) }
  else cgrown (cbegun c now) bytes now took
def cmost (c : Cb) : Nat := if c.cwnd < c.most then fmuldiv c.cwnd 17 20 else c.cwnd
def cless (c : Cb) : Nat := nheld (fmuldiv c.cwnd 7 10)
def closs (c : Cb) (at_ now : Nat) : Cb := if at_ < c.since then c else ⟨cless c, cless c, fadd now 1, false, 0, cmost c, 0, 0⟩
def ccoll (c : Cb) : Cb := ⟨2400, c.thresh, 0, false, 0, c.most, 0, 0⟩

/-! ### The cube, and targets -/
theorem cfar_mono {a b : Nat} (h : a ≤ b) : cfar a ≤ cfar b := by unfold cfar; split <;> split <;> omega
theorem cfar_le (a : Nat) : cfar a ≤ 2097152 := by unfold cfar; split <;> omega
theorem ccube_mono {a b : Nat} (h : a ≤ b) : ccube a ≤ ccube b :=
  fmuldiv_mono (Nat.mul_le_mul (Nat.mul_le_mul (cfar_mono h) (cfar_mono h)) (cfar_mono h))
theorem ccube_zero : ccube 0 = 0 := by decide
theorem ccube_lt (d : Nat) : ccube d < 18446744073709551616 := fmuldiv_lt _ _ _
theorem cfar_cube (d : Nat) : cfar d * cfar d * cfar d ≤ 9223372036854775808 := by
  have h := cfar_le d
  have h1 : cfar d * cfar d ≤ 2097152 * 2097152 := Nat.mul_le_mul h h
  have h2 : cfar d * cfar d * cfar d ≤ 2097152 * 2097152 * 2097152 := Nat.mul_le_mul h1 h
  omega
theorem fadd_rise {a b b' : Nat} (h : b ≤ b') : fadd a b ≤ fadd a b' := by unfold fadd; split <;> split <;> omega
theorem cout_mono {c : Cb} {s t : Nat} (hm : c.most < 18446744073709551616) (h : s ≤ t) : cout c s ≤ cout c t := by
  unfold cout
  by_cases h1 : c.k ≤ s
  · rw [if_pos h1, if_pos (by omega)]
    exact fadd_rise (ccube_mono (by omega))
  · rw [if_neg h1]
    by_cases h2 : c.k ≤ t
    · rw [if_pos h2]
      unfold fsub
      exact Nat.le_trans (Nat.sub_le _ _) (fadd_up hm)
    · rw [if_neg h2]
      unfold fsub
      have := ccube_mono (show c.k - t ≤ c.k - s by omega)
      omega
theorem cbound_eq {w x : Nat} (hw : w < 18446744073709551616) : cbound w x = max w (min x (fadd w (w / 2))) := by
  have := fadd_up (b := w / 2) hw
  unfold cbound
  generalize fadd w (w / 2) = z at *
  split
  · omega
  · split <;> omega
theorem cbound_mono {w x y : Nat} (h : x ≤ y) (hw : w < 18446744073709551616) : cbound w x ≤ cbound w y := by rw [cbound_eq hw, cbound_eq hw]; omega
theorem cbound_ge {w x : Nat} (hw : w < 18446744073709551616) : w ≤ cbound w x := by rw [cbound_eq hw]; omega
theorem cbound_le {w x : Nat} (hw : w < 18446744073709551616) : cbound w x ≤ fadd w (w / 2) := by
  have := fadd_up (b := w / 2) hw
  rw [cbound_eq hw]
  omega
theorem ctarget_mono {c : Cb} {s t : Nat} (hc : c.Ok) (h : s ≤ t) : ctarget c s ≤ ctarget c t := cbound_mono (cout_mono hc.2.2.2.2.1 h) hc.1
theorem ctarget_ge {c : Cb} {t : Nat} (hc : c.Ok) : c.cwnd ≤ ctarget c t := cbound_ge hc.1
theorem ctarget_le {c : Cb} {t : Nat} (h : c.cwnd ≤ 4611686018427387904) : ctarget c t ≤ c.cwnd + c.cwnd / 2 := by
  have h1 := cbound_le (w := c.cwnd) (x := cout c t) (by omega)
  unfold ctarget
  unfold fadd at h1
  rw [if_pos (by omega)] at h1
  exact h1
theorem ctarget_lt {c : Cb} {t : Nat} (hc : c.Ok) : ctarget c t < 18446744073709551616 := Nat.lt_of_le_of_lt (cbound_le hc.1) (fadd_lt0 _ _)
/-- The target of the time K. -/
theorem ctarget_flat {c : Cb} (hc : c.Ok) (h : c.cwnd ≤ 1099511627776) : ctarget c c.k = min (max c.most c.cwnd) (c.cwnd + c.cwnd / 2) := by
  have h0 := hc.2.2.2.2.1
  have e : cout c c.k = c.most := by
    unfold cout
    rw [if_pos (Nat.le_refl _), Nat.sub_self, ccube_zero]
    unfold fadd
    rw [if_pos (by omega)]
    rfl
  have e2 : fadd c.cwnd (c.cwnd / 2) = c.cwnd + c.cwnd / 2 := by unfold fadd; rw [if_pos (by omega)]
  unfold ctarget cbound
  rw [e, e2]
  split
  · omega
  · split <;> omega

/-! ### Windows -/
theorem cest_lt (c : Cb) (b : Nat) : cest c b < 18446744073709551616 := fadd_lt0 _ _
theorem cnext_lt (c : Cb) (b n t : Nat) : cnext c b n t < 18446744073709551616 := fadd_lt0 _ _
theorem cnew_ok : cnew.Ok := by refine ⟨?_, ?_, ?_, ?_, ?_, ?_, ?_⟩ <;> decide
theorem cbegun_ok {c : Cb} {n : Nat} (hc : c.Ok) (hn : n < 18446744073709551616) : (cbegun c n).Ok := by
  obtain ⟨h1, h2, h3, h4, h5, h6, h7⟩ := hc
  unfold cbegun
  split
  · exact ⟨h1, h2, h3, h4, h5, h6, h7⟩
  · split
    · have hk := fcbrt_le _ (fmuldiv_lt (c.most - c.cwnd) 1000000000 480)
      exact ⟨h1, h2, h3, hn, h5, by simp only; omega, h1⟩
    · exact ⟨h1, h2, h3, hn, h1, by simp, h1⟩
theorem cbegun_same (c : Cb) (n : Nat) : (cbegun c n).cwnd = c.cwnd ∧ (cbegun c n).thresh = c.thresh ∧ (cbegun c n).since = c.since := by
  unfold cbegun
  split
  · exact ⟨rfl, rfl, rfl⟩
  · split <;> exact ⟨rfl, rfl, rfl⟩
theorem cgrown_ok {c : Cb} (b n t : Nat) (hc : c.Ok) : (cgrown c b n t).Ok := by
  obtain ⟨h1, h2, h3, h4, h5, h6, h7⟩ := hc
  have h := nheld_le (max (cest c b) (cnext c b n t))
  exact ⟨by show nheld _ < _; omega, h2, h3, h4, h5, h6, cest_lt _ _⟩
theorem cack_ok {c : Cb} {b a n t : Nat} {l : Bool} (hc : c.Ok) (hn : n < 18446744073709551616) : (cack c b a n t l).Ok := by
  unfold cack
  split
  · exact hc
  · split
    · obtain ⟨h1, h2, h3, h4, h5, h6, h7⟩ := hc
      have h := nheld_le (fadd c.cwnd b)
      exact ⟨by show nheld _ < _; omega, h2, h3, h4, h5, h6, h7⟩
    · exact cgrown_ok _ _ _ (cbegun_ok hc hn)
theorem closs_ok {c : Cb} {a n : Nat} (hc : c.Ok) : (closs c a n).Ok := by
  unfold closs
  split
  · exact hc
  · have h := nheld_le (fmuldiv c.cwnd 7 10)
    have h2 : cmost c < 18446744073709551616 := by unfold cmost; split; exact fmuldiv_lt _ _ _; exact hc.1
    exact ⟨by show nheld _ < _; omega, by show nheld _ < _; omega, fadd_lt0 _ _, by simp, h2, by simp, by simp⟩
theorem ccoll_ok {c : Cb} (hc : c.Ok) : (ccoll c).Ok := ⟨by simp [ccoll], hc.2.1, by simp [ccoll], by simp [ccoll], hc.2.2.2.2.1, by simp [ccoll], by simp [ccoll]⟩

/-! ### Within the least and the greatest -/
def CFine (c : Cb) : Prop := 2400 ≤ c.cwnd ∧ c.cwnd ≤ 16777216 ∧ 2400 ≤ c.thresh ∧ c.thresh ≤ 16777216
theorem cfine_new : CFine cnew := by refine ⟨?_, ?_, ?_, ?_⟩ <;> decide
theorem cfine_ack {c : Cb} (h : CFine c) (b a n t : Nat) (l : Bool) : CFine (cack c b a n t l) ∧ c.cwnd ≤ (cack c b a n t l).cwnd ∧ (cack c b a n t l).thresh = c.thresh ∧ (cack c b a n t l).since = c.since := by
  obtain ⟨h1, h2, h3, h4⟩ := h
  unfold cack
  split
  · exact ⟨⟨h1, h2, h3, h4⟩, Nat.le_refl _, rfl, rfl⟩
  · split
    · exact ⟨⟨nheld_ge _, nheld_le _, h3, h4⟩, nheld_up h2 (fadd_up (by omega)), rfl, rfl⟩
    · obtain ⟨e1, e2, e3⟩ := cbegun_same c n
      have hup : c.cwnd ≤ nheld (max (cest (cbegun c n) b) (cnext (cbegun c n) b n t)) := by
        refine nheld_up h2 (Nat.le_trans ?_ (Nat.le_max_right _ _))
        unfold cnext
        rw [e1]
        exact fadd_up (by omega)
      exact ⟨⟨nheld_ge _, nheld_le _, by show 2400 ≤ (cbegun c n).thresh; rw [e2]; exact h3, by show (cbegun c n).thresh ≤ 16777216; rw [e2]; exact h4⟩, hup, e2, e3⟩
theorem cfine_loss {c : Cb} (h : CFine c) (a n : Nat) : CFine (closs c a n) ∧ (closs c a n).cwnd ≤ c.cwnd := by
  obtain ⟨h1, h2, h3, h4⟩ := h
  unfold closs
  split
  · exact ⟨⟨h1, h2, h3, h4⟩, Nat.le_refl _⟩
  · refine ⟨⟨nheld_ge _, nheld_le _, nheld_ge _, nheld_le _⟩, ?_⟩
    have h5 : fmuldiv c.cwnd 7 10 ≤ c.cwnd := fmuldiv_le (by omega) (by omega)
    show nheld (fmuldiv c.cwnd 7 10) ≤ c.cwnd
    unfold nheld
    split
    · omega
    · split <;> omega
theorem cfine_coll {c : Cb} (h : CFine c) : CFine (ccoll c) := ⟨by simp [ccoll], by simp [ccoll], h.2.2.1, h.2.2.2⟩

/-! ### Behind a loss -/
theorem closs_none {c : Cb} {a n : Nat} (h : a < c.since) : closs c a n = c := by unfold closs; rw [if_pos h]
theorem closs_some {c : Cb} {a n : Nat} (h : ¬ a < c.since) : closs c a n = ⟨cless c, cless c, fadd n 1, false, 0, cmost c, 0, 0⟩ := by unfold closs; rw [if_neg h]
theorem cadd_one {n : Nat} (hn : n < 4294967296) : fadd n 1 = n + 1 := by unfold fadd; rw [if_pos (by omega)]
theorem closs_again {c : Cb} {a n e m : Nat} (h : ¬ a < c.since) (hn : n < 4294967296) (he : e ≤ n) : closs (closs c a n) e m = closs c a n := by
  refine closs_none ?_
  rw [closs_some h, cadd_one hn]
  show e < n + 1
  omega
theorem cack_old {c : Cb} {b a n t : Nat} {l : Bool} (h : a < c.since) : cack c b a n t l = c := by unfold cack; rw [if_pos (.inl h)]
theorem cack_limited {c : Cb} {b a n t : Nat} : cack c b a n t true = c := by unfold cack; rw [if_pos (.inr rfl)]
theorem cack_behind {c : Cb} {a n e b m t : Nat} {l : Bool} (h : ¬ a < c.since) (hn : n < 4294967296) (he : e ≤ n) : cack (closs c a n) b e m t l = closs c a n := by
  refine cack_old ?_
  rw [closs_some h, cadd_one hn]
  show e < n + 1
  omega
theorem closs_most {c : Cb} {a n m : Nat} (hc : c.Ok) (h : ¬ a < c.since) (hn : n < 4294967296) : (closs (closs c a n) (n + 1) m).most ≤ (closs c a n).most ∨ (closs c a n).most ≤ (closs c a n).cwnd := by
  have hok := closs_ok (a := a) (n := n) hc
  have hs : (closs c a n).since = n + 1 := by rw [closs_some h]; exact cadd_one hn
  generalize closs c a n = l at hok hs ⊢
  rw [closs_some (by omega)]
  show cmost l ≤ l.most ∨ _
  unfold cmost
  by_cases h1 : l.cwnd < l.most
  · rw [if_pos h1]
    have : fmuldiv l.cwnd 17 20 ≤ l.cwnd := fmuldiv_le (by omega) hok.1
    exact .inl (by omega)
  · exact .inr (by omega)
end Wig
