/-
  Packets' numbers, cut and made whole: what layer 4 says, over plain numbers. No condition.
-/
namespace Wig
/-- The size that is taken: another one than 1 to 4 is taken for 4. -/
def pk (i : Int) : Nat := if i = 1 then 1 else if i = 2 then 2 else if i = 3 then 3 else 4
/-- The window of a size. -/
def pwin (k : Nat) : Nat := if k = 1 then 256 else if k = 2 then 65536 else if k = 3 then 16777216 else 4294967296
def psize (a b : Nat) : Nat := if a < b then 4 else if a - b < 128 then 1 else if a - b < 32768 then 2 else if a - b < 8388608 then 3 else 4
def pcap (n : Nat) : Nat := if n ≤ 4611686018427387903 then n else 4611686018427387903
/-- The number that a part stands for, the next one being n, which is no more than the greatest. -/
def pwhole (p w n : Nat) : Nat :=
  if n - n % w + p % w + w / 2 ≤ n ∧ n - n % w + p % w + w ≤ 4611686018427387903 then n - n % w + p % w + w
  else if n + w / 2 < n - n % w + p % w ∧ w ≤ n - n % w + p % w then n - n % w + p % w - w
  else n - n % w + p % w

theorem pk_cases (i : Int) : (i = 1 ∧ pk i = 1) ∨ (i = 2 ∧ pk i = 2) ∨ (i = 3 ∧ pk i = 3) ∨ ((i < 1 ∨ 3 < i) ∧ pk i = 4) := by
  unfold pk; repeat' split
  all_goals omega
theorem pwin_cases (k : Nat) : (k = 1 ∧ pwin k = 256) ∨ (k = 2 ∧ pwin k = 65536) ∨ (k = 3 ∧ pwin k = 16777216) ∨ ((k < 1 ∨ 3 < k) ∧ pwin k = 4294967296) := by
  unfold pwin; repeat' split
  all_goals omega
theorem pwin_four (k : Nat) : pwin k = 256 ∨ pwin k = 65536 ∨ pwin k = 16777216 ∨ pwin k = 4294967296 := by
  rcases pwin_cases k with h | h | h | h <;> omega
theorem psize_range (a b : Nat) : 1 ≤ psize a b ∧ psize a b ≤ 4 := by
  unfold psize; repeat' split
  all_goals omega
theorem pcap_le (n : Nat) : pcap n ≤ 4611686018427387903 := by unfold pcap; split <;> omega
theorem pcap_of {n : Nat} (h : n ≤ 4611686018427387903) : pcap n = n := if_pos h

/-- The least size: k sizes have been asked, and none of them holds. -/
theorem psize_hit {a b k : Nat} (hab : b ≤ a) (hk : k < 4) (h : ∀ j, j < k → ¬ a - b < pwin (j + 1) / 2) (hd : a - b < pwin (k + 1) / 2) : psize a b = k + 1 := by
  have h0 := h 0
  have h1 := h 1
  have h2 := h 2
  have c : k = 0 ∨ k = 1 ∨ k = 2 ∨ k = 3 := by omega
  unfold psize
  rcases c with rfl | rfl | rfl | rfl <;> simp [pwin] at h0 h1 h2 hd <;> repeat' split
  all_goals omega
theorem psize_none {a b : Nat} (hab : b ≤ a) (h : ∀ j, j < 4 → ¬ a - b < pwin (j + 1) / 2) : psize a b = 4 := by
  have h0 := h 0 (by omega)
  have h1 := h 1 (by omega)
  have h2 := h 2 (by omega)
  unfold psize
  simp [pwin] at h0 h1 h2
  repeat' split
  all_goals omega
theorem psize_least {a b k : Nat} (hab : b ≤ a) (hk : 1 ≤ k) (hk4 : k < 4) (h : k ≤ psize a b) : (2 * (a - b) + 1 ≤ pwin k ↔ psize a b = k) := by
  revert h
  have c : k = 1 ∨ k = 2 ∨ k = 3 := by omega
  unfold psize
  rcases c with rfl | rfl | rfl <;> simp [pwin] <;> repeat' split
  all_goals omega

theorem pwhole_le {p w n : Nat} (hw : w = 256 ∨ w = 65536 ∨ w = 16777216 ∨ w = 4294967296) (hn : n ≤ 4611686018427387903) : pwhole p w n < 9223372036854775808 := by
  unfold pwhole
  rcases hw with rfl | rfl | rfl | rfl <;> repeat' split
  all_goals omega
/-- What is cut is the whole again. -/
theorem pback {m far n : Nat} (hm : m ≤ 4611686018427387903) (hf : far ≤ 2147483648) (hfm : far ≤ m) (h1 : m - far ≤ n) (h2 : n ≤ m + 1) (hn : n ≤ 4611686018427387903) :
    pwhole (m % pwin (psize m (m - far))) (pwin (psize m (m - far))) n = m := by
  have hw : (pwin (psize m (m - far)) = 256 ∧ far < 128) ∨ (pwin (psize m (m - far)) = 65536 ∧ far < 32768) ∨ (pwin (psize m (m - far)) = 16777216 ∧ far < 8388608) ∨ pwin (psize m (m - far)) = 4294967296 := by
    unfold psize; repeat' split
    all_goals simp [pwin]
    all_goals omega
  obtain ⟨w, e⟩ : ∃ w, w = pwin (psize m (m - far)) := ⟨_, rfl⟩
  rw [← e] at hw ⊢
  clear e
  unfold pwhole
  rcases hw with ⟨rfl, h⟩ | ⟨rfl, h⟩ | ⟨rfl, h⟩ | rfl <;> repeat' split
  all_goals omega
/-- A number that is the one awaited is the whole of its part. -/
theorem pnext {m w : Nat} (hw : w = 256 ∨ w = 65536 ∨ w = 16777216 ∨ w = 4294967296) : pwhole (m % w) w m = m := by
  unfold pwhole
  rcases hw with rfl | rfl | rfl | rfl <;> repeat' split
  all_goals omega
/-- The whole's part is the part. -/
theorem ppart {p w n : Nat} (hw : w = 256 ∨ w = 65536 ∨ w = 16777216 ∨ w = 4294967296) : pwhole p w n % w = p % w := by
  unfold pwhole
  rcases hw with rfl | rfl | rfl | rfl <;> repeat' split
  all_goals omega
/-- The whole is near the next one, but at the ends. -/
theorem pnear {p w n : Nat} (hw : w = 256 ∨ w = 65536 ∨ w = 16777216 ∨ w = 4294967296) (hn : n ≤ 4611686018427387903) :
    (n ≤ pwhole p w n ∧ pwhole p w n - n ≤ w / 2) ∨ (pwhole p w n < n ∧ n - pwhole p w n < w / 2) ∨ n < w ∨ 4611686018427387903 - 2 * w < n := by
  unfold pwhole
  rcases hw with rfl | rfl | rfl | rfl <;> repeat' split
  all_goals omega
end Wig
