/-
  Check sums of 32 bits over lists of bytes: one bit's step, one byte's, a list's; they are linear, and none of them forgets anything. And datagrams as lists. Plain numbers and lists, no program. No condition.
-/
import Derived.Test.YtmodafmnokiceaaVarM
import Derived.Test.YtmodafmnokiceaaPnmM
namespace Wig

/-- One bit of the word goes out. -/
def cstep (w : Nat) : Nat := if w % 2 = 1 then (w / 2) ^^^ 2197175160 else w / 2
/-- So many bits. -/
def csteps : Nat → Nat → Nat
  | 0, w => w
  | n + 1, w => cstep (csteps n w)
/-- One byte goes in. -/
def cbyte (w c : Nat) : Nat := csteps 8 (w ^^^ c)
/-- Many bytes. -/
def creg (w : Nat) (xs : List Nat) : Nat := xs.foldl cbyte w
/-- Bytes' check sum. -/
def csum (xs : List Nat) : Nat := 4294967295 - creg 4294967295 xs

theorem xor_small {a b : Nat} (ha : a < 4294967296) (hb : b < 4294967296) : a ^^^ b < 4294967296 := by
  have := Nat.xor_lt_two_pow (n := 32) (x := a) (y := b) (by omega) (by omega)
  omega
theorem xor_half (a b : Nat) : (a ^^^ b) / 2 = a / 2 ^^^ b / 2 := by
  apply Nat.eq_of_testBit_eq
  intro i
  rw [Nat.testBit_xor, ← Nat.testBit_succ, ← Nat.testBit_succ, ← Nat.testBit_succ, Nat.testBit_xor]
theorem xor_low (a b : Nat) : (a ^^^ b) % 2 = (a + b) % 2 := by
  have h := Nat.testBit_xor a b 0
  rw [Nat.testBit_zero, Nat.testBit_zero, Nat.testBit_zero] at h
  have h1 : a % 2 = 0 ∨ a % 2 = 1 := by omega
  have h2 : b % 2 = 0 ∨ b % 2 = 1 := by omega
  have h3 : (a ^^^ b) % 2 = 0 ∨ (a ^^^ b) % 2 = 1 := by omega
  rcases h1 with h1 | h1 <;> rcases h2 with h2 | h2 <;> rcases h3 with h3 | h3 <;> simp [h1, h2, h3] at h <;> omega
theorem cstep_lt {w : Nat} (h : w < 4294967296) : cstep w < 4294967296 := by
  unfold cstep
  split
  · exact xor_small (by omega) (by omega)
  · omega
theorem xor4 (a b c : Nat) : (a ^^^ c) ^^^ (b ^^^ c) = a ^^^ b := by
  rw [Nat.xor_assoc, Nat.xor_comm b c, ← Nat.xor_assoc c c b, Nat.xor_self, Nat.zero_xor]
theorem cstep_xor (a b : Nat) : cstep (a ^^^ b) = cstep a ^^^ cstep b := by
  have h1 : a % 2 = 0 ∨ a % 2 = 1 := by omega
  have h2 : b % 2 = 0 ∨ b % 2 = 1 := by omega
  have hl := xor_low a b
  have hh := xor_half a b
  unfold cstep
  rcases h1 with h1 | h1 <;> rcases h2 with h2 | h2
  · rw [if_neg (by omega), if_neg (by omega), if_neg (by omega), hh]
  · rw [if_pos (by omega), if_neg (by omega), if_pos (by omega), hh, Nat.xor_assoc]
  · rw [if_pos (by omega), if_pos (by omega), if_neg (by omega), hh, Nat.xor_assoc, Nat.xor_assoc, Nat.xor_comm (b / 2)]
  · rw [if_neg (by omega), if_pos (by omega), if_pos (by omega), hh, xor4]
theorem xor_eq_zero {a b : Nat} (h : a ^^^ b = 0) : a = b := by
  have := congrArg (· ^^^ b) h
  simp only [Nat.xor_assoc, Nat.xor_self, Nat.xor_zero, Nat.zero_xor] at this
  exact this
theorem cstep_zero {w : Nat} (h : w < 4294967296) (h0 : cstep w = 0) : w = 0 := by
  unfold cstep at h0
  split at h0
  · have := xor_eq_zero h0; omega
  · omega
theorem csteps_lt : ∀ (n : Nat) {w : Nat}, w < 4294967296 → csteps n w < 4294967296
  | 0, _, h => h
  | n + 1, _, h => cstep_lt (csteps_lt n h)
theorem csteps_xor : ∀ (n a b : Nat), csteps n (a ^^^ b) = csteps n a ^^^ csteps n b
  | 0, _, _ => rfl
  | n + 1, a, b => by rw [csteps, csteps_xor n, cstep_xor]; rfl
theorem csteps_zero : ∀ (n : Nat) {w : Nat}, w < 4294967296 → csteps n w = 0 → w = 0
  | 0, _, _, h0 => h0
  | n + 1, _, h, h0 => csteps_zero n h (cstep_zero (csteps_lt n h) h0)
theorem csteps_inj (n : Nat) {a b : Nat} (ha : a < 4294967296) (hb : b < 4294967296) (h : csteps n a = csteps n b) : a = b := by
  refine xor_eq_zero (csteps_zero n (xor_small ha hb) ?_)
  rw [csteps_xor, h, Nat.xor_self]
theorem cbyte_eq (w c : Nat) : cbyte w c = csteps 8 (w ^^^ c) := rfl
theorem creg_cons (w c : Nat) (cs : List Nat) : creg w (c :: cs) = creg (cbyte w c) cs := List.foldl_cons ..
theorem creg_nil (w : Nat) : creg w [] = w := List.foldl_nil ..
theorem cbyte_inj {u v c d : Nat} (hu : u < 4294967296) (hv : v < 4294967296) (hc : c < 256) (hd : d < 256) (h : cbyte u c = cbyte v d) : u ^^^ c = v ^^^ d := by
  rw [cbyte_eq, cbyte_eq] at h
  exact csteps_inj 8 (xor_small hu (by omega)) (xor_small hv (by omega)) h
theorem cbyte_lt {w c : Nat} (h : w < 4294967296) (hc : c < 256) : cbyte w c < 4294967296 := by
  rw [cbyte_eq]
  exact csteps_lt 8 (xor_small h (by omega))
theorem creg_lt : ∀ (xs : List Nat) {w : Nat}, w < 4294967296 → Bytes xs → creg w xs < 4294967296
  | [], _, h, _ => by rw [creg_nil]; exact h
  | c :: cs, _, h, hx => by rw [creg_cons]; exact creg_lt cs (cbyte_lt h (hx c (by simp))) (fun x hm => hx x (by simp [hm]))
theorem creg_app (xs ys : List Nat) (w : Nat) : creg w (xs ++ ys) = creg (creg w xs) ys := List.foldl_append ..
theorem creg_snoc (xs : List Nat) (c w : Nat) : creg w (xs ++ [c]) = cbyte (creg w xs) c := by rw [creg_app, creg_cons, creg_nil]
theorem creg_inj : ∀ (xs : List Nat) {u v : Nat}, u < 4294967296 → v < 4294967296 → Bytes xs → creg u xs = creg v xs → u = v
  | [], _, _, _, _, _, h => by rw [creg_nil, creg_nil] at h; exact h
  | c :: cs, u, v, hu, hv, hx, h => by
    have hc : c < 256 := hx c (by simp)
    rw [creg_cons, creg_cons] at h
    have h1 := creg_inj cs (cbyte_lt hu hc) (cbyte_lt hv hc) (fun x hm => hx x (by simp [hm])) h
    have h2 := cbyte_inj hu hv hc hc h1
    have h3 := congrArg (· ^^^ c) h2
    simp only [Nat.xor_assoc, Nat.xor_self, Nat.xor_zero] at h3
    exact h3
theorem creg_bytes_inj {u c d : Nat} {xs : List Nat} (hu : u < 4294967296) (hc : c < 256) (hd : d < 256) (hx : Bytes xs) (h : creg u (c :: xs) = creg u (d :: xs)) : c = d := by
  rw [creg_cons, creg_cons] at h
  have h1 := creg_inj xs (cbyte_lt hu hc) (cbyte_lt hu hd) hx h
  have h2 := cbyte_inj hu hu hc hd h1
  have h3 := congrArg (u ^^^ ·) h2
  simp only [← Nat.xor_assoc, Nat.xor_self, Nat.zero_xor] at h3
  exact h3
/-- The difference of lists. -/
def xors : List Nat → List Nat → List Nat
  | x :: xs, y :: ys => (x ^^^ y) :: xors xs ys
  | _, _ => []
theorem xor_mix (u v c d : Nat) : (u ^^^ v) ^^^ (c ^^^ d) = (u ^^^ c) ^^^ (v ^^^ d) := by
  rw [Nat.xor_assoc, ← Nat.xor_assoc v, Nat.xor_comm v c, Nat.xor_assoc c, ← Nat.xor_assoc]
theorem creg_xor : ∀ (xs ys : List Nat) (u v : Nat), xs.length = ys.length → creg (u ^^^ v) (xors xs ys) = creg u xs ^^^ creg v ys
  | [], [], _, _, _ => by rw [xors, creg_nil, creg_nil, creg_nil]; simp
  | x :: xs, y :: ys, u, v, h => by
    rw [xors, creg_cons, creg_cons, creg_cons, ← creg_xor xs ys _ _ (by simpa using h), cbyte_eq, cbyte_eq, cbyte_eq, xor_mix, csteps_xor]
  | [], y :: ys, _, _, h => by cases h
  | x :: xs, [], _, _, h => by cases h
theorem xors_length : ∀ (xs ys : List Nat), xs.length = ys.length → (xors xs ys).length = xs.length
  | [], [], _ => rfl
  | x :: xs, y :: ys, h => by rw [xors, List.length_cons, List.length_cons, xors_length xs ys (by simpa using h)]
  | [], y :: ys, h => by cases h
  | x :: xs, [], h => by cases h
theorem xors_at : ∀ (xs ys : List Nat) (j x y : Nat), xs[j]? = some x → ys[j]? = some y → (xors xs ys)[j]? = some (x ^^^ y)
  | [], _, j, _, _, h, _ => by simp at h
  | _ :: _, [], j, _, _, _, h => by simp at h
  | a :: xs, b :: ys, 0, x, y, h, k => by simp at h k; subst h k; rfl
  | a :: xs, b :: ys, j + 1, x, y, h, k => by
    rw [xors, List.getElem?_cons_succ]
    exact xors_at xs ys j x y (by simpa using h) (by simpa using k)
theorem xor_byte {a b : Nat} (ha : a < 256) (hb : b < 256) : a ^^^ b < 256 := by
  have := Nat.xor_lt_two_pow (n := 8) (x := a) (y := b) (by omega) (by omega)
  omega
theorem xors_bytes : ∀ {xs ys : List Nat}, Bytes xs → Bytes ys → Bytes (xors xs ys)
  | [], _, _, _ => by intro x hx; simp [xors] at hx
  | _ :: _, [], _, _ => by intro x hx; simp [xors] at hx
  | a :: xs, b :: ys, hx, hy => by
    intro x h
    rw [xors] at h
    rcases List.mem_cons.1 h with h | h
    · rw [h]; exact xor_byte (hx a (by simp)) (hy b (by simp))
    · exact xors_bytes (fun z hz => hx z (by simp [hz])) (fun z hz => hy z (by simp [hz])) x h
/-- Each bit inverted. -/
theorem xor_all {w : Nat} (h : w < 4294967296) : w ^^^ 4294967295 = 4294967295 - w := by
  apply Nat.eq_of_testBit_eq
  intro i
  rw [show 4294967295 - w = 2 ^ 32 - (w + 1) by omega, Nat.testBit_two_pow_sub_succ (by omega), Nat.testBit_xor, show (4294967295 : Nat) = 2 ^ 32 - 1 by decide, Nat.testBit_two_pow_sub_one]
  by_cases hi : i < 32
  · simp [hi]
  · have : w.testBit i = false := Nat.testBit_lt_two_pow (Nat.lt_of_lt_of_le h (by
      have : 2 ^ 32 ≤ 2 ^ i := Nat.pow_le_pow_right (by omega) (by omega)
      simpa using this))
    simp [hi, this]
theorem csum_lt (xs : List Nat) : csum xs < 4294967296 := by unfold csum; omega
theorem csum_xor {xs : List Nat} (h : Bytes xs) : csum xs = creg 4294967295 xs ^^^ 4294967295 := (xor_all (creg_lt xs (by omega) h)).symm
theorem csum_inj {xs ys : List Nat} (hx : Bytes xs) (hy : Bytes ys) : csum xs = csum ys ↔ creg 4294967295 xs = creg 4294967295 ys := by
  have a := creg_lt xs (w := 4294967295) (by omega) hx
  have b := creg_lt ys (w := 4294967295) (by omega) hy
  unfold csum
  omega
/-- Of three lists. -/
theorem csum_three {a b c : List Nat} (ha : Bytes a) (hb : Bytes b) (hc : Bytes c) (h1 : a.length = b.length) (h2 : a.length = c.length) : csum (xors (xors a b) c) = (csum a ^^^ csum b) ^^^ csum c := by
  rw [csum_xor (xors_bytes (xors_bytes ha hb) hc), csum_xor ha, csum_xor hb, csum_xor hc]
  have e := creg_xor (xors a b) c (4294967295 ^^^ 4294967295) 4294967295 (by rw [xors_length a b h1, h2])
  rw [creg_xor a b _ _ h1, Nat.xor_self, Nat.zero_xor] at e
  rw [e, xor4, Nat.xor_assoc]
/-- One byte is another one. -/
theorem csum_set {xs : List Nat} (h : Bytes xs) {i x y : Nat} (hx : xs[i]? = some x) (hy : y < 256) : csum (xs.set i y) = csum xs ↔ y = x := by
  have hi : i < xs.length := by rcases Nat.lt_or_ge i xs.length with h | h; exact h; rw [List.getElem?_eq_none h] at hx; cases hx
  have ex : xs[i] = x := by rw [List.getElem?_eq_getElem hi] at hx; simpa using hx
  have e1 : xs = xs.take i ++ x :: xs.drop (i + 1) := by rw [← ex, List.getElem_cons_drop, List.take_append_drop]
  have e2 : xs.set i y = xs.take i ++ y :: xs.drop (i + 1) := List.set_eq_take_append_cons_drop.trans (if_pos hi)
  have bt : Bytes (xs.take i) := fun z hz => h z (List.mem_of_mem_take hz)
  have bd : Bytes (xs.drop (i + 1)) := fun z hz => h z (List.mem_of_mem_drop hz)
  have xl : x < 256 := h x (by rw [← ex]; exact List.getElem_mem hi)
  constructor
  · intro he
    have hb : Bytes (xs.set i y) := fun z hz => by
      rcases List.mem_or_eq_of_mem_set hz with hz | rfl
      · exact h z hz
      · exact hy
    rw [csum_inj hb h, e2] at he
    conv at he => rhs; rw [e1]
    rw [creg_app, creg_app] at he
    exact creg_bytes_inj (creg_lt _ (by omega) bt) hy xl bd he
  · intro he
    have : xs.set i y = xs := by rw [e2, he]; exact e1.symm
    rw [this]
theorem csum_more {a b : List Nat} (ha : Bytes a) (hb : Bytes b) {m : List Nat} (hm : Bytes m) : csum (a ++ m) = csum (b ++ m) ↔ csum a = csum b := by
  have h1 : Bytes (a ++ m) := fun x hx => by rcases List.mem_append.1 hx with h | h; exact ha x h; exact hm x h
  have h2 : Bytes (b ++ m) := fun x hx => by rcases List.mem_append.1 hx with h | h; exact hb x h; exact hm x h
  rw [csum_inj h1 h2, csum_inj ha hb, creg_app, creg_app]
  exact ⟨creg_inj m (creg_lt a (by omega) ha) (creg_lt b (by omega) hb) hm, fun h => by rw [h]⟩

/-- A number's bytes, the lowest first. -/
def le : Nat → Nat → List Nat
  | 0, _ => []
  | n + 1, v => v % 256 :: le n (v / 256)
theorem le_length : ∀ (n v : Nat), (le n v).length = n
  | 0, _ => rfl
  | n + 1, v => by rw [le, List.length_cons, le_length n]
theorem le_bytes : ∀ (n v : Nat), Bytes (le n v)
  | 0, _ => by intro x hx; simp [le] at hx
  | n + 1, v => by
    intro x hx
    rw [le] at hx
    rcases List.mem_cons.1 hx with h | h
    · omega
    · exact le_bytes n _ x h
theorem le_inj : ∀ (n : Nat) {u v : Nat}, u < 256 ^ n → v < 256 ^ n → le n u = le n v → u = v
  | 0, u, v, hu, hv, _ => by simp at hu hv; omega
  | n + 1, u, v, hu, hv, h => by
    rw [le, le] at h
    injection h with h1 h2
    rw [Nat.pow_succ] at hu hv
    have := le_inj n (u := u / 256) (v := v / 256) (by omega) (by omega) h2
    omega
theorem le_snoc : ∀ (n v : Nat), le (n + 1) v = le n v ++ [v / 256 ^ n % 256]
  | 0, v => by simp [le]
  | n + 1, v => by
    rw [le, le_snoc n]
    show _ = v % 256 :: le n (v / 256) ++ _
    rw [Nat.div_div_eq_div_mul, Nat.pow_succ, Nat.mul_comm 256]
    rfl
/-- Bytes, and their sum. -/
def sealed (xs : List Nat) : List Nat := xs ++ le 4 (csum xs)
theorem sealed_length (xs : List Nat) : (sealed xs).length = xs.length + 4 := by simp [sealed, le_length]
theorem sealed_bytes {xs : List Nat} (h : Bytes xs) : Bytes (sealed xs) := fun x hx => by
  rcases List.mem_append.1 hx with h' | h'
  · exact h x h'
  · exact le_bytes _ _ x h'
end Wig
