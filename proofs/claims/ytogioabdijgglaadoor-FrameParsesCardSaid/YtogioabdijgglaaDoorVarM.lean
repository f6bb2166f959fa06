/-
  Numbers as bytes, the highest first, and the document's sizes of them: what layer 3 says, over plain numbers and lists. No condition.
-/
import GoSem.Op.String
namespace Wig
/-- The n lowest bytes of v, the highest first. -/
def be : Nat → Nat → List Nat
  | 0, _ => []
  | n + 1, v => (v / 256 ^ n % 256) :: be n v
/-- What bytes are as a number, the highest first. -/
def val : List Nat → Nat
  | [] => 0
  | x :: r => x * 256 ^ r.length + val r
def Bytes (xs : List Nat) : Prop := ∀ x ∈ xs, x < 256

theorem be_length : ∀ (n v : Nat), (be n v).length = n
  | 0, _ => rfl
  | n + 1, v => by simp [be, be_length n v]
theorem be_bytes : ∀ (n v : Nat), Bytes (be n v)
  | 0, _, x, h => by simp [be] at h
  | n + 1, v, x, h => by
    rcases List.mem_cons.1 h with rfl | h
    · exact Nat.mod_lt _ (by decide)
    · exact be_bytes n v x h
theorem be_val : ∀ (n v : Nat), val (be n v) = v % 256 ^ n
  | 0, v => by simp [be, val, Nat.mod_one]
  | n + 1, v => by
    rw [be, val, be_length, be_val n v, Nat.mod_pow_succ, Nat.mul_comm (256 ^ n)]
    exact Nat.add_comm _ _
theorem val_append : ∀ (xs ys : List Nat), val (xs ++ ys) = val xs * 256 ^ ys.length + val ys
  | [], ys => by simp [val]
  | x :: xs, ys => by
    rw [List.cons_append, val, val, val_append xs ys, List.length_append, Nat.pow_add, Nat.add_mul, Nat.mul_assoc, Nat.add_assoc]
theorem val_one (x : Nat) : val [x] = x := by simp [val]
theorem val_snoc (xs : List Nat) (x : Nat) : val (xs ++ [x]) = val xs * 256 + x := by rw [val_append, val_one]; rfl
theorem val_lt : ∀ (xs : List Nat), Bytes xs → val xs < 256 ^ xs.length
  | [], _ => by simp [val]
  | x :: xs, h => by
    have h1 : x < 256 := h x (List.mem_cons_self ..)
    have h2 := val_lt xs fun y hy => h y (List.mem_cons_of_mem _ hy)
    rw [val, List.length_cons, Nat.pow_succ]
    have h3 : x * 256 ^ xs.length ≤ 255 * 256 ^ xs.length := Nat.mul_le_mul_right _ (by omega)
    omega
theorem be_at : ∀ (n v j : Nat), j < n → (be n v)[j]? = some (v / 256 ^ (n - 1 - j) % 256)
  | 0, _, j, h => absurd h (Nat.not_lt_zero _)
  | n + 1, v, 0, _ => by simp [be]
  | n + 1, v, j + 1, h => by
    rw [be, List.getElem?_cons_succ, be_at n v j (by omega)]
    congr 4
    omega

/-- Which of the four sizes a number takes; four: none. -/
def vplace (v : Nat) : Nat := if v < 64 then 0 else if v < 16384 then 1 else if v < 1073741824 then 2 else if v < 4611686018427387904 then 3 else 4
def vsz : Nat → Nat
  | 0 => 1
  | 1 => 2
  | 2 => 4
  | 3 => 8
  | _ => 0
/-- The greatest number of a size. -/
def vmost : Nat → Nat
  | 0 => 63
  | 1 => 16383
  | 2 => 1073741823
  | _ => 4611686018427387903
def vsize (v : Nat) : Nat := vsz (vplace v)
def verr (v : Nat) : Nat := if vplace v = 4 then 31 else 0
/-- A number's bytes. -/
def venc (v : Nat) : List Nat := match be (vsize v) v with
  | [] => []
  | x :: r => (x + vplace v * 64) :: r
/-- How many bytes those ahead ask for. -/
def vneed (xs : List Nat) : Nat := match xs with
  | [] => 1
  | x :: _ => vsz (x / 64)
def vshort (xs : List Nat) : Bool := decide (xs.length < vneed xs)
def vnum (xs : List Nat) : Nat := if vshort xs then 0 else val (xs.take (vneed xs)) % (64 * 256 ^ (vneed xs - 1))
def vlen (xs : List Nat) : Nat := if vshort xs then 0 else vneed xs
def vgot (xs : List Nat) : Nat := if vshort xs then 30 else 0

theorem vplace_le (v : Nat) : vplace v ≤ 4 := by unfold vplace; split <;> (try split) <;> (try split) <;> (try split) <;> omega
theorem vplace_cases (v : Nat) : (vplace v = 0 ∧ v < 64) ∨ (vplace v = 1 ∧ 64 ≤ v ∧ v < 16384) ∨ (vplace v = 2 ∧ 16384 ≤ v ∧ v < 1073741824) ∨
    (vplace v = 3 ∧ 1073741824 ≤ v ∧ v < 4611686018427387904) ∨ (vplace v = 4 ∧ 4611686018427387904 ≤ v) := by
  unfold vplace
  split <;> (try split) <;> (try split) <;> (try split) <;> omega
/-- A number that fits: its size's n and one, and the number below the two highest bits. -/
theorem vfits {v : Nat} (h : v < 4611686018427387904) : ∃ n, vsize v = n + 1 ∧ vplace v < 4 ∧ v < 64 * 256 ^ n ∧ vsz (vplace v) = n + 1 ∧ n ≤ 7 := by
  unfold vsize
  rcases vplace_cases v with ⟨e, b⟩ | ⟨e, _, b⟩ | ⟨e, _, b⟩ | ⟨e, _, b⟩ | ⟨e, b⟩
  · exact ⟨0, by rw [e]; rfl, by omega, by omega, by rw [e]; rfl, by omega⟩
  · exact ⟨1, by rw [e]; rfl, by omega, by omega, by rw [e]; rfl, by omega⟩
  · exact ⟨3, by rw [e]; rfl, by omega, by omega, by rw [e]; rfl, by omega⟩
  · exact ⟨7, by rw [e]; rfl, by omega, by omega, by rw [e]; rfl, by omega⟩
  · omega
theorem venc_cons {v n : Nat} (h : vsize v = n + 1) : venc v = (v / 256 ^ n % 256 + vplace v * 64) :: be n v := by
  unfold venc
  rw [h]
  rfl
theorem venc_length (v : Nat) : (venc v).length = vsize v := by
  unfold venc
  have h := be_length (vsize v) v
  split
  · rename_i e; rw [e] at h; exact h
  · rename_i e; rw [e] at h; simpa using h
theorem venc_great {v : Nat} (h : 4611686018427387904 ≤ v) : venc v = [] := by
  have e : vplace v = 4 := by have := vplace_cases v; omega
  unfold venc vsize
  rw [e]
  rfl
theorem div_small {v n : Nat} (h : v < 64 * 256 ^ n) : v / 256 ^ n < 64 := Nat.div_lt_of_lt_mul (by rw [Nat.mul_comm]; exact h)
theorem venc_bytes (v : Nat) : Bytes (venc v) := by
  by_cases h : v < 4611686018427387904
  · obtain ⟨n, h1, h2, h3, _⟩ := vfits h
    rw [venc_cons h1]
    intro x hx
    rcases List.mem_cons.1 hx with rfl | hx
    · have := div_small h3
      rw [Nat.mod_eq_of_lt (by omega)]
      omega
    · exact be_bytes n v x hx
  · rw [venc_great (by omega)]
    intro x hx
    simp at hx
theorem verr_fits {v : Nat} (h : v < 4611686018427387904) : verr v = 0 := by
  obtain ⟨n, _, h2, _⟩ := vfits h
  unfold verr
  rw [if_neg (by omega)]
theorem verr_great {v : Nat} (h : 4611686018427387904 ≤ v) : verr v = 31 := by
  have e : vplace v = 4 := by have := vplace_cases v; omega
  unfold verr
  rw [if_pos e]
theorem vsize_great {v : Nat} (h : 4611686018427387904 ≤ v) : vsize v = 0 := by
  have e : vplace v = 4 := by have := vplace_cases v; omega
  unfold vsize
  rw [e]
  rfl
theorem val_venc {v n : Nat} (h : vsize v = n + 1) (hv : v < 64 * 256 ^ n) : val (venc v) = v + vplace v * (64 * 256 ^ n) := by
  rw [venc_cons h, val, be_length, be_val, Nat.mod_eq_of_lt (show v / 256 ^ n < 256 by have := div_small hv; omega), Nat.add_mul, Nat.mul_assoc]
  have := Nat.div_add_mod' v (256 ^ n)
  omega

/-- What is put is got, whatever stands behind it. -/
theorem vback {v : Nat} (h : v < 4611686018427387904) (more : List Nat) : vshort (venc v ++ more) = false ∧ vnum (venc v ++ more) = v ∧ vlen (venc v ++ more) = vsize v ∧ vneed (venc v ++ more) = vsize v := by
  obtain ⟨n, h1, h2, h3, h4, _⟩ := vfits h
  have hn : vneed (venc v ++ more) = n + 1 := by
    rw [venc_cons h1, List.cons_append]
    show vsz ((v / 256 ^ n % 256 + vplace v * 64) / 64) = n + 1
    have := div_small h3
    generalize v / 256 ^ n = q at *
    rw [Nat.mod_eq_of_lt (by omega), show (q + vplace v * 64) / 64 = vplace v by omega]
    exact h4
  have hl := venc_length v
  have hs : vshort (venc v ++ more) = false := by
    unfold vshort
    rw [hn, List.length_append, hl, h1]
    exact decide_eq_false (by omega)
  refine ⟨hs, ?_, ?_, by rw [hn, h1]⟩
  · unfold vnum
    rw [hs, hn, List.take_append_of_le_length (by omega), List.take_of_length_le (by omega), val_venc h1 h3]
    simp only [Bool.false_eq_true, if_false, Nat.add_sub_cancel]
    rw [Nat.add_mul_mod_self_right, Nat.mod_eq_of_lt h3]
  · unfold vlen
    rw [hs, hn, h1]
    rfl

theorem vsz_cases (x : Nat) (h : x < 256) : (x / 64 = 0 ∧ vsz (x / 64) = 1) ∨ (x / 64 = 1 ∧ vsz (x / 64) = 2) ∨ (x / 64 = 2 ∧ vsz (x / 64) = 4) ∨ (x / 64 = 3 ∧ vsz (x / 64) = 8) := by
  have : x / 64 = 0 ∨ x / 64 = 1 ∨ x / 64 = 2 ∨ x / 64 = 3 := by omega
  rcases this with e | e | e | e <;> rw [e] <;> simp [vsz]
theorem vneed_cases {xs : List Nat} (h : Bytes xs) : vneed xs = 1 ∨ vneed xs = 2 ∨ vneed xs = 4 ∨ vneed xs = 8 := by
  cases xs with
  | nil => exact .inl rfl
  | cons x r => have := vsz_cases x (h x (List.mem_cons_self ..)); show vsz (x / 64) = 1 ∨ vsz (x / 64) = 2 ∨ vsz (x / 64) = 4 ∨ vsz (x / 64) = 8; omega
theorem vneed_take (xs : List Nat) {k : Nat} (hk : 0 < k) : vneed (xs.take k) = vneed xs := by
  cases xs with
  | nil => simp
  | cons x r => cases k with
    | zero => omega
    | succ k => rfl
theorem vnum_lt (xs : List Nat) : vnum xs < 64 * 256 ^ (vneed xs - 1) := by
  unfold vnum
  split
  · exact Nat.mul_pos (by decide) (Nat.pow_pos (by decide))
  · exact Nat.mod_lt _ (Nat.mul_pos (by decide) (Nat.pow_pos (by decide)))
theorem vnum_small {xs : List Nat} (h : Bytes xs) : vnum xs < 4611686018427387904 ∧ vsize (vnum xs) ≤ vneed xs := by
  have h1 := vnum_lt xs
  unfold vsize
  rcases vneed_cases h with e | e | e | e <;> rw [e] at h1 ⊢ <;> simp only [Nat.sub_self, Nat.pow_zero, Nat.mul_one, Nat.add_one_sub_one, show (256 : Nat) ^ (2 - 1) = 256 from rfl, show (256 : Nat) ^ (4 - 1) = 16777216 from rfl, show (256 : Nat) ^ (8 - 1) = 72057594037927936 from rfl] at h1 <;>
    rcases vplace_cases (vnum xs) with ⟨p, b⟩ | ⟨p, _, b⟩ | ⟨p, _, b⟩ | ⟨p, _, b⟩ | ⟨p, b⟩ <;> rw [p] <;> simp only [vsz] <;> omega
theorem vshort_lt {xs : List Nat} (h : Bytes xs) (hs : vshort xs = true) : xs.length < 8 := by
  have := of_decide_eq_true hs
  have := vneed_cases h
  omega
/-- Bytes that tell a number tell none when they are cut, and the same where just what they ask for is left. -/
theorem vcut {xs : List Nat} (h : Bytes xs) (hs : vshort xs = false) {k : Nat} (hk : k < vneed xs) : vshort (xs.take k) = true := by
  have hl := of_decide_eq_false hs
  have hp : 0 < vneed xs := by have := vneed_cases h; omega
  refine decide_eq_true ?_
  rw [List.length_take]
  rcases Nat.eq_zero_or_pos k with rfl | h0
  · simp [vneed]
  · rw [vneed_take xs h0]; omega
theorem vwhole {xs : List Nat} (h : Bytes xs) (hs : vshort xs = false) : vshort (xs.take (vneed xs)) = false ∧ vnum (xs.take (vneed xs)) = vnum xs ∧ vneed (xs.take (vneed xs)) = vneed xs := by
  have hl := of_decide_eq_false hs
  have hp : 0 < vneed xs := by have := vneed_cases h; omega
  have e := vneed_take xs hp
  have hs' : vshort (xs.take (vneed xs)) = false := by
    refine decide_eq_false ?_
    rw [e, List.length_take]
    omega
  refine ⟨hs', ?_, e⟩
  unfold vnum
  rw [hs', hs, e, List.take_take, Nat.min_self]

/-- One list of bytes stands ahead of another. -/
def before : List Nat → List Nat → Bool
  | _, [] => false
  | [], _ :: _ => true
  | a :: x, b :: y => decide (a < b) || (decide (a = b) && before x y)
theorem before_val : ∀ (xs ys : List Nat), Bytes xs → Bytes ys → xs.length = ys.length → before xs ys = decide (val xs < val ys)
  | [], [], _, _, _ => by simp [before]
  | [], _ :: _, _, _, h => by simp at h
  | _ :: _, [], _, _, h => by simp at h
  | x :: xs, y :: ys, hx, hy, h => by
    have hl : xs.length = ys.length := by simpa using h
    have ih := before_val xs ys (fun z hz => hx z (List.mem_cons_of_mem _ hz)) (fun z hz => hy z (List.mem_cons_of_mem _ hz)) hl
    have b1 := val_lt xs fun z hz => hx z (List.mem_cons_of_mem _ hz)
    have b2 := val_lt ys fun z hz => hy z (List.mem_cons_of_mem _ hz)
    rw [before, ih, val, val, hl]
    rw [hl] at b1
    generalize 256 ^ ys.length = M at *
    rcases Nat.lt_trichotomy x y with c | c | c
    · have : (x + 1) * M ≤ y * M := Nat.mul_le_mul_right _ c
      rw [Nat.add_mul] at this
      rw [decide_eq_true c, Bool.true_or]
      exact (decide_eq_true (by omega)).symm
    · subst c
      simp
    · have : (y + 1) * M ≤ x * M := Nat.mul_le_mul_right _ c
      rw [Nat.add_mul] at this
      rw [decide_eq_false (by omega), decide_eq_false (show ¬ x = y by omega), Bool.false_and, Bool.or_false]
      exact (decide_eq_false (by omega)).symm
/-- Bytes of numbers stand as the numbers do, and the sizes rise. -/
theorem vrises {a b : Nat} (hab : a ≤ b) (hb : b < 4611686018427387904) : before (venc a) (venc b) = decide (a < b) ∧ vsize a ≤ vsize b := by
  obtain ⟨n, h1, h2, h3, h4, _⟩ := vfits (show a < 4611686018427387904 by omega)
  obtain ⟨m, k1, k2, k3, k4, _⟩ := vfits hb
  by_cases e : vplace a = vplace b
  · have hnm : n = m := by
      have : vsz (vplace a) = vsz (vplace b) := by rw [e]
      omega
    subst hnm
    refine ⟨?_, by rw [h1, k1]; exact Nat.le_refl _⟩
    rw [before_val _ _ (venc_bytes a) (venc_bytes b) (by rw [venc_length, venc_length, h1, k1]), val_venc h1 h3, val_venc k1 k3, e]
    congr 1
    exact propext ⟨fun h => by omega, fun h => by omega⟩
  · have hp : vplace a < vplace b := by
      have := vplace_cases a
      have := vplace_cases b
      omega
    refine ⟨?_, ?_⟩
    · rw [venc_cons h1, venc_cons k1, before]
      have := div_small h3
      have := div_small k3
      rw [Nat.mod_eq_of_lt (show a / 256 ^ n < 256 by omega), Nat.mod_eq_of_lt (show b / 256 ^ m < 256 by omega), decide_eq_true (show a / 256 ^ n + vplace a * 64 < b / 256 ^ m + vplace b * 64 by generalize a / 256 ^ n = q at *; generalize b / 256 ^ m = q' at *; omega), Bool.true_or]
      refine (decide_eq_true ?_).symm
      rcases Nat.lt_or_ge a b with h | h
      · exact h
      · exact absurd (show vplace a = vplace b by rw [Nat.le_antisymm hab h]) e
    · unfold vsize
      have pa := vplace_cases a
      have pb := vplace_cases b
      have : ∀ p q, p < q → q < 4 → vsz p ≤ vsz q := by
        intro p q hpq hq
        have : (p = 0 ∨ p = 1 ∨ p = 2) ∧ (q = 1 ∨ q = 2 ∨ q = 3) := by omega
        rcases this with ⟨rfl | rfl | rfl, rfl | rfl | rfl⟩ <;> first | omega | simp [vsz]
      exact this _ _ hp k2
theorem bytesLess_nat : ∀ (xs ys : List Nat), Bytes xs → Bytes ys → Go.Op.bytesLess (xs.map UInt8.ofNat) (ys.map UInt8.ofNat) = before xs ys
  | [], [], _, _ => rfl
  | [], _ :: _, _, _ => rfl
  | _ :: _, [], _, _ => rfl
  | x :: xs, y :: ys, hx, hy => by
    have ih := bytesLess_nat xs ys (fun z hz => hx z (List.mem_cons_of_mem _ hz)) (fun z hz => hy z (List.mem_cons_of_mem _ hz))
    have h1 : x < 256 := hx x (List.mem_cons_self ..)
    have h2 : y < 256 := hy y (List.mem_cons_self ..)
    rw [List.map_cons, List.map_cons, Go.Op.bytesLess, before, ih]
    have e1 : (UInt8.ofNat x < UInt8.ofNat y) = (x < y) := by
      rw [UInt8.lt_iff_toNat_lt, UInt8.toNat_ofNat', UInt8.toNat_ofNat', Nat.mod_eq_of_lt (by omega), Nat.mod_eq_of_lt (by omega)]
    have e2 : (UInt8.ofNat x == UInt8.ofNat y) = decide (x = y) := by
      by_cases h : x = y
      · subst h; simp
      · rw [decide_eq_false h]
        refine beq_false_of_ne fun e => h ?_
        have := congrArg UInt8.toNat e
        rwa [UInt8.toNat_ofNat', UInt8.toNat_ofNat', Nat.mod_eq_of_lt (by omega), Nat.mod_eq_of_lt (by omega)] at this
    rw [e2]
    congr 1
    by_cases h : x < y
    · rw [decide_eq_true h]; exact decide_eq_true (by rw [e1]; exact h)
    · rw [decide_eq_false h]; exact decide_eq_false (by rw [e1]; exact h)
end Wig
