/-
  Datagrams as lists of bytes: what layer 6 says of Pack and Open, over plain numbers and lists. No condition.
-/
import Derived.Test.YtmodafmnokiceaaSeaM
namespace Wig

/-- A datagram without its sum. -/
def sbody (a b : Nat) (xs : List Nat) : List Nat := (63 + psize a b) :: (be (psize a b) (a % pwin (psize a b)) ++ xs)
/-- A packet may be. -/
def sfits (a b : Nat) (xs : List Nat) : Bool := decide (a ≤ 4611686018427387903 ∧ 0 < xs.length ∧ xs.length + psize a b ≤ 1195)
def spack (a b : Nat) (xs : List Nat) : List Nat := if sfits a b xs then sealed (sbody a b xs) else []
def spackErr (a b : Nat) (xs : List Nat) : Nat := if sfits a b xs then 0 else 1

theorem sbody_length (a b : Nat) (xs : List Nat) : (sbody a b xs).length = 1 + psize a b + xs.length := by
  simp [sbody, be_length]; omega
theorem sbody_bytes (a b : Nat) {xs : List Nat} (h : Bytes xs) : Bytes (sbody a b xs) := fun x hx => by
  rcases List.mem_cons.1 hx with h' | h'
  · have := psize_range a b; omega
  · rcases List.mem_append.1 h' with h' | h'
    · exact be_bytes _ _ x h'
    · exact h x h'
theorem spack_bytes (a b : Nat) {xs : List Nat} (h : Bytes xs) : Bytes (spack a b xs) := fun x hx => by
  unfold spack at hx
  split at hx
  · exact sealed_bytes (sbody_bytes a b h) x hx
  · cases hx
theorem spack_length {a b : Nat} {xs : List Nat} (h : sfits a b xs = true) : (spack a b xs).length = xs.length + 5 + psize a b := by
  unfold spack; rw [if_pos h, sealed_length, sbody_length]; omega

/-- The size that a datagram's first byte tells: 0: none. -/
def ssize (b : List Nat) : Nat := if 0 < b.length ∧ b.length ≤ 1200 ∧ 64 ≤ b.headD 0 ∧ b.headD 0 ≤ 67 ∧ b.headD 0 - 63 + 6 ≤ b.length then b.headD 0 - 63 else 0
/-- Bytes are a datagram. -/
def sopens (b : List Nat) : Bool := decide (0 < ssize b ∧ sealed (b.take (b.length - 4)) = b)
def spart (b : List Nat) : List Nat := (b.drop 1).take (ssize b)
def snum (b : List Nat) (next : Nat) : Nat := if sopens b then pwhole (val (spart b)) (pwin (ssize b)) (pcap next) else 0
def spay (b : List Nat) : List Nat := if sopens b then (b.take (b.length - 4)).drop (1 + ssize b) else []
def sopenErr (b : List Nat) : Nat := if sopens b then 0 else 60

theorem ssize_le (b : List Nat) : ssize b ≤ 4 := by unfold ssize; split <;> omega
theorem ssize_pos {b : List Nat} (h : 0 < ssize b) : b.length ≤ 1200 ∧ ssize b + 6 ≤ b.length ∧ b.headD 0 = 63 + ssize b := by
  unfold ssize at h ⊢
  split at h
  · rename_i h'
    rw [if_pos h']
    omega
  · omega
theorem pwin_pow {k : Nat} (h1 : 1 ≤ k) (h4 : k ≤ 4) : pwin k = 256 ^ k := by
  have : k = 1 ∨ k = 2 ∨ k = 3 ∨ k = 4 := by omega
  rcases this with rfl | rfl | rfl | rfl <;> decide
theorem sealed_take (xs : List Nat) : (sealed xs).take ((sealed xs).length - 4) = xs := by
  rw [sealed_length, Nat.add_sub_cancel]
  exact List.take_left
/-- What is packed has its size. -/
theorem spack_size {a b : Nat} {xs : List Nat} (h : sfits a b xs = true) : ssize (spack a b xs) = psize a b := by
  have hl := spack_length h
  have hr := psize_range a b
  have hf := of_decide_eq_true h
  have hh : (spack a b xs).headD 0 = 63 + psize a b := by unfold spack; rw [if_pos h]; rfl
  unfold ssize
  rw [hh, if_pos (by omega)]
  omega
theorem spack_opens {a b : Nat} {xs : List Nat} (h : sfits a b xs = true) : sopens (spack a b xs) = true := by
  have hs := spack_size h
  have hr := psize_range a b
  refine decide_eq_true ⟨by omega, ?_⟩
  unfold spack
  rw [if_pos h, sealed_take]
theorem spack_part {a b : Nat} {xs : List Nat} (h : sfits a b xs = true) : val (spart (spack a b xs)) = a % pwin (psize a b) := by
  have hr := psize_range a b
  unfold spart
  rw [spack_size h]
  unfold spack
  rw [if_pos h]
  unfold sealed sbody
  rw [List.cons_append, List.drop_succ_cons, List.drop_zero, List.append_assoc, List.take_append_of_le_length (by rw [be_length]; exact Nat.le_refl _), List.take_of_length_le (by rw [be_length]; exact Nat.le_refl _), be_val, pwin_pow hr.1 hr.2, Nat.mod_mod]
theorem spack_pay {a b : Nat} {xs : List Nat} (h : sfits a b xs = true) : spay (spack a b xs) = xs := by
  unfold spay
  rw [if_pos (spack_opens h), spack_size h]
  unfold spack
  rw [if_pos h, sealed_take, sbody, Nat.add_comm, List.drop_succ_cons]
  exact List.drop_left' (be_length _ _)
theorem spack_num {a b : Nat} {xs : List Nat} (h : sfits a b xs = true) (n : Nat) : snum (spack a b xs) n = pwhole (a % pwin (psize a b)) (pwin (psize a b)) (pcap n) := by
  unfold snum
  rw [if_pos (spack_opens h), spack_size h, spack_part h]
/-- A datagram one of whose bytes is another one is none. -/
theorem sturn {xs : List Nat} (hx : Bytes xs) {i x y : Nat} (hi : (sealed xs)[i]? = some x) (hy : y < 256) (hne : y ≠ x) : sealed (((sealed xs).set i y).take (((sealed xs).set i y).length - 4)) ≠ (sealed xs).set i y := by
  intro he
  rw [List.length_set, sealed_length, Nat.add_sub_cancel] at he
  by_cases h : i < xs.length
  · have e1 : (sealed xs).set i y = xs.set i y ++ le 4 (csum xs) := by unfold sealed; exact List.set_append_left i y h
    have hxi : xs[i]? = some x := by unfold sealed at hi; rwa [List.getElem?_append_left h] at hi
    rw [e1, List.take_left' (by rw [List.length_set])] at he
    unfold sealed at he
    have e2 := le_inj 4 (csum_lt _) (csum_lt _) (List.append_cancel_left he)
    exact hne ((csum_set hx hxi hy).1 e2)
  · have hge : xs.length ≤ i := by omega
    have e1 : (sealed xs).set i y = xs ++ (le 4 (csum xs)).set (i - xs.length) y := by unfold sealed; exact List.set_append_right i y hge
    have hli : (le 4 (csum xs))[i - xs.length]? = some x := by unfold sealed at hi; rwa [List.getElem?_append_right hge] at hi
    rw [e1, List.take_left] at he
    unfold sealed at he
    have e2 := List.append_cancel_left he
    have e3 : (le 4 (csum xs))[i - xs.length]? = some y := by
      rw [e2, List.getElem?_set_self]
      rcases Nat.lt_or_ge (i - xs.length) (le 4 (csum xs)).length with h' | h'
      · exact h'
      · rw [List.getElem?_eq_none h'] at hli; cases hli
    rw [hli] at e3
    exact hne (Option.some.inj e3).symm
theorem sturned {a b : Nat} {xs : List Nat} (hx : Bytes xs) (h : sfits a b xs = true) {i x y : Nat} (hi : (spack a b xs)[i]? = some x) (hy : y < 256) (hne : y ≠ x) : sopens ((spack a b xs).set i y) = false := by
  refine decide_eq_false fun hh => ?_
  have h2 := hh.2
  unfold spack at h2 hi
  rw [if_pos h] at h2 hi
  exact sturn (sbody_bytes a b hx) hi hy hne h2
/-- A packet that lies further off is no shorter. -/
theorem psize_rises {n d e : Nat} : psize (n + d) n ≤ psize (n + d + e) n := by
  unfold psize
  repeat' split
  all_goals omega
end Wig
