/-
  Bytes shifted in and out of a number of 64 bits, as the program's operations give them. No condition.
-/
import Derived.Test.YtogioabdijgglaaDoorVarM
import Derived.WalkKit
import Derived.Laws.Bits64b
namespace Go.Proofs.YtogioabdijgglaaDoor

theorem bits_or_u8_nat (a b : Nat) (ha : a < 256) (hb : b < 256) : bits .or .u8 (a : Int) (b : Int) = ((a ||| b : Nat) : Int) := by
  have hx : a ||| b < 2 ^ 8 := Nat.or_lt_two_pow (by omega) (by omega)
  have h1 : (BitVec.ofInt 8 (a : Int)).toNat = a := by
    rw [BitVec.ofInt_natCast, BitVec.toNat_ofNat]; exact Nat.mod_eq_of_lt (by omega)
  have h2 : (BitVec.ofInt 8 (b : Int)).toNat = b := by
    rw [BitVec.ofInt_natCast, BitVec.toNat_ofNat]; exact Nat.mod_eq_of_lt (by omega)
  show IntKind.u8.wrap ((BitVec.ofInt 8 (a : Int) ||| BitVec.ofInt 8 (b : Int)).toNat : Int) = _
  rw [BitVec.toNat_or, h1, h2, IntKind.wrap_u8]
  omega
theorem or_high {a b s : Nat} (h : b < 2 ^ s) : a * 2 ^ s ||| b = a * 2 ^ s + b := by
  rw [Nat.mul_comm, Nat.two_pow_add_eq_or_of_lt h]
/-- A byte more behind. -/
theorem byte_in_shl {y : Nat} (hy : y < 72057594037927936) : IntKind.u64.wrap ((y : Int) * 256) = ((y * 256 : Nat) : Int) := by
  rw [IntKind.wrap_u64]
  omega
theorem byte_in_or {y c : Nat} (hy : y < 72057594037927936) (hc : c < 256) : bits .or .u64 ((y * 256 : Nat) : Int) (c : Int) = ((y * 256 + c : Nat) : Int) := by
  rw [bits_or_u64_nat _ _ (by omega) (by omega)]
  have := or_high (a := y) (b := c) (s := 8) (by omega)
  rw [show (2 : Nat) ^ 8 = 256 from rfl] at this
  rw [this]
theorem byte_wide {c : Nat} (hc : c < 256) : IntKind.u64.wrap (c : Int) = (c : Int) := by
  rw [IntKind.wrap_u64]
  omega
/-- What is left without the two highest bits. -/
theorem low_and {u k : Nat} (hu : u < 18446744073709551616) (hk : k < 4) : bits .and .u64 (u : Int) ((Wig.vmost k : Nat) : Int) = ((u % (64 * 256 ^ (Wig.vsz k - 1)) : Nat) : Int) := by
  have : k = 0 ∨ k = 1 ∨ k = 2 ∨ k = 3 := by omega
  rcases this with rfl | rfl | rfl | rfl
  · show bits .and .u64 (u : Int) ((63 : Nat) : Int) = _
    rw [bits_and_u64_nat _ _ hu (by decide)]
    exact congrArg _ (Nat.and_two_pow_sub_one_eq_mod u 6)
  · show bits .and .u64 (u : Int) ((16383 : Nat) : Int) = _
    rw [bits_and_u64_nat _ _ hu (by decide)]
    exact congrArg _ (Nat.and_two_pow_sub_one_eq_mod u 14)
  · show bits .and .u64 (u : Int) ((1073741823 : Nat) : Int) = _
    rw [bits_and_u64_nat _ _ hu (by decide)]
    exact congrArg _ (Nat.and_two_pow_sub_one_eq_mod u 30)
  · show bits .and .u64 (u : Int) ((4611686018427387903 : Nat) : Int) = _
    rw [bits_and_u64_nat _ _ hu (by decide)]
    exact congrArg _ (Nat.and_two_pow_sub_one_eq_mod u 62)
/-- A byte out of a number. -/
theorem byte_out (v i : Nat) (hi : i < 8) : IntKind.u8.wrap ((v : Int) / 2 ^ min ((8 * (i : Int)).toNat) 64) = ((v / 256 ^ i % 256 : Nat) : Int) := by
  have e : min ((8 * (i : Int)).toNat) 64 = 8 * i := by omega
  rw [e, IntKind.wrap_u8]
  have e2 : (2 : Int) ^ (8 * i) = ((256 ^ i : Nat) : Int) := by
    rw [Int.natCast_pow, Int.pow_mul]
    rfl
  rw [e2]
  generalize 256 ^ i = m
  rw [← Int.natCast_ediv]
  omega
end Go.Proofs.YtogioabdijgglaaDoor
