/-
  The contracts of pnum's Size, Cut and Whole, and of the document's, with their answers as arguments. No condition.
-/
import Derived.Test.YtmodafmnokiceaaPnmB
import Derived.Test.YtmodafmnokiceaaPnmC
namespace Go.Proofs.Ytmodafmnokiceaa
open Go.ChangeShapes Go.WideShapes Go.ChangeAt Go.RowKit
set_option linter.unusedVariables false

theorem cut_gives (a : Nat) (i : Int) (r : Nat) (w : World) (h : a % Wig.pwin (Wig.pk i) = r) :
    Calls Try.prog 20 #[.int .u64 (a : Int), .int .i64 i] w fun e w' => e = .returned (.int .u64 (r : Int)) ∧ w = w' := by
  subst h; exact cut_any a i w
theorem rcut_gives (a : Nat) (i : Int) (r : Nat) (w : World) (h : a % Wig.pwin (Wig.pk i) = r) :
    Calls Try.prog 23 #[.int .u64 (a : Int), .int .i64 i] w fun e w' => e = .returned (.int .u64 (r : Int)) ∧ w = w' := by
  subst h; exact rcut_any a i w
theorem size_gives (a b s : Nat) (w : World) (h : Wig.psize a b = s) (ha : a < 18446744073709551616) (hb : b < 18446744073709551616) :
    Calls Try.prog 18 #[.int .u64 (a : Int), .int .u64 (b : Int)] w fun e w' => e = .returned (.int .i64 (s : Int)) ∧ Below w.heap.size w w' := by
  subst h; exact size_any a b w ha hb
theorem rsize_gives (a b s : Nat) (w : World) (h : Wig.psize a b = s) (ha : a < 18446744073709551616) (hb : b < 18446744073709551616) :
    Calls Try.prog 22 #[.int .u64 (a : Int), .int .u64 (b : Int)] w fun e w' => e = .returned (.int .i64 (s : Int)) ∧ w = w' := by
  subst h; exact rsize_any a b w ha hb
theorem whole_gives (p : Nat) (i : Int) (n r : Nat) (w : World) (h : Wig.pwhole p (Wig.pwin (Wig.pk i)) (Wig.pcap n) = r) (hp : p < 18446744073709551616) (hn : n < 18446744073709551616) :
    Calls Try.prog 28 #[.int .u64 (p : Int), .int .i64 i, .int .u64 (n : Int)] w fun e w' => e = .returned (.int .u64 (r : Int)) ∧ Below w.heap.size w w' := by
  subst h
  exact (whole_any p i n w hp hn).mono fun e w' ⟨he, k, hk⟩ => ⟨he, by rw [← hk]; exact below_drewN' (Below.refl _ _) _⟩
theorem rwhole_gives (p : Nat) (i : Int) (n r : Nat) (w : World) (h : Wig.pwhole p (Wig.pwin (Wig.pk i)) (Wig.pcap n) = r) (hp : p < 18446744073709551616) (hn : n < 18446744073709551616) :
    Calls Try.prog 30 #[.int .u64 (p : Int), .int .i64 i, .int .u64 (n : Int)] w fun e w' => e = .returned (.int .u64 (r : Int)) ∧ w = w' := by
  subst h; exact rwhole_any p i n w hp hn

end Go.Proofs.Ytmodafmnokiceaa
