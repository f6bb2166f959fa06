/-
  What the head of layer 2's statements returns: true. The four pushes' contracts with the answer's list as an argument. No condition beyond what the memory holds.
-/
import Derived.Test.YtjojnbeflongkaaDoorFlS
namespace Go.Proofs.YtjojnbeflongkaaDoor
open Go.ChangeShapes Go.WideShapes Go.ChangeAt Go.RowKit Go.Deep
set_option linter.unusedVariables false

/-- What a call that returns a list of samples leaves: a slice of its own that reads as rr; below the heap's old size nothing has turned. -/
def Gives (w : World) (rr : List Wig.Smp) (n : Nat) (e : Ending) (w' : World) : Prop :=
  ∃ A c, e = .returned (.slice A n c) ∧ Rd w' w'.heap.size A rr ∧ Below w.heap.size w w' ∧ Own w' w.heap.size (.slice A n c) rr

theorem gives {F : FuncId} {args : Array Value} {w : World} {tt rr : List Wig.Smp} {n : Nat} (he : tt = rr) (hn : rr.length = n)
    (h : Calls Tryd.prog F args w fun e w' => ∃ v, e = .returned v ∧ Own w' w.heap.size v tt ∧ Below w.heap.size w w') : Calls Tryd.prog F args w (Gives w rr n) := by
  subst he
  subst hn
  refine h.mono ?_
  rintro e w' ⟨v, rfl, hown, hb⟩
  obtain ⟨A, c, rfl, _, hr, _⟩ := hown.rd
  exact ⟨A, c, rfl, hr, hb, hown⟩

section
variable (win s0 s1 : Nat) (ss rr : List Wig.Smp) (n m : Nat) (A : Option Addr) (c : Nat) (w : World) (hn : ss.length = n) (hm : rr.length = m) (hlen : n ≤ 400) (hf : Wig.Fits ss) (hr : Rd w w.heap.size A ss)
  (hw : win < 18446744073709551616) (hs0 : s0 < 18446744073709551616) (hs1 : s1 < 18446744073709551616)
include hn hm hlen hf hr hw hs0 hs1
theorem pushMax_gives (he : Wig.pushed true win (s0, s1) ss = rr) :
    Calls Tryd.prog 42 #[.slice A n c, .int .u64 (win : Int), .agg #[.int .u64 (s0 : Int), .int .u64 (s1 : Int)]] w (Gives w rr m) := by
  subst hn; exact gives he hm (pushMax_any win s0 s1 ss A c w hlen hf hr hw hs0 hs1)
theorem rpushMax_gives (he : Wig.pushed true win (s0, s1) ss = rr) :
    Calls Tryd.prog 32 #[.slice A n c, .int .u64 (win : Int), .agg #[.int .u64 (s0 : Int), .int .u64 (s1 : Int)]] w (Gives w rr m) := by
  subst hn; exact gives he hm (rpushMax_any win s0 s1 ss A c w hlen hf hr hw hs0 hs1)
end
theorem best_lit (ss : List Wig.Smp) (n r : Nat) (A : Option Addr) (c : Nat) (w : World) (hn : ss.length = n) (hlen : n ≤ 400) (hb : Wig.best ss = r) (hr : Rd w w.heap.size A ss) :
    Calls Tryd.prog 23 #[.slice A n c] w fun e w' => e = .returned (.int .u64 (r : Int)) ∧ w = w' := by
  subst hn; subst hb; exact best_any ss A c w hlen hr
theorem rbest_lit (ss : List Wig.Smp) (n r : Nat) (A : Option Addr) (c : Nat) (w : World) (hn : ss.length = n) (hlen : n ≤ 400) (hb : Wig.best ss = r) (hr : Rd w w.heap.size A ss) :
    Calls Tryd.prog 45 #[.slice A n c] w fun e w' => e = .returned (.int .u64 (r : Int)) ∧ w = w' := by
  subst hn; subst hb; exact rbest_any ss A c w hlen hr
theorem same_lit (ss tt : List Wig.Smp) (n m : Nat) (A B : Option Addr) (c d : Nat) (w : World) (h : ss = tt) (hn : ss.length = n) (hm : tt.length = m) (hl : n ≤ 402) (hr : Rd w w.heap.size A ss) (hq : Rd w w.heap.size B tt) :
    Calls Tryd.prog 24 #[.slice A n c, .slice B m d] w fun e w' => e = .returned (.bool true) ∧ ∃ k, w.drewN k = w' := by
  subst hn; subst hm
  have := same_any ss tt A B c d w hl (by rw [← h]; exact hl) hr hq
  rwa [decide_eq_true h] at this

end Go.Proofs.YtjojnbeflongkaaDoor
