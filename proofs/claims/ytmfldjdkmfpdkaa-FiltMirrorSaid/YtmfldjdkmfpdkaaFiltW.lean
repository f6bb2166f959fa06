/-
  What the head of layer 2's statements returns: true. The four pushes' contracts with the answer's list as an argument. No condition beyond what the memory holds.
-/
import Derived.Test.YtmfldjdkmfpdkaaFiltS
namespace Go.Proofs.Ytmfldjdkmfpdkaa
open Go.ChangeShapes Go.WideShapes Go.ChangeAt Go.RowKit Go.Deep
set_option linter.unusedVariables false

/-- What a call that returns a list of samples leaves: a slice of its own that reads as rr; below the heap's old size nothing has turned. -/
def Gives (w : World) (rr : List Wig.Smp) (n : Nat) (e : Ending) (w' : World) : Prop :=
  ∃ A c, e = .returned (.slice A n c) ∧ Rd w' w'.heap.size A rr ∧ Below w.heap.size w w' ∧ Own w' w.heap.size (.slice A n c) rr

theorem gives {F : FuncId} {args : Array Value} {w : World} {tt rr : List Wig.Smp} {n : Nat} (he : tt = rr) (hn : rr.length = n)
    (h : Calls Try.prog F args w fun e w' => ∃ v, e = .returned v ∧ Own w' w.heap.size v tt ∧ Below w.heap.size w w') : Calls Try.prog F args w (Gives w rr n) := by
  subst he
  subst hn
  refine h.mono ?_
  rintro e w' ⟨v, rfl, hown, hb⟩
  obtain ⟨A, c, rfl, _, hr, _⟩ := hown.rd
  exact ⟨A, c, rfl, hr, hb, hown⟩

section
variable (win s0 s1 : Nat) (ss rr : List Wig.Smp) (n m : Nat) (A : Option Addr) (c : Nat) (w : World) (hn : ss.length = n) (hm : rr.length = m) (hlen : n ≤ 400) (hf : Wig.Fits ss) (hr : Rd w w.heap.size A ss)
  (hw : win < 18446744073709551616) (hs0 : s0 < 18446744073709551616) (hs1 : s1 < 18446744073709551616)
include hn hm hlen hf hr hw hs0 hs1
theorem pushMax_gives (he : Wig.pushed true win (s0, s1) ss = rr) :
    Calls Try.prog 10 #[.slice A n c, .int .u64 (win : Int), .agg #[.int .u64 (s0 : Int), .int .u64 (s1 : Int)]] w (Gives w rr m) := by
  subst hn; exact gives he hm (pushMax_any win s0 s1 ss A c w hlen hf hr hw hs0 hs1)
theorem pushMin_gives (he : Wig.pushed false win (s0, s1) ss = rr) :
    Calls Try.prog 12 #[.slice A n c, .int .u64 (win : Int), .agg #[.int .u64 (s0 : Int), .int .u64 (s1 : Int)]] w (Gives w rr m) := by
  subst hn; exact gives he hm (pushMin_any win s0 s1 ss A c w hlen hf hr hw hs0 hs1)
theorem rpushMax_gives (he : Wig.pushed true win (s0, s1) ss = rr) :
    Calls Try.prog 11 #[.slice A n c, .int .u64 (win : Int), .agg #[.int .u64 (s0 : Int), .int .u64 (s1 : Int)]] w (Gives w rr m) := by
  subst hn; exact gives he hm (rpushMax_any win s0 s1 ss A c w hlen hf hr hw hs0 hs1)
theorem rpushMin_gives (he : Wig.pushed false win (s0, s1) ss = rr) :
    Calls Try.prog 13 #[.slice A n c, .int .u64 (win : Int), .agg #[.int .u64 (s0 : Int), .int .u64 (s1 : Int)]] w (Gives w rr m) := by
  subst hn; exact gives he hm (rpushMin_any win s0 s1 ss A c w hlen hf hr hw hs0 hs1)
end
theorem best_lit (ss : List Wig.Smp) (n r : Nat) (A : Option Addr) (c : Nat) (w : World) (hn : ss.length = n) (hlen : n ≤ 400) (hb : Wig.best ss = r) (hr : Rd w w.heap.size A ss) :
    Calls Try.prog 14 #[.slice A n c] w fun e w' => e = .returned (.int .u64 (r : Int)) ∧ w = w' := by
  subst hn; subst hb; exact best_any ss A c w hlen hr
theorem rbest_lit (ss : List Wig.Smp) (n r : Nat) (A : Option Addr) (c : Nat) (w : World) (hn : ss.length = n) (hlen : n ≤ 400) (hb : Wig.best ss = r) (hr : Rd w w.heap.size A ss) :
    Calls Try.prog 15 #[.slice A n c] w fun e w' => e = .returned (.int .u64 (r : Int)) ∧ w = w' := by
  subst hn; subst hb; exact rbest_any ss A c w hlen hr
theorem same_lit (ss tt : List Wig.Smp) (n m : Nat) (A B : Option Addr) (c d : Nat) (w : World) (h : ss = tt) (hn : ss.length = n) (hm : tt.length = m) (hl : n ≤ 402) (hr : Rd w w.heap.size A ss) (hq : Rd w w.heap.size B tt) :
    Calls Try.prog 9 #[.slice A n c, .slice B m d] w fun e w' => e = .returned (.bool true) ∧ ∃ k, w.drewN k = w' := by
  subst hn; subst hm
  have := same_any ss tt A B c d w hl (by rw [← h]; exact hl) hr hq
  rwa [decide_eq_true h] at this

set_option maxHeartbeats 1000000 in
theorem awake_any (w : World) : Calls Try.prog 8 #[] w fun e w' => e = .returned (.bool true) ∧ Below w.heap.size w w' := by
  have f1 : Wig.Fits [(0, 5)] := by intro p hp; simp at hp; subst hp; decide
  have f2 : Wig.Fits [(3, 7)] := by intro p hp; simp at hp; subst hp; decide
  have C1 := Lib.hid (fun w => pushMax_gives 10 0 5 [] [(0, 5)] 0 1 none 0 w rfl rfl (by decide) (by intro p hp; cases hp) Rd.empty (by decide) (by decide) (by decide) (by decide +kernel))
  have C2 := Lib.hid (fun A c w h => pushMax_gives 10 3 7 [(0, 5)] [(3, 7)] 1 1 A c w rfl rfl (by decide) f1 h (by decide) (by decide) (by decide) (by decide +kernel))
  have C3 := Lib.hid (fun A c w h => pushMax_gives 10 4 6 [(3, 7)] [(3, 7), (4, 6)] 1 2 A c w rfl rfl (by decide) f2 h (by decide) (by decide) (by decide) (by decide +kernel))
  have C4 := Lib.hid (fun w => pushMin_gives 10 4 6 [] [(4, 6)] 0 1 none 0 w rfl rfl (by decide) (by intro p hp; cases hp) Rd.empty (by decide) (by decide) (by decide) (by decide +kernel))
  have C5 := Lib.hid (fun A c w h => best_lit [(3, 7), (4, 6)] 2 7 A c w rfl (by decide) rfl h)
  have C6 := Lib.hid (fun w => best_lit [] 0 0 none 0 w rfl (by decide) rfl Rd.empty)
  have C7 := Lib.hid (fun A c w h => best_lit [(4, 6)] 1 6 A c w rfl (by decide) rfl h)
  clear f1 f2
  go_enter Try.func8, Try.ntmps8
  go_wp2_with fail
  refine (C1.out _).mono ?_
  rintro e w1 ⟨A1, c1, rfl, hr1, hb1, -⟩
  have R1 := Lib.hid hr1
  have B1 := Lib.hid hb1
  clear hr1 hb1
  go_wp2_with fail
  refine (C2.out _ _ _ R1.out).mono ?_
  rintro e w2 ⟨A2, c2, rfl, hr2, hb2, -⟩
  have R2 := Lib.hid hr2
  have B2 := Lib.hid (below_trans' B1.out hb2)
  clear hr2 hb2
  go_wp2_with fail
  refine (C3.out _ _ _ R2.out).mono ?_
  rintro e w3 ⟨A3, c3, rfl, hr3, hb3, -⟩
  have R3 := Lib.hid hr3
  have B3 := Lib.hid (below_trans' B2.out hb3)
  clear hr3 hb3
  go_wp2_with fail
  refine (C4.out _).mono ?_
  rintro e w4 ⟨A4, c4, rfl, hr4, hb4, -⟩
  have R3' := Lib.hid ((R3.out.below hb4).wide hb4.size)
  have R4 := Lib.hid hr4
  have B4 := Lib.hid (below_trans' B3.out hb4)
  clear hr4 hb4
  go_wp2_with fail
  refine (C5.out _ _ _ R3'.out).mono ?_
  rintro e w5 ⟨rfl, rfl⟩
  go_wp2_with fail
  refine (C6.out _).mono ?_
  rintro e w5 ⟨rfl, rfl⟩
  go_wp2_with fail
  refine (C7.out _ _ _ R4.out).mono ?_
  rintro e w5 ⟨rfl, rfl⟩
  go_wp2_with fail
  go_ret
  exact ⟨rfl, B4.out⟩
end Go.Proofs.Ytmfldjdkmfpdkaa
