/-
  What the reader of package frame does with the bytes that it has: it takes a number, or gives up by a panic that a frame's error is. Condition: the table of sizes holds what its text lays.
-/
import Derived.Test.YtogioabdijgglaaDoorFrmM
import Derived.Test.YtogioabdijgglaaDoorVarC
import Derived.Test.YtogioabdijgglaaDoorApp
import Derived.Deep.DeepCutAuto
namespace Go.Proofs.YtogioabdijgglaaDoor
open Go.ChangeShapes Go.WideShapes Go.ChangeAt Go.RowKit Go.Deep
set_option linter.unusedVariables false

/-- Of all blocks but g nothing has turned. -/
structure But (g : Nat) (w w' : World) : Prop where
  os : w'.os = w.os
  tape : w'.tape = w.tape
  output : w'.output = w.output
  size : w.heap.size ≤ w'.heap.size
  block : ∀ k, k < w.heap.size → k ≠ g → w'.heap[k]? = w.heap[k]?
section
variable {g B : Nat} {w w' w'' : World}
theorem But.refl : But g w w := ⟨rfl, rfl, rfl, Nat.le_refl _, fun _ _ _ => rfl⟩
theorem But.trans (h : But g w w') (k : But g w' w'') : But g w w'' :=
  ⟨k.os.trans h.os, k.tape.trans h.tape, k.output.trans h.output, Nat.le_trans h.size k.size, fun i hi hn => (k.block i (Nat.lt_of_lt_of_le hi h.size) hn).trans (h.block i hi hn)⟩
theorem But.of_below (h : Below w.heap.size w w') : But g w w' := ⟨h.os, h.tape, h.output, h.size, fun k hk _ => h.block k hk⟩
theorem But.stored (h : But g w w') (p : Addr) (hp : p.block = g) (u : Value) : But g w (w'.setCell p u) :=
  h.trans ⟨rfl, rfl, rfl, by simp [World.setCell], fun k hk hn => Below.heap_setCell _ _ _ _ (by omega)⟩
theorem But.below (h : But g w w') (hB : B ≤ g) (hw : B ≤ w.heap.size) : Below B w w' := ⟨h.os, h.tape, h.output, h.size, fun k hk => h.block k (by omega) (by omega)⟩
theorem But.cell (h : But g w w') {p : Addr} (hp : p.block < w.heap.size) (hn : p.block ≠ g) : w'.cell? p = w.cell? p := World.cell?_of_block (w := w) (h.block p.block hp hn)
theorem But.drewN (h : But g w w') (n : Nat) : But g w (w'.drewN n) := ⟨h.os, h.tape, h.output, h.size, h.block⟩
end
theorem Tab.but {g : Nat} {w w' : World} (h : Tab w) (hb : But g w w') (hg : 2 ≤ g) : Tab w' := by
  have hs := World.block_lt_of_cell? w _ h.c0
  have k : ∀ j, w'.cell? ⟨1, j, none⟩ = w.cell? ⟨1, j, none⟩ := fun j => hb.cell hs (by simp only []; omega)
  exact ⟨(k 0).trans h.c0, (k 1).trans h.c1, (k 2).trans h.c2, (k 3).trans h.c3⟩
theorem RdN.but {k : IntKind} {g B : Nat} {w w' : World} {A : Option Addr} {xs : List Nat} (h : RdN k w B A xs) (hB : B ≤ g) (hw : B ≤ w.heap.size) (hb : But g w w') : RdN k w' B A xs := h.below (hb.below hB hw)

/-- The value is a slice that reads as bytes, from a block below B. -/
def Bs (w : World) (B : Nat) (u : Value) (xs : List Nat) : Prop := ∃ A n c, u = .slice A n c ∧ n = xs.length ∧ n ≤ c ∧ c ≤ maxLen ∧ RdN .u8 w B A xs
theorem Bs.keeps {w w' : World} {B : Nat} {u : Value} {xs : List Nat} (h : Bs w B u xs) (hk : Below B w w') : Bs w' B u xs := by
  obtain ⟨A, n, c, e, hn, hc, hm, hr⟩ := h
  exact ⟨A, n, c, e, hn, hc, hm, hr.below hk⟩
theorem RdN.drop {k : IntKind} {w : World} {B b off : Nat} {xs : List Nat} (h : RdN k w B (some ⟨b, off, none⟩) xs) (s : Nat) : RdN k w B (some ⟨b, off + s, none⟩) (xs.drop s) := by
  intro hne
  obtain ⟨b', off', e, hb, hc⟩ := h (by intro e; rw [e] at hne; simp at hne)
  injection e with e
  injection e with e1 e2
  subst e1 e2
  refine ⟨b, off + s, rfl, hb, fun j y hj => ?_⟩
  rw [Nat.add_assoc]
  exact hc (s + j) y (by rw [← List.getElem?_drop]; exact hj)

/-- The panic by which a reader gives up. -/
def gaveUp : Ending := .panicked [{ v := .iface 29 (.int .i64 50), recovered := false }]

theorem giveUp_any (w : World) : Calls Tryd.prog 40 #[] w fun e w' => e = gaveUp ∧ w = w' := by
  go_enter Tryd.func40, Tryd.ntmps40
  go_wp2_with fail
  exact ⟨rfl, rfl, rfl⟩

theorem below_any (v far : Nat) (w : World) (hv : v < 18446744073709551616) (hf : far < 18446744073709551616) :
    Calls Tryd.prog 53 #[.int .u64 (v : Int), .int .u64 (far : Int)] w fun e w' => (if v < far then e = gaveUp else e = .returned (.int .u64 ((v - far : Nat) : Int))) ∧ w = w' := by
  have C := Lib.hid (giveUp_any w)
  by_cases h : v < far
  · have t : decide (v < far) = true := decide_eq_true h
    simp only [if_pos h]
    clear h
    go_enter Tryd.func53, Tryd.ntmps53
    go_wp2_with fail
    refine (C.out).mono ?_
    rintro e w' ⟨rfl, rfl⟩
    unfold gaveUp
    go_wp2_with fail
    exact ⟨rfl, rfl, rfl⟩
  · have t : decide (v < far) = false := decide_eq_false h
    simp only [if_neg h]
    have e : IntKind.u64.wrap ((v : Int) - (far : Int)) = ((v - far : Nat) : Int) := by rw [IntKind.wrap_u64]; omega
    clear h
    go_enter Tryd.func53, Tryd.ntmps53
    go_wp2_with fail
    go_ret
    exact ⟨rfl, rfl⟩

/-- What 'number' does at the cell p. -/
def NumAt (xs : List Nat) (B : Nat) (p : Addr) (w : World) (e : Ending) (w' : World) : Prop := match Wig.num1 xs with
  | none => e = gaveUp ∧ w' = w
  | some (v, r) => e = .returned (.int .u64 (v : Int)) ∧ ∃ u, w' = w.setCell p u ∧ Bs w B u r
theorem numAt_none {xs : List Nat} {B : Nat} {p : Addr} {w : World} (h : Wig.vshort xs = true) : NumAt xs B p w gaveUp w := by
  unfold NumAt Wig.num1
  rw [h]
  exact ⟨rfl, rfl⟩
theorem numAt_some {xs : List Nat} {B : Nat} {p : Addr} {w : World} {v : Nat} {u : Value} (h : Wig.vshort xs = false) (hv : v = Wig.vnum xs) (hu : Bs w B u (xs.drop (Wig.vneed xs))) : NumAt xs B p w (.returned (.int .u64 (v : Int))) (w.setCell p u) := by
  unfold NumAt Wig.num1
  rw [h, hv]
  exact ⟨rfl, u, rfl, hu⟩

set_option maxHeartbeats 1000000 in
theorem number_any (g off : Nat) (u : Value) (B : Nat) (xs : List Nat) (w : World) (hx : Wig.Bytes xs) (hu : Bs w B u xs) (hc : w.cell? ⟨g, off, none⟩ = some u) (hz : w.frozen? ⟨g, off, none⟩ = false) (hB : B ≤ w.heap.size) (hT : Tab w) :
    Calls Tryd.prog 39 #[.pointer (some ⟨g, off, none⟩)] w (NumAt xs B ⟨g, off, none⟩ w) := by
  obtain ⟨A, n, c, rfl, hn, hc1, hc2, hr⟩ := hu
  have C := Lib.hid (get_any A n c xs w hx (hr.wide hB) hn hc1 hc2 hT)
  have G := Lib.hid (giveUp_any w)
  obtain ⟨v, hv⟩ : ∃ v, v = Wig.vnum xs := ⟨_, rfl⟩
  obtain ⟨l, hl⟩ : ∃ l, l = Wig.vlen xs := ⟨_, rfl⟩
  obtain ⟨q, hq⟩ : ∃ q, q = Wig.vgot xs := ⟨_, rfl⟩
  unfold GetsAt at C
  rw [← hv, ← hl, ← hq] at C
  cases hs : Wig.vshort xs with
  | true =>
    have R := Lib.hid (numAt_none (B := B) (p := ⟨g, off, none⟩) (w := w) hs)
    have t : ((q : Int) == 0) = false := by rw [hq]; unfold Wig.vgot; rw [hs]; rfl
    clear hv hl hq hr hn hc1 hc2 hx hT hs hB
    go_enter Tryd.func39, Tryd.ntmps39
    go_wp2_with fail
    refine (C.out).mono ?_
    rintro e w' ⟨rfl, rfl⟩
    go_wp2_with fail
    refine (G.out).mono ?_
    rintro e w' ⟨rfl, rfl⟩
    unfold gaveUp
    go_wp2_with fail
    exact ⟨rfl, R.out⟩
  | false =>
    have hle : ¬ xs.length < Wig.vneed xs := of_decide_eq_false hs
    have hp := Wig.vneed_pos hx
    have hl' : l = Wig.vneed xs := by rw [hl]; unfold Wig.vlen; rw [hs]; rfl
    have t : ((q : Int) == 0) = true := by rw [hq]; unfold Wig.vgot; rw [hs]; rfl
    have hne : xs ≠ [] := by intro e; rw [e] at hs; simp [Wig.vshort, Wig.vneed] at hs
    obtain ⟨b, o, rfl, hb, hcell⟩ := hr hne
    have b1 : (0 : Int) ≤ (l : Int) := by omega
    have b2 : l ≤ n := by omega
    have b3 : l ≤ c := by omega
    have b4 : n ≤ c := by omega
    by_cases hcl : c = l
    · have hnl : n = l := by omega
      have R := Lib.hid fun A => (numAt_some (B := B) (p := ⟨g, off, none⟩) (w := w) (u := .slice A 0 0) hs hv ⟨A, 0, 0, rfl, by rw [← hl', ← hnl, hn]; simp, by simp, by simp, by rw [← hl', ← hnl, hn, List.drop_length]; exact RdN.empty⟩)
      subst hcl hnl
      clear hv hl hq hcell hn hx hT hs hB hle hp hl' hne hc2 b2 b3 b4 hc1
      go_enter Tryd.func39, Tryd.ntmps39
      go_wp2_with fail
      refine (C.out).mono ?_
      rintro e w' ⟨rfl, rfl⟩
      go_wp2_with fail
      go_ret
      exact R.out _
    · have R := Lib.hid (numAt_some (B := B) (p := ⟨g, off, none⟩) (w := w) (u := .slice (some ⟨b, o + l, none⟩) (n - l) (c - l)) hs hv ⟨_, _, _, rfl, by rw [← hl', hn]; simp, by omega, by omega, by rw [← hl']; exact RdN.drop hr l⟩)
      clear hv hl hq hcell hn hx hT hs hB hle hp hl' hne hc2 hr
      go_enter Tryd.func39, Tryd.ntmps39
      go_wp2_with fail
      refine (C.out).mono ?_
      rintro e w' ⟨rfl, rfl⟩
      go_wp2_with fail
      go_ret
      exact R.out
end Go.Proofs.YtogioabdijgglaaDoor
