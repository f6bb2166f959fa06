/-
  slices.Reverse at spans: a row of the call's own is turned about. No condition.
-/
import Derived.Test.YtogioabdijgglaaDoorSpn
import Derived.OwnWalk
import Derived.Deep.LoopGhost
import Derived.Lib.Hide
import Derived.RegionTactic
import Derived.BigRegion
import Derived.ChangeAlike
namespace Go.Proofs.YtogioabdijgglaaDoor
open Go.ChangeShapes Go.WideShapes Go.ChangeAt Go.RowKit Go.Deep
set_option linter.unusedVariables false

/-- L is ss with its first k and its last k turned about. -/
def Turned (ss L : List Wig.Spn) (k : Nat) : Prop := L.length = ss.length ∧ ∀ p, p < ss.length → L[p]? = if p < k ∨ ss.length ≤ p + k then ss[ss.length - 1 - p]? else ss[p]?
theorem turned_zero (ss : List Wig.Spn) : Turned ss ss 0 := ⟨rfl, fun p hp => by rw [if_neg (by omega)]⟩
theorem turned_end {ss L : List Wig.Spn} {k : Nat} (h : Turned ss L k) (hk : ss.length ≤ 2 * k + 1) : L = ss.reverse := by
  refine List.ext_getElem? fun p => ?_
  by_cases hp : p < ss.length
  · rw [h.2 p hp, List.getElem?_reverse hp]
    split
    · rfl
    · congr 1; omega
  · rw [List.getElem?_eq_none (by rw [h.1]; omega), List.getElem?_eq_none (by rw [List.length_reverse]; omega)]
theorem turned_step {ss L : List Wig.Spn} {k : Nat} {x y : Wig.Spn} (h : Turned ss L k) (hk : 2 * k + 1 < ss.length) (hx : L[k]? = some x) (hy : L[ss.length - 1 - k]? = some y) :
    Turned ss ((L.set k y).set (ss.length - 1 - k) x) (k + 1) := by
  have ex : ss[k]? = some x := by have := h.2 k (by omega); rw [if_neg (by omega), hx] at this; exact this.symm
  have ey : ss[ss.length - 1 - k]? = some y := by have := h.2 (ss.length - 1 - k) (by omega); rw [if_neg (by omega), hy] at this; exact this.symm
  refine ⟨by simp [h.1], fun p hp => ?_⟩
  rw [List.getElem?_set, List.getElem?_set]
  by_cases h1 : ss.length - 1 - k = p
  · rw [if_pos h1, if_pos (by rw [List.length_set, h.1]; omega), if_pos (by omega), ← ex]
    congr 1
    omega
  · rw [if_neg h1]
    by_cases h2 : k = p
    · rw [if_pos h2, if_pos (by rw [h.1]; omega), if_pos (by omega), ← ey]
      congr 1
      omega
    · rw [if_neg h2, h.2 p hp]
      by_cases c : p < k ∨ ss.length ≤ p + k
      · rw [if_pos c, if_pos (by omega)]
      · rw [if_neg c, if_neg (by omega)]
theorem flat_set (ss : List Wig.Spn) (k : Nat) (y : Wig.Spn) : flat (ss.set k y) = ((flat ss).set (k * 2) (.int .u64 (y.1 : Int))).set (k * 2 + 1) (.int .u64 (y.2 : Int)) := by
  induction ss generalizing k with
  | nil => simp [flat]
  | cons s ss ih =>
    cases k with
    | zero => simp [flat, two]
    | succ k =>
      have e : ∀ (t : List Wig.Spn), flat (s :: t) = Value.int .u64 (s.1 : Int) :: Value.int .u64 (s.2 : Int) :: flat t := fun t => by simp [flat, two]
      rw [List.set_cons_succ, e, ih, e, show (k + 1) * 2 + 1 = k * 2 + 1 + 1 + 1 by omega, show (k + 1) * 2 = k * 2 + 1 + 1 by omega]
      simp only [List.set_cons_succ]
theorem OwnS.put {w : World} {base g n c : Nat} {L : List Wig.Spn} (h : OwnS w base (.slice (some ⟨g, 0, none⟩) n c) L) (hn : n = L.length) (k : Nat) (y : Wig.Spn) :
    OwnS ((w.setCell ⟨g, k * 2, none⟩ (.int .u64 (y.1 : Int))).setCell ⟨g, k * 2 + 1, none⟩ (.int .u64 (y.2 : Int))) base (.slice (some ⟨g, 0, none⟩) n c) (L.set k y) := by
  subst hn
  unfold OwnS
  rw [flat_set, List.length_set]
  exact (World.ownsRow.stored (World.ownsRow.stored h (k * 2) _).1 (k * 2 + 1) _).1

/-- At a round's head. -/
def RevRel (ss : List Wig.Spn) (A : Option Addr) (c base : Nat) (w : World) (i j : Value) (wr : World) : Prop :=
  ∃ k L, 2 * k ≤ ss.length ∧ i = .int .i64 (k : Int) ∧ j = .int .i64 ((ss.length : Int) - 1 - (k : Int)) ∧ Turned ss L k ∧ OwnS wr base (.slice A ss.length c) L ∧ Below base w wr

set_option maxHeartbeats 1000000 in
theorem reverse_any (v : Value) (ss : List Wig.Spn) (w : World) (base : Nat) (hv : OwnS w base v ss) (hb : base ≤ w.heap.size) (hl : ss.length ≤ 1000000) :
    Calls Tryd.prog 54 #[v] w fun e w' => e = .returned (.tuple #[]) ∧ OwnS w' base v ss.reverse ∧ Below base w w' := by
  obtain ⟨A, c, rfl, _⟩ := hv.rd
  obtain ⟨n, hn⟩ : ∃ n, n = ss.length := ⟨_, rfl⟩
  have hv' := hv
  rw [← hn] at hv' hl ⊢
  have H := Lib.hid hv'
  have HN := Lib.hid hn
  clear hv hv' hn
  go_enter Tryd.func54, Tryd.ntmps54
  go_wp2_with fail
  go_loopw [2, 3] (fun i j wr => RevRel ss A c base w i j wr) (fun i _ _ => n - (intOf i).toNat)
  case atStart => exact ⟨0, ss, by omega, rfl, by rw [← HN.out]; congr 1; omega, turned_zero ss, by rw [← HN.out]; exact H.out, Below.refl _ _⟩
  case round =>
    obtain ⟨k, L, hk, rfl, rfl, hturn, hown, hbel⟩ := hrel
    rw [← HN.out] at hk hown ⊢
    have KT := Lib.hid hturn
    have KO := Lib.hid hown
    have KB := Lib.hid hbel
    clear hturn hown hbel
    by_cases hlt : 2 * k + 1 < n
    · obtain ⟨j, hj⟩ : ∃ j, j = n - 1 - k := ⟨_, rfl⟩
      have ej : (n : Int) - 1 - (k : Int) = (j : Int) := by omega
      rw [ej]
      have hL : L.length = n := by rw [KT.out.1, HN.out]
      obtain ⟨⟨x0, x1⟩, hx⟩ : ∃ x, L[k]? = some x := ⟨_, List.getElem?_eq_getElem (by omega)⟩
      obtain ⟨⟨y0, y1⟩, hy⟩ : ∃ y, L[j]? = some y := ⟨_, List.getElem?_eq_getElem (by omega)⟩
      have own := KO.out
      rw [← hL] at own
      obtain ⟨g, c', e', hg, _, hcell, hfz⟩ := OwnS.form own (by intro e; rw [e] at hx; simp at hx)
      injection e' with e1 e2 e3
      subst e1 e3
      obtain ⟨ck0, ck1⟩ := hcell k (x0, x1) hx
      obtain ⟨cj0, cj1⟩ := hcell j (y0, y1) hy
      have f0 := hfz (k * 2)
      have f1 := hfz (k * 2 + 1)
      have f2 := hfz (j * 2)
      have f3 := hfz (j * 2 + 1)
      have b0 : (0 : Int) ≤ (k : Int) := by omega
      have b1 : (k : Int) < (n : Int) := by omega
      have b2 : (0 : Int) ≤ (j : Int) := by omega
      have b3 : (j : Int) < (n : Int) := by omega
      have b4 : (k : Int) < (j : Int) := by omega
      have d0 : ¬ k = j := by omega
      have d1 : ¬ k * 2 + 1 = j * 2 := by omega
      have d2 : ¬ k * 2 = j * 2 + 1 := by omega
      have R : RevRel ss (some ⟨g, 0, none⟩) c base w (.int .i64 ((k : Int) + 1)) (.int .i64 ((j : Int) - 1)) (((((wr.setCell ⟨g, k * 2, none⟩ (.int .u64 (y0 : Int))).setCell ⟨g, k * 2 + 1, none⟩ (.int .u64 (y1 : Int))).setCell ⟨g, j * 2, none⟩ (.int .u64 (x0 : Int))).setCell ⟨g, j * 2 + 1, none⟩ (.int .u64 (x1 : Int))).drew) := by
        refine ⟨k + 1, (L.set k (y0, y1)).set (ss.length - 1 - k) (x0, x1), by rw [← HN.out]; omega, by congr 1, by rw [← HN.out]; congr 1; omega, turned_step KT.out (by rw [← HN.out]; exact hlt) hx (by rw [← HN.out, ← hj]; exact hy), ?_, ?_⟩
        · rw [← HN.out, ← hj]
          exact ((KO.out.put hL.symm k (y0, y1)).put (by rw [List.length_set, hL]) j (x0, x1)).below ((Below.refl _ _).drew) (Nat.le_refl _)
        · exact ((((KB.out.setCell (p := ⟨g, k * 2, none⟩) hg _).setCell (p := ⟨g, k * 2 + 1, none⟩) hg _).setCell (p := ⟨g, j * 2, none⟩) hg _).setCell (p := ⟨g, j * 2 + 1, none⟩) hg _).drew
      have R' := Lib.hid R
      clear hcell hfz own hx hy hL hj ej e2 R
      go_wp2_with fail
      go_region
      go_wp2_with fail
      go_roundw
      case rel => exact R'.out
      case measure => simp [intOf]; omega
    · have t : decide ((k : Int) < (n : Int) - 1 - (k : Int)) = false := decide_eq_false (by omega)
      have e := turned_end KT.out (by rw [← HN.out]; omega)
      have R := Lib.hid (And.intro KO.out KB.out)
      rw [e] at R
      clear hlt
      go_wp2_with fail
      go_end0
      exact ⟨rfl, R.out⟩
end Go.Proofs.YtogioabdijgglaaDoor
