/-
  What the document's laid of layer 5 returns of a frame that may be: its numbers. No condition.
-/
import Derived.Test.YtogioabdijgglaaDoorRld
import Derived.Test.YtogioabdijgglaaDoorRck
import Derived.Test.YtogioabdijgglaaDoorLay
import Derived.Deep.DeepCutAuto
namespace Go.Proofs.YtogioabdijgglaaDoor
open Go.ChangeShapes Go.WideShapes Go.ChangeAt Go.RowKit Go.Deep
set_option linter.unusedVariables false

theorem fin_no {f : Wig.Fr} (h : Wig.fine f = true) {has : List Nat} (hf : Wig.flds (Wig.knat f.kind) = some has) (h7 : has.contains 7 = false) : f.fin = false := by
  have e := fine_some (f := f) (has := has) hf
  rw [h, h7] at e
  have e2 := (Bool.and_eq_true_iff.1 e.symm).2
  simp only [Wig.dataFit, Bool.false_eq_true, if_false, Bool.and_eq_true, Bool.not_eq_true'] at e2
  exact e2.2

set_option maxHeartbeats 8000000 in
theorem rlaid_plain (v : Value) (f : Wig.Fr) (w : World) (hv : Fv w w.heap.size v f) (ho : f.Ok) (hfine : Wig.fine f = true) (h2 : Wig.knat f.kind ≠ 2) (h3 : Wig.knat f.kind ≠ 3) :
    Calls Tryd.prog 22 #[v] w fun e w' => ∃ v', e = .returned v' ∧ OwnN .u64 22 w' w.heap.size v' (Wig.rlaid f) ∧ Below w.heap.size w w' := by
  obtain ⟨has, hf, -, -, -⟩ := Wig.fine_parts hfine
  have hk : f.kind = ((Wig.knat f.kind : Nat) : Int) := Wig.knat_of ho.kind (Wig.flds_le hf)
  have hfin : has.contains 7 = false → f.fin = false := fin_no hfine hf
  have hdl := Wig.fine_data hfine
  obtain ⟨D, dc, S, sc, rfl, hl⟩ := hv
  have hbel : Below w.heap.size w (w.alloc (.cells (farr f D dc S sc) 26)) := (Below.refl _ _).alloc (Nat.le_refl _) _
  obtain ⟨wn, hwn⟩ : ∃ wn, wn = w.alloc (.cells (farr f D dc S sc) 26) := ⟨_, rfl⟩
  have hat := at_box w f D dc S sc 26
  rw [← hwn] at hat hbel
  obtain ⟨kn, hkn⟩ : ∃ kn, kn = Wig.knat f.kind := ⟨_, rfl⟩
  rw [← hkn] at hk hf h2 h3
  obtain ⟨kind, id, off, max, code, delay, ce, fin, data, spans⟩ := f
  simp only [] at hk hfin hdl
  subst hk
  have e1 : IntKind.u64.wrap (data.length : Int) = (data.length : Int) := by rw [IntKind.wrap_u64]; omega
  have HB := Lib.hid hbel
  have hsz : wn.heap.size = w.heap.size + 1 := by rw [hwn]; simp
  have OL0 : ∀ (ys : List Nat) (hm : ys.length ≤ maxLen), OwnN .u64 22 (wn.alloc (.cells (ncells .u64 ys).toArray 22)) w.heap.size (.slice (some ⟨w.heap.size + 1, 0, none⟩) ys.length ys.length) ys := fun ys hm => by
    have := own_lit .u64 22 wn w.heap.size ys hbel.size hm
    rwa [hsz] at this
  have OL := Lib.hid OL0
  have BL := Lib.hid (fun (o : Obj) => hbel.alloc hbel.size o)
  have c0 := hat.c0
  have c1 := hat.c1
  have c2 := hat.c2
  have c3 := hat.c3
  have c4 := hat.c4
  have c5 := hat.c5
  have c6 := hat.c6
  have c7 := hat.c7
  have c8 := hat.c8
  simp only [Nat.zero_add] at c0 c1 c2 c3 c4 c5 c6 c7 c8
  simp only [farr] at hwn ⊢
  have h0 := hf
  clear hf hat hbel hl ho hfine hkn hdl hsz OL0
  rcases Wig.flds_cases h0 with ⟨rfl, rfl⟩ | ⟨rfl, rfl⟩ | ⟨rfl, rfl⟩ | ⟨rfl, rfl⟩ | ⟨rfl, rfl⟩ | ⟨rfl, rfl⟩ | ⟨rfl, rfl⟩ | ⟨rfl, rfl⟩ | ⟨rfl, rfl⟩ | ⟨rfl, rfl⟩ | ⟨rfl, rfl⟩ | ⟨rfl, rfl⟩ | ⟨rfl, rfl⟩ | ⟨rfl, rfl⟩ | ⟨rfl, rfl⟩
  case inr.inr.inl => exact absurd rfl h2
  case inr.inr.inr.inl => exact absurd rfl h3
  case inr.inr.inr.inr.inr.inr.inr.inl =>
    clear h0 h2 h3 hfin
    subst hwn
    cases fin with
    | true =>
      go_enter Tryd.func22, Tryd.ntmps22
      go_wp2_with fail
      go_ret
      exact ⟨_, rfl, OL.out (Wig.rlaid ⟨14, id, off, max, code, delay, ce, true, data, spans⟩) (by simp [Wig.rlaid, Wig.fnums, Wig.flds, Wig.knat, maxLen]), BL.out _⟩
    | false =>
      go_enter Tryd.func22, Tryd.ntmps22
      go_wp2_with fail
      go_ret
      exact ⟨_, rfl, OL.out (Wig.rlaid ⟨14, id, off, max, code, delay, ce, false, data, spans⟩) (by simp [Wig.rlaid, Wig.fnums, Wig.flds, Wig.knat, maxLen]), BL.out _⟩
  all_goals
    obtain rfl : fin = false := hfin rfl
    clear h0 h2 h3 hfin
    subst hwn
    go_enter Tryd.func22, Tryd.ntmps22
    go_wp2_with fail
    go_ret
    exact ⟨_, rfl, OL.out _ (by simp [Wig.rlaid, Wig.fnums, Wig.flds, Wig.knat, maxLen]), BL.out _⟩
end Go.Proofs.YtogioabdijgglaaDoor
