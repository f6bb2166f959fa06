/-
  What the laws ask first: whether a frame's spans and data are few; and what the readers say of one frame's bytes, and of two's. No condition.
-/
import Derived.Test.YtogioabdijgglaaDoorFrW
import Derived.Test.YtogioabdijgglaaDoorOpG
import Derived.Test.YtogioabdijgglaaDoorSam
import Derived.Deep.DeepCutAuto
namespace Wig
def few (f : Fr) : Bool := decide (f.spans.length ≤ 100) && decide (f.data.length ≤ 2000)
theorem few_of {f : Fr} (h : few f = true) : f.spans.length ≤ 100 ∧ f.data.length ≤ 2000 := by simpa [few] using h
theorem parse_enc {f : Fr} (h : fine f = true) (ho : f.Ok) (more : List Nat) : pfr (fenc f ++ more) = f ∧ plen (fenc f ++ more) = (fenc f).length ∧ perr (fenc f ++ more) = 0 := by
  have hr := rd_enc h ho more
  unfold pfr plen perr
  rw [hr]
  refine ⟨rfl, ?_, rfl⟩
  simp
theorem all_two {f g : Fr} (h : fine f = true) (ho : f.Ok) (hg : fine g = true) (hk : g.Ok) : afr (fenc f ++ fenc g) = [f, g] ∧ aerr (fenc f ++ fenc g) = 0 := by
  have e := fall_list [f, g] (by intro x hx; simp at hx; rcases hx with rfl | rfl; exact ⟨h, ho⟩; exact ⟨hg, hk⟩) (by simp)
  have e2 : [f, g].flatMap fenc = fenc f ++ fenc g := by simp
  rw [e2] at e
  unfold afr aerr
  rw [e]
  exact ⟨rfl, rfl⟩
end Wig
namespace Go.Proofs.YtogioabdijgglaaDoor
open Go.ChangeShapes Go.WideShapes Go.ChangeAt Go.RowKit Go.Deep
set_option linter.unusedVariables false
theorem fenc_short {f : Wig.Fr} (h : Wig.fine f = true) : (Wig.fenc f).length ≤ 20000 := by
  obtain ⟨has, hf, _⟩ := Wig.fine_parts h
  have h8 := flds_len hf
  have := Wig.lay_take_len (f := f) (has := has) (fun k hk => Wig.layF_len h hf hk) has.length
  rw [List.take_length] at this
  have h2 := Wig.vsize_le (Wig.wkind f)
  unfold Wig.fenc
  rw [if_pos h, hf, Option.getD_some, List.length_append, Wig.venc_length]
  omega
set_option maxHeartbeats 2000000 in
theorem few_any (e : FV) (w : World) : Calls Tryd.prog 6 #[.agg (farr e.f e.D e.dc e.S e.sc)] w fun x w' => x = .returned (.bool (Wig.few e.f)) ∧ Below w.heap.size w w' := by
  obtain ⟨f, D, dc, S, sc⟩ := e
  unfold farr
  obtain ⟨n, hn⟩ : ∃ n, n = f.spans.length := ⟨_, rfl⟩
  obtain ⟨m, hm⟩ : ∃ m, m = f.data.length := ⟨_, rfl⟩
  have hb : Wig.few f = (decide (n ≤ 100) && decide (m ≤ 2000)) := by rw [hn, hm]; rfl
  simp only []
  rw [hb, ← hn, ← hm]
  have B := Lib.hid (Below.refl w.heap.size w)
  clear hb hn hm
  go_enter Tryd.func6, Tryd.ntmps6
  by_cases h1 : n ≤ 100
  · have t1 : decide ((n : Int) ≤ 100) = true := decide_eq_true (by omega)
    have t1' : decide (n ≤ 100) = true := decide_eq_true h1
    by_cases h2 : m ≤ 2000
    · have t2 : decide ((m : Int) ≤ 2000) = true := decide_eq_true (by omega)
      have t2' : decide (m ≤ 2000) = true := decide_eq_true h2
      rw [t1', t2']
      clear h1 h2
      go_wp2_with fail
      go_ret
      refine ⟨rfl, ?_⟩
      exact (Below.refl _ _).alloc (Nat.le_refl _) _
    · have t2 : decide ((m : Int) ≤ 2000) = false := decide_eq_false (by omega)
      have t2' : decide (m ≤ 2000) = false := decide_eq_false h2
      rw [t1', t2']
      clear h1 h2
      go_wp2_with fail
      go_ret
      refine ⟨rfl, ?_⟩
      exact (Below.refl _ _).alloc (Nat.le_refl _) _
  · have t1 : decide ((n : Int) ≤ 100) = false := decide_eq_false (by omega)
    have t1' : decide (n ≤ 100) = false := decide_eq_false h1
    rw [t1', Bool.false_and]
    clear h1
    go_wp2_with fail
    go_ret
    refine ⟨rfl, ?_⟩
    exact (Below.refl _ _).alloc (Nat.le_refl _) _
end Go.Proofs.YtogioabdijgglaaDoor
