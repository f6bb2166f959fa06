/-
  A fine frame's bytes are its numbers' and its data. No condition.
-/
import Derived.Test.YtogioabdijgglaaDoorFrmN
namespace Wig
set_option linter.unusedSimpArgs false
/-- The numbers that stand for a field. -/
def fnums (f : Fr) (k : Nat) : List Nat := if k = 6 then spNums f.spans else if k = 7 then [f.data.length] else [f.get k]
/-- A frame's numbers. -/
def rlaid (f : Fr) : List Nat := wkind f :: ((flds (knat f.kind)).getD []).flatMap (fnums f)
theorem nums_nil : nums [] = [] := rfl
theorem fenc_laid {f : Fr} (h : fine f = true) : fenc f = nums (rlaid f) ++ f.data := by
  obtain ⟨has, hf, h1, h2, h3⟩ := fine_parts h
  have hd : has.contains 7 = false → f.data = [] := by
    intro hc
    rw [hc] at h3
    have : f.data = [] ∧ f.fin = false := by simpa [dataFit] using h3
    exact this.1
  unfold fenc rlaid
  rw [if_pos h, hf, Option.getD_some, nums_cons, List.append_assoc]
  congr 1
  rcases flds_cases hf with ⟨_, rfl⟩ | ⟨_, rfl⟩ | ⟨_, rfl⟩ | ⟨_, rfl⟩ | ⟨_, rfl⟩ | ⟨_, rfl⟩ | ⟨_, rfl⟩ | ⟨_, rfl⟩ | ⟨_, rfl⟩ | ⟨_, rfl⟩ | ⟨_, rfl⟩ | ⟨_, rfl⟩ | ⟨_, rfl⟩ | ⟨_, rfl⟩ | ⟨_, rfl⟩
  case inr.inr.inr.inr.inr.inr.inr.inl => simp [layF, fnums, nums_cons, nums_nil]
  all_goals
    rw [hd rfl]
    simp [layF, fnums, nums_app, nums_cons, nums_nil]
end Wig
