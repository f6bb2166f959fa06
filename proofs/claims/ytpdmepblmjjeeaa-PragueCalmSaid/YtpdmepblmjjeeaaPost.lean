/-
  The last step from a walk to a row where the walk tells of memory that nothing below the heap's size has turned. No condition.
-/
import Derived.Test.YtpdmepblmjjeeaaRows
import Derived.WalkKit
import Derived.ProofKit
import Derived.OpenShut
import Derived.Below
import Derived.ChangeSame
import Derived.Lib.Hide
import Derived.Deep.QuietTactic
namespace Go.Proofs.Ytpdmepblmjjeeaa
open Go.RowKit Go.WideShapes Go.ChangeShapes

/-- A law's call has returned v, and below the heap's size of its start all blocks are as they were: then the row's 'post' holds, if results and arguments read as the specification says. -/
theorem law_post {H : Type} {enc : TypeId × Value → H} {P : Program} {f : Func} {s : ChangeSpec} {apart fresh hands again : Bool} {W W' : World} {vs : Array Value} {v : Value}
    {ds gs : List (DataW H)} {met pa pv : List MemPlace} (whole : DataW.Whole enc P f.params.toList s.vars apart W vs.toList ds gs met)
    (res : ∀ (b : Nat) (ok : Nat → Bool) (hd : Bool), DataW.TrodAll enc P W' b ok hd f.resultTypes.toList (v.resultList f.resultTypes.size) (s.fn H (ds ++ gs)).results [])
    (inp : ∀ ok : Nat → Bool, (∀ p ∈ met, ok p.block = true) → DataW.TrodAll enc P W' 0 ok true f.params.toList vs.toList (s.fn H (ds ++ gs)).args pa)
    (glob : ∀ ok : Nat → Bool, (∀ p ∈ met, ok p.block = true) → DataW.TrodVars enc P W' ok s.vars (s.fn H (ds ++ gs)).vars pv)
    (split : met = pa ++ pv) (kept : Below W.heap.size W W')
    (wide : ∀ (j : Nat) (t : TypeId) (r : Value), f.resultTypes[j]? = some t → (v.resultList f.resultTypes.size)[j]? = some r → Value.okWide P W' .any 0 t r) :
    s.post enc P f apart fresh hands again W vs v W' := by
  subst split
  have low : ∀ p ∈ pa ++ pv, p.block < W.heap.size := fun p => whole.lt p
  have old : ∀ p ∈ pa ++ pv, (fun b => decide (b < W.heap.size)) p.block = true := fun p h => decide_eq_true (low p h)
  have anew : DataW.Whole enc P (f.resultTypes.toList ++ f.params.toList) s.vars apart W' (v.resultList f.resultTypes.size ++ vs.toList) ((s.fn H (ds ++ gs)).results ++ (s.fn H (ds ++ gs)).args) (s.fn H (ds ++ gs)).vars (pa ++ pv) := by
    obtain ⟨_, _, _, _, _, thawed, once⟩ := whole
    exact ⟨pa, pv, trodAll_append (inp _ (fun _ _ => rfl)) (res _ _ _), glob _ (fun _ _ => rfl), rfl, fun b off h => (kept.frozen (p := ⟨b, off, none⟩) (low _ h)).trans (thawed b off h), once⟩
  exact ⟨ds, gs, pa ++ pv, [], pa, pv, whole, res _ _ _, inp _ old, glob _ old, World.keptBut_mono (fun p h => ⟨h, .inr (List.mem_append.1 h)⟩) (kept.frame (· ∈ pa ++ pv)), fun _ => ⟨wide, _, _, _, anew, fun _ h _ => h⟩⟩

theorem own : ownKnob Try.prog.godebug = none := by kernel_rfl
theorem nat_of_u64 {a : Int} (h : (Lit.int .u64 a).wf = true) : ∃ n : Nat, a = (n : Int) ∧ n < 18446744073709551616 := by
  have hx : 0 ≤ a ∧ a ≤ 18446744073709551615 := by simpa [Lit.wf, IntKind.min, IntKind.max, IntKind.signed, IntKind.bits] using h
  exact ⟨a.toNat, by omega, by omega⟩
theorem nat_of_u32 {a : Int} (h : (Lit.int .u32 a).wf = true) : ∃ n : Nat, a = (n : Int) ∧ n < 4294967296 := by
  have hx : 0 ≤ a ∧ a ≤ 4294967295 := by simpa [Lit.wf, IntKind.min, IntKind.max, IntKind.signed, IntKind.bits] using h
  exact ⟨a.toNat, by omega, by omega⟩
theorem below_trans' {a b c : World} (h : Below a.heap.size a b) (k : Below b.heap.size b c) : Below a.heap.size a c := h.trans (k.mono h.size)
theorem below_drewN' {B : Nat} {a w : World} (h : Below B a w) (n : Nat) : Below B a (w.drewN n) := ⟨h.os, h.tape, h.output, h.size, h.block⟩
end Go.Proofs.Ytpdmepblmjjeeaa
