/-
  The document's numbers(l): the bytes of numbers behind each other. Condition: each is below 2^62.
-/
import Derived.Test.YtogioabdijgglaaDoorRld
import Derived.Test.YtogioabdijgglaaDoorVarD
import Derived.Test.YtogioabdijgglaaDoorApp
import Derived.Test.YtogioabdijgglaaDoorLay
import Derived.Deep.DeepCutAuto
namespace Go.Proofs.YtogioabdijgglaaDoor
open Go.ChangeShapes Go.WideShapes Go.ChangeAt Go.RowKit Go.Deep
set_option linter.unusedVariables false
def RnmRel (vs : List Nat) (w : World) (vo vi : Value) (wr : World) : Prop :=
  ∃ k, k ≤ vs.length ∧ vi = .int .i64 ((k : Nat) : Int) ∧ OwnN .u8 5 wr w.heap.size vo (Wig.nums (vs.take k)) ∧ Below w.heap.size w wr
set_option maxHeartbeats 2000000 in
theorem rnumbers_any (A : Option Addr) (n c : Nat) (vs : List Nat) (w : World) (hn : n = vs.length) (h5 : n ≤ 100) (hv : ∀ x ∈ vs, x < 4611686018427387904) (hr : RdN .u64 w w.heap.size A vs) :
    Calls Tryd.prog 21 #[.slice A n c] w fun e w' => ∃ v, e = .returned v ∧ OwnN .u8 5 w' w.heap.size v (Wig.nums vs) ∧ Below w.heap.size w w' := by
  have HN := Lib.hid hn
  have HR := Lib.hid hr
  have HV := Lib.hid hv
  have A0 := Lib.hid (show RnmRel vs w (.slice none 0 0) (.int .i64 0) w from ⟨0, Nat.zero_le _, rfl, World.ownsRow_nil _ _ _ _, Below.refl _ _⟩)
  clear hn hr hv
  go_enter Tryd.func21, Tryd.ntmps21
  go_wp2_with fail
  go_loopw [3, 4] (fun vo vi wr => RnmRel vs w vo vi wr) (fun _ vi _ => n - (intOf vi).toNat)
  case atStart => exact A0.out
  case round =>
    obtain ⟨k, hk, rfl, hown, hbel⟩ := hrel
    rw [← HN.out] at hk
    have KO := Lib.hid hown
    have KB := Lib.hid hbel
    clear A0 hown
    have g1 : IntKind.i64.wrap ((k : Int) + 1) = ((k : Int) + 1) := by rw [IntKind.wrap_i64]; omega
    by_cases hlt : k < n
    · have t1 : decide ((k : Int) < (n : Int)) = true := decide_eq_true (by omega)
      have t1' : decide (k < n) = true := decide_eq_true hlt
      obtain ⟨x, hx⟩ : ∃ x, vs[k]? = some x := ⟨_, List.getElem?_eq_getElem (by have := HN.out; omega)⟩
      have x62 := HV.out x (List.mem_of_getElem? hx)
      obtain ⟨ab, ao, rfl, _, cx⟩ := (HR.out.below hbel).at_ hx
      have i0' : (0 : Int) ≤ (k : Int) := by omega
      have i1' : (k : Int) < (n : Int) := by omega
      have C := Lib.hid (rput_any x wr (by omega))
      unfold PutsAt at C
      have E := Lib.hid (show (vs.take (k + 1)) = vs.take k ++ [x] from by
        have hkl : k < vs.length := by have := HN.out; omega
        rw [List.take_add_one, hx]; rfl)
      have M := Lib.hid hlt
      have L8 := Lib.hid (show (Wig.venc x).length ≤ 8 ∧ (Wig.nums (vs.take k)).length ≤ 8 * k from ⟨by rw [Wig.venc_length]; exact Wig.vsize_le x, by
        have := Wig.nums_le (vs.take k)
        rw [List.length_take] at this
        omega⟩)
      have HM := Lib.hid (show k ≤ 100 by omega)
      clear hx x62 hbel hk hlt
      go_wp2_with fail
      refine (C.out).mono ?_
      rintro e w1 ⟨A1, n1, c1, rfl, hn1, hc1, hm1, hr1, -, hb1⟩
      have O1 := Lib.hid (KO.out.below hb1 (Nat.le_refl _))
      have B1 := Lib.hid (KB.out.trans (hb1.mono KB.out.size))
      have S1 := Lib.hid B1.out.size
      have X1 := Lib.hid (And.intro hn1 hr1)
      clear hn1 hc1 hm1 hr1 hb1 C
      go_wp2_with (at_builtin; refine wpList_append_bytes rfl _ _ rfl w.heap.size _ _ (Wig.venc x) rfl O1.out w1.heap.size A1 c1 n1 X1.out.1.symm rfl X1.out.2 (by have := L8.out; have := X1.out.1; have := HM.out; omega) S1.out ?_)
      intro v2 w2 hown2 hg2
      have hb2 : Below w.heap.size w w2 := B1.out.grown hg2 S1.out (fun q hq => (O1.out.block q hq).1)
      have R := Lib.hid (show RnmRel vs w v2 (.int .i64 ((k : Int) + 1)) w2 from ⟨k + 1, by rw [← HN.out]; exact M.out, by simp, by rw [E.out, Wig.nums_app, Wig.nums_cons, Wig.nums_nil, List.append_nil]; exact hown2, hb2⟩)
      clear hown2 hg2 hb2
      go_wp2_with fail
      go_roundw
      case rel => exact R.out
      case measure => have := M.out; simp [intOf]; omega
    · have t1 : decide ((k : Int) < (n : Int)) = false := decide_eq_false (by omega)
      have t1' : decide (k < n) = false := decide_eq_false hlt
      have O := Lib.hid (show OwnN .u8 5 wr w.heap.size u3 (Wig.nums vs) from by
        have e : vs.take k = vs := List.take_of_length_le (by have := HN.out; omega)
        have := KO.out
        rwa [e] at this)
      clear hbel hk hlt KO
      go_wp2_with fail
      go_ret
      exact ⟨_, rfl, O.out, KB.out⟩
end Go.Proofs.YtogioabdijgglaaDoor
