/-
  What the law's own 'mirrored' returns: the samples with their values turned about, in memory of the call's own. Conditions: the list reads as samples of 64 bits, at most four hundred and two of them.
-/
import Derived.Test.YtmfldjdkmfpdkaaFiltW
import Derived.Deep.RegionHeld3
import Derived.Deep.DrawnRows
import Derived.Laws.Bits64
namespace Wig
def turned (p : Smp) : Smp := (p.1, 18446744073709551615 - p.2)
theorem turned_fits {ss : List Smp} (h : Fits ss) : Fits (ss.map turned) := by
  intro p hp
  obtain ⟨q, hq, rfl⟩ := List.mem_map.1 hp
  have := h q hq
  exact ⟨this.1, by simp only [turned]; omega⟩
theorem turned_twice {p : Smp} (h : p.2 < 18446744073709551616) : turned (turned p) = p := by
  obtain ⟨a, b⟩ := p
  simp only [turned, Prod.mk.injEq, true_and] at h ⊢
  omega
end Wig
namespace Go.Proofs.Ytmfldjdkmfpdkaa
open Go.ChangeShapes Go.WideShapes Go.ChangeAt Go.RowKit Go.Deep
set_option linter.unusedVariables false
attribute [local go_sem ↓] Go.wp_at_zero Go.wp_at_succ

theorem u64_not (a : Nat) (ha : a < 18446744073709551616) : bits .xor .u64 18446744073709551615 (a : Int) = ((18446744073709551615 - a : Nat) : Int) := by
  have h2 : (BitVec.ofInt 64 (a : Int)).toNat = a := by
    rw [BitVec.ofInt_natCast, BitVec.toNat_ofNat]; exact Nat.mod_eq_of_lt (by omega)
  show IntKind.u64.wrap ((BitVec.ofInt 64 18446744073709551615 ^^^ BitVec.ofInt 64 (a : Int)).toNat : Int) = _
  have h1 : BitVec.ofInt 64 18446744073709551615 = BitVec.allOnes 64 := by decide
  rw [h1, BitVec.allOnes_xor, BitVec.toNat_not, h2, IntKind.wrap_u64]
  omega

theorem grown_after {base : Nat} {wr w3 : World} {o : Obj} {v : Value} (hg : ((wr.alloc o).drew).grownBy w3 v.ownBlock) (hB : base ≤ wr.heap.size) (ho : ∀ q, v.ownBlock = some q → base ≤ q) : Below base wr w3 :=
  ((Below.refl base wr).alloc hB o).drew.grown hg (by simp; omega) ho

set_option maxHeartbeats 2000000 in
set_option maxRecDepth 100000 in
theorem mirrored_any (ss : List Wig.Smp) (A : Option Addr) (c : Nat) (w : World) (hlen : ss.length ≤ 402) (hf : Wig.Fits ss) (hr : Rd w w.heap.size A ss) :
    Calls Try.prog 17 #[.slice A ss.length c] w fun e w' =>
      ∃ v, e = .returned v ∧ Own w' w.heap.size v (ss.map Wig.turned) ∧ Below w.heap.size w w' := by
  obtain ⟨i0, hi, hz0, hz1, hz2⟩ := info_parts samp_info
  obtain ⟨n, hn⟩ : ∃ n, n = ss.length := ⟨_, rfl⟩
  rw [← hn] at hlen ⊢
  have HR := Lib.hid hr
  have HF := Lib.hid hf
  have HN := Lib.hid hn
  clear hr hf hn
  go_enter Try.func17, Try.ntmps17
  go_wp2_with fail
  go_loopw [3, 4] (fun v i wr => ∃ k : Nat, k ≤ n ∧ i = .int .i64 k ∧ Own wr w.heap.size v ((ss.take k).map Wig.turned) ∧ Below w.heap.size w wr)
    (fun _ i _ => n - (intOf i).toNat)
  case atStart => exact ⟨0, Nat.zero_le _, rfl, World.ownsRow_nil _ _ _ _, Below.refl _ _⟩
  case round =>
    obtain ⟨k, hk, rfl, hown, hbel⟩ := hrel
    have KO := Lib.hid hown
    have KB := Lib.hid hbel
    clear hown hbel
    by_cases hlt : k < n
    · obtain ⟨p, hp⟩ : ∃ p, ss[k]? = some p := ⟨_, List.getElem?_eq_getElem (by have := HN.out; omega)⟩
      obtain ⟨b, off, rfl, hb, hc0, hc1⟩ := (HR.out.below KB.out).at_ hp
      have HP := Lib.hid hp
      have hpf := HF.out p (List.mem_of_getElem? hp)
      obtain ⟨p0, p1⟩ := p
      clear hp
      obtain ⟨q1, hq1⟩ : ∃ q1, q1 = 18446744073709551615 - p1 := ⟨_, rfl⟩
      have hx : bits .xor .u64 18446744073709551615 (p1 : Int) = (q1 : Int) := by rw [u64_not p1 hpf.2, hq1]
      have hx2 : bits .xor .u64 (if IntKind.u64.signed = true then -1 else IntKind.u64.max) (p1 : Int) = (q1 : Int) := hx
      have HT := Lib.hid (show Wig.turned (p0, p1) = (p0, q1) by simp only [Wig.turned, hq1])
      have hgl : ((ss.take k).map Wig.turned).length ≤ k := by rw [List.length_map]; exact List.length_take_le _ _
      have HGL := Lib.hid hgl
      have i1 : (0 : Int) ≤ (k : Int) := by omega
      have i2 : (k : Int) < (n : Int) := by omega
      have HSZ := Lib.hid KB.out.size
      have lb : b < wr.heap.size := by have := HSZ.out; omega
      clear hgl hq1 hpf
      go_wp2_with fail
      go_region_held3 (fun w' => w'.cell? ⟨b, off + k * 2, none⟩ = some (.int .u64 (p0 : Int)) ∧ w'.cell? ⟨b, off + k * 2 + 1, none⟩ = some (.int .u64 (p1 : Int)))
        (first
          | go_keep
          | exact ⟨(KW.out.cell hb).trans hc0, (KW.out.cell hb).trans hc1⟩)
        ((refine step_append_lies _ (by rfl) _ _ _ (by rfl) w.heap.size 25 i0 _ 2 16 Try.underlying22 hi hz0 hz1 hz2 rfl (by omega) _ _ _ (by rfl) (World.ownsRow.alloc (w := wr) KO.out _) ⟨wr.heap.size, 0, none⟩ 1 1 (two (p0, q1)) (by rfl) (by rfl) (cell_two_new wr (p0, q1)) (one_two (p0, q1)) (by omega) (by have := HGL.out; unfold maxLen; omega) (by have := HGL.out; omega) (by have := HSZ.out; simp; omega) (wr.heap.size + 1) (by simp) ?_; intro gg cap w3 hown1 hgrow hat hlt2; have KW := Lib.hid (grown_after hgrow HSZ.out (fun q hq => (KO.out.block q hq).1))))
      have R1 := Lib.hid hown1
      have R2 := Lib.hid (KB.out.trans KW.out)
      clear hown1 hgrow hat hlt2
      go_wp2_with fail
      go_roundw
      case rel =>
        refine ⟨k + 1, by omega, rfl, ?_, R2.out⟩
        have e : (ss.take (k + 1)).map Wig.turned = (ss.take k).map Wig.turned ++ [(p0, q1)] := by
          rw [Wig.take_more ss k _ HP.out, List.map_append]
          simp [HT.out]
        unfold Own
        have e2 : min k ss.length = ((ss.take k).map Wig.turned).length := by simp
        rw [e, flat_app, flat_one, List.length_append, e2]
        exact R1.out
      case measure => simp [intOf]; omega
    · have hkn : k = n := by omega
      subst hkn
      go_wp2_with fail
      go_ret
      have hall : ss.take k = ss := by rw [HN.out]; exact List.take_length
      rw [hall] at KO
      exact ⟨_, rfl, KO.out, KB.out⟩
end Go.Proofs.Ytmfldjdkmfpdkaa
