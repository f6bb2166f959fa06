/-
  What the document's answers of layer 2 (push, PushMax, PushMin, Same) return. Conditions: the lists read as samples of 64 bits, at most four hundred and two of them.
-/
import Derived.Test.YtjojnbeflongkaaDoorFlC
namespace Go.Proofs.YtjojnbeflongkaaDoor
open Go.ChangeShapes Go.WideShapes Go.ChangeAt Go.RowKit Go.Deep
set_option linter.unusedVariables false

set_option maxHeartbeats 4000000 in
set_option maxRecDepth 1000000 in
theorem rpush_any (great : Bool) (win s0 s1 : Nat) (ss : List Wig.Smp) (A : Option Addr) (c : Nat) (w : World) (hlen : ss.length ≤ 400) (hf : Wig.Fits ss) (hr : Rd w w.heap.size A ss)
    (hw : win < 18446744073709551616) (hs0 : s0 < 18446744073709551616) (hs1 : s1 < 18446744073709551616) :
    Calls Tryd.prog 46 #[.slice A ss.length c, .int .u64 (win : Int), .agg #[.int .u64 (s0 : Int), .int .u64 (s1 : Int)], .bool great] w fun e w' =>
      ∃ v, e = .returned v ∧ Own w' w.heap.size v (Wig.pushed great win (s0, s1) ss) ∧ Below w.heap.size w w' := by
  obtain ⟨i0, hi, hz0, hz1, hz2⟩ := info_parts samp_info
  obtain ⟨n, hn⟩ : ∃ n, n = ss.length := ⟨_, rfl⟩
  obtain ⟨w1, hw1⟩ : ∃ w1, w1 = w.alloc (.cells #[.int .u64 (s0 : Int), .int .u64 (s1 : Int)] 56) := ⟨_, rfl⟩
  have hsz : w1.heap.size = w.heap.size + 1 := by rw [hw1]; simp
  have hB1 : Below w.heap.size w w1 := by rw [hw1]; exact (Below.refl _ _).alloc (Nat.le_refl _) _
  have k0 : w1.cell? ⟨w.heap.size, 0, none⟩ = some (.int .u64 (s0 : Int)) := by rw [hw1, World.cell?_alloc_at _ _ _ _ rfl]; rfl
  have k1 : w1.cell? ⟨w.heap.size, 1, none⟩ = some (.int .u64 (s1 : Int)) := by rw [hw1, World.cell?_alloc_at _ _ _ _ rfl]; rfl
  have HR := Lib.hid ((hr.below hB1).wide (B' := w1.heap.size) (by omega))
  have HS := Lib.hid hsz
  have HB1 := Lib.hid hB1
  have K0 := Lib.hid k0
  have K1 := Lib.hid k1
  have HF := Lib.hid hf
  have HN := Lib.hid hn
  have HW := Lib.hid hw
  have HW1 := Lib.hid hw1
  rw [← hn] at hlen ⊢
  clear hr hsz hB1 k0 k1 hf hn hw hs0 hs1
  go_enter Tryd.func46, Tryd.ntmps46
  go_wp2_with fail
  rw [← hw1]
  clear hw1
  go_loopw [9, 10] (fun v i wr => ∃ k : Nat, k ≤ n ∧ i = .int .i64 k ∧ Own wr w1.heap.size v (Wig.kept great win (s0, s1) (ss.take k)) ∧ Below w1.heap.size w1 wr)
    (fun _ i _ => n - (intOf i).toNat)
  case atStart => exact ⟨0, Nat.zero_le _, rfl, World.ownsRow_nil _ _ _ _, Below.refl _ _⟩
  case round =>
    obtain ⟨k, hk, rfl, hown, hbel⟩ := hrel
    have KO := Lib.hid hown
    have KB := Lib.hid hbel
    clear hown hbel
    by_cases hlt : k < n
    · obtain ⟨p, hp⟩ : ∃ p, ss[k]? = some p := ⟨_, List.getElem?_eq_getElem (by have := HN.out; omega)⟩
      obtain ⟨b, off, rfl, hb, hc0, hc1⟩ := (HR.out.below KB.out).at_ hp
      have HP := Lib.hid hp
      have hpf := HF.out p (List.mem_of_getElem? hp)
      obtain ⟨p0, p1⟩ := p
      clear hp
      obtain ⟨a, ha⟩ : ∃ a, a = Wig.fadd p0 win := ⟨_, rfl⟩
      have C1 := Lib.hid (fun w => radd_any p0 win w hpf.1 HW.out)
      rw [← ha] at C1
      have hst : Wig.stays great win (s0, s1) (p0, p1) = (decide (s0 ≤ a) && Wig.better great p1 s1) := by rw [ha]; rfl
      have HST := Lib.hid hst
      clear hst ha hpf
      have q0 : wr.cell? ⟨w.heap.size, 0, none⟩ = some (.int .u64 (s0 : Int)) := (KB.out.cell (by have := HS.out; simp; omega)).trans K0.out
      have q1 : wr.cell? ⟨w.heap.size, 1, none⟩ = some (.int .u64 (s1 : Int)) := (KB.out.cell (by have := HS.out; simp; omega)).trans K1.out
      have hgl : (Wig.kept great win (s0, s1) (ss.take k)).length ≤ k := Nat.le_trans (Wig.kept_le _ _ _ _) (List.length_take_le _ _)
      have HGL := Lib.hid hgl
      clear hgl
      have i1 : (0 : Int) ≤ (k : Int) := by omega
      have i2 : (k : Int) < (n : Int) := by omega
      have R0 : ∀ nq : Nat, Below w1.heap.size w1 (wr.drewN nq) := fun nq => below_drewN' KB.out nq
      have HR0 := Lib.hid R0
      have KO0 : ∀ nq : Nat, Own (wr.drewN nq) w1.heap.size u9 (Wig.kept great win (s0, s1) (ss.take k)) := fun nq => KO.out
      have HO0 := Lib.hid KO0
      clear R0 KO0
      cases great
      · by_cases hx : s0 ≤ a
        · have dx : decide (s0 ≤ a) = true := decide_eq_true hx
          by_cases hy : p1 < s1
          · have dy : decide (p1 < s1) = true := decide_eq_true hy
            have hg : Wig.stays false win (s0, s1) (p0, p1) = true := by rw [HST.out, dx]; simp [Wig.better, hy]
            have HG := Lib.hid hg
            clear hg
            go_wp2_with fail
            go_quiet ((go_at_call 29; exact quiet_eq (C1.out _)))
            go_wp2_with fail
            go_quiet (fail)
            go_wp2_with (at_builtin; refine wpList_append_own _ rfl _ _ 23 rfl w1.heap.size 56 i0 (.agg #[.int .u64 0, .int .u64 0]) 2 16 Tryd.underlying23 hi hz0 hz1 hz2 rfl (by decide) _ _ _ rfl (World.ownsRow.alloc (w := wr) KO.out _) ⟨wr.heap.size, 0, none⟩ 1 1 (two (p0, p1)) rfl rfl ?c1 ?c2 ?c3 ?c4 ?c5 ?_)
            case c1 => exact cell_two_new wr (p0, p1)
            case c2 => exact one_two (p0, p1)
            case c3 => have := HGL.out; unfold maxLen; omega
            case c4 => have := HGL.out; omega
            case c5 => have := KB.out.size; simp; omega
            intro v' w3 hown' hgrow _
            have R1 := Lib.hid hown'
            have R2 := Lib.hid ((below_drewN' (KB.out.alloc KB.out.size (.cells #[.int .u64 (p0 : Int), .int .u64 (p1 : Int)] 56)) _).grown hgrow (by have := KB.out.size; simp; omega) (fun q hq => (KO.out.block q hq).1))
            clear hown' hgrow
            go_wp2_with fail
            go_roundw
            case rel =>
              refine ⟨k + 1, by omega, rfl, ?_, R2.out⟩
              unfold Own
              rw [Wig.kept_hit HP.out HG.out, flat_app, flat_one, List.length_append]
              exact R1.out
            case measure => simp [intOf]; omega
          · have dy : decide (p1 < s1) = false := decide_eq_false hy
            have hg : Wig.stays false win (s0, s1) (p0, p1) = false := by rw [HST.out, dx]; simp [Wig.better, hy]
            have HG := Lib.hid hg
            clear hg
            go_wp2_with fail
            go_quiet ((go_at_call 29; exact quiet_eq (C1.out _)))
            go_wp2_with fail
            go_quiet (fail)
            go_wp2_with fail
            go_roundw
            case rel =>
              refine ⟨k + 1, by omega, rfl, ?_, HR0.out _⟩
              rw [Wig.kept_miss HP.out HG.out]
              exact HO0.out _
            case measure => simp [intOf]; omega
        · have dx : decide (s0 ≤ a) = false := decide_eq_false hx
          have hg : Wig.stays false win (s0, s1) (p0, p1) = false := by rw [HST.out, dx]; simp [Wig.better]
          have HG := Lib.hid hg
          clear hg
          go_wp2_with fail
          go_quiet ((go_at_call 29; exact quiet_eq (C1.out _)))
          go_wp2_with fail
          go_quiet (fail)
          go_wp2_with fail
          go_roundw
          case rel =>
            refine ⟨k + 1, by omega, rfl, ?_, HR0.out _⟩
            rw [Wig.kept_miss HP.out HG.out]
            exact HO0.out _
          case measure => simp [intOf]; omega
      · by_cases hx : s0 ≤ a
        · have dx : decide (s0 ≤ a) = true := decide_eq_true hx
          by_cases hy : s1 < p1
          · have dy : decide (s1 < p1) = true := decide_eq_true hy
            have hg : Wig.stays true win (s0, s1) (p0, p1) = true := by rw [HST.out, dx]; simp [Wig.better, hy]
            have HG := Lib.hid hg
            clear hg
            go_wp2_with fail
            go_quiet ((go_at_call 29; exact quiet_eq (C1.out _)))
            go_wp2_with fail
            go_quiet (fail)
            go_wp2_with fail
            go_quiet (fail)
            go_wp2_with (at_builtin; refine wpList_append_own _ rfl _ _ 23 rfl w1.heap.size 56 i0 (.agg #[.int .u64 0, .int .u64 0]) 2 16 Tryd.underlying23 hi hz0 hz1 hz2 rfl (by decide) _ _ _ rfl (World.ownsRow.alloc (w := wr) KO.out _) ⟨wr.heap.size, 0, none⟩ 1 1 (two (p0, p1)) rfl rfl ?c1 ?c2 ?c3 ?c4 ?c5 ?_)
            case c1 => exact cell_two_new wr (p0, p1)
            case c2 => exact one_two (p0, p1)
            case c3 => have := HGL.out; unfold maxLen; omega
            case c4 => have := HGL.out; omega
            case c5 => have := KB.out.size; simp; omega
            intro v' w3 hown' hgrow _
            have R1 := Lib.hid hown'
            have R2 := Lib.hid ((below_drewN' (KB.out.alloc KB.out.size (.cells #[.int .u64 (p0 : Int), .int .u64 (p1 : Int)] 56)) _).grown hgrow (by have := KB.out.size; simp; omega) (fun q hq => (KO.out.block q hq).1))
            clear hown' hgrow
            go_wp2_with fail
            go_roundw
            case rel =>
              refine ⟨k + 1, by omega, rfl, ?_, R2.out⟩
              unfold Own
              rw [Wig.kept_hit HP.out HG.out, flat_app, flat_one, List.length_append]
              exact R1.out
            case measure => simp [intOf]; omega
          · have dy : decide (s1 < p1) = false := decide_eq_false hy
            have hg : Wig.stays true win (s0, s1) (p0, p1) = false := by rw [HST.out, dx]; simp [Wig.better, hy]
            have HG := Lib.hid hg
            clear hg
            go_wp2_with fail
            go_quiet ((go_at_call 29; exact quiet_eq (C1.out _)))
            go_wp2_with fail
            go_quiet (fail)
            go_wp2_with fail
            go_quiet (fail)
            go_wp2_with fail
            go_roundw
            case rel =>
              refine ⟨k + 1, by omega, rfl, ?_, HR0.out _⟩
              rw [Wig.kept_miss HP.out HG.out]
              exact HO0.out _
            case measure => simp [intOf]; omega
        · have dx : decide (s0 ≤ a) = false := decide_eq_false hx
          have hg : Wig.stays true win (s0, s1) (p0, p1) = false := by rw [HST.out, dx]; simp [Wig.better]
          have HG := Lib.hid hg
          clear hg
          go_wp2_with fail
          go_quiet ((go_at_call 29; exact quiet_eq (C1.out _)))
          go_wp2_with fail
          go_quiet (fail)
          go_wp2_with fail
          go_quiet (fail)
          go_wp2_with fail
          go_roundw
          case rel =>
            refine ⟨k + 1, by omega, rfl, ?_, HR0.out _⟩
            rw [Wig.kept_miss HP.out HG.out]
            exact HO0.out _
          case measure => simp [intOf]; omega
    · have hkn : k = n := by omega
      subst hkn
      have hall : ss.take k = ss := by rw [HN.out]; exact List.take_length
      rw [hall] at KO
      have q0 : wr.cell? ⟨w.heap.size, 0, none⟩ = some (.int .u64 (s0 : Int)) := (KB.out.cell (by have := HS.out; simp; omega)).trans K0.out
      have q1 : wr.cell? ⟨w.heap.size, 1, none⟩ = some (.int .u64 (s1 : Int)) := (KB.out.cell (by have := HS.out; simp; omega)).trans K1.out
      have hkl := Wig.kept_le great win (s0, s1) ss
      rw [← HN.out] at hkl
      have HK := Lib.hid hkl
      clear hkl
      go_wp2_with (at_builtin; refine wpList_append_own _ rfl _ _ 23 rfl w1.heap.size 56 i0 (.agg #[.int .u64 0, .int .u64 0]) 2 16 Tryd.underlying23 hi hz0 hz1 hz2 rfl (by decide) _ _ _ rfl (World.ownsRow.alloc (w := wr) KO.out _) ⟨wr.heap.size, 0, none⟩ 1 1 (two (s0, s1)) rfl rfl ?c1 ?c2 ?c3 ?c4 ?c5 ?_)
      case c1 => exact cell_two_new wr (s0, s1)
      case c2 => exact one_two (s0, s1)
      case c3 => have := HK.out; unfold maxLen; omega
      case c4 => have := HK.out; omega
      case c5 => have := KB.out.size; simp; omega
      intro v' w3 hown' hgrow _
      have R1 := Lib.hid hown'
      have R2 := Lib.hid ((KB.out.alloc KB.out.size (.cells #[.int .u64 (s0 : Int), .int .u64 (s1 : Int)] 56)).grown hgrow (by have := KB.out.size; simp; omega) (fun q hq => (KO.out.block q hq).1))
      clear hown' hgrow
      go_wp2_with fail
      go_ret
      refine ⟨v', rfl, ?_, HB1.out.trans (R2.out.mono (by have := HS.out; omega))⟩
      refine Own.base_le (base := w1.heap.size) ?_ (by have := HS.out; omega)
      unfold Own Wig.pushed
      rw [flat_app, flat_one, List.length_append]
      exact R1.out
end Go.Proofs.YtjojnbeflongkaaDoor
