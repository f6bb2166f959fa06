/-
  What the document's spans(l) of layer 5 returns. No condition.
-/
import Derived.Test.YtogioabdijgglaaDoorFrB
namespace Go.Proofs.YtogioabdijgglaaDoor
open Go.ChangeShapes Go.WideShapes Go.ChangeAt Go.RowKit Go.Deep
set_option linter.unusedVariables false

set_option maxHeartbeats 4000000 in
theorem rspans_any (A : Option Addr) (n c : Nat) (l : List Wig.Spn) (w : World) (hn : n = l.length) (hm : n ≤ maxLen) (hr : RdS w w.heap.size A l) :
    Calls Tryd.prog 28 #[.slice A n c] w fun e w' => e = .returned (.bool (Wig.spFit l)) ∧ Below w.heap.size w w' := by
  obtain ⟨res, hres⟩ : ∃ res, res = Wig.spFit l := ⟨_, rfl⟩
  rw [← hres]
  unfold Wig.spFit at hres
  rw [← hn] at hres
  by_cases h1 : n < 1
  · rw [decide_eq_false (by omega), Bool.false_and, Bool.false_and] at hres
    have E := Lib.hid hres
    obtain rfl : n = 0 := by omega
    clear hres hr hn hm h1
    go_enter Tryd.func28, Tryd.ntmps28
    go_wp2_with fail
    go_ret
    exact ⟨by rw [E.out]; rfl, Below.refl _ _⟩
  · rw [decide_eq_true (by omega), Bool.true_and] at hres
    have t1 : decide ((n : Int) < 1) = false := decide_eq_false (by omega)
    by_cases h2 : 32 < n
    · rw [decide_eq_false (by omega), Bool.false_and] at hres
      have E := Lib.hid hres
      have t2 : decide ((32 : Int) < (n : Int)) = true := decide_eq_true (by omega)
      clear hres hr hn hm h1 h2
      go_enter Tryd.func28, Tryd.ntmps28
      go_wp2_with fail
      go_ret
      exact ⟨by rw [E.out]; rfl, Below.refl _ _⟩
    · rw [decide_eq_true (by omega), Bool.true_and] at hres
      have E := Lib.hid hres
      have t2 : decide ((32 : Int) < (n : Int)) = false := decide_eq_false (by omega)
      have HN := Lib.hid hn
      have HS := Lib.hid hr
      have H32 := Lib.hid (show n ≤ 32 by omega)
      clear hres hr hn h1 h2 hm
      go_enter Tryd.func28, Tryd.ntmps28
      go_wp2_with fail
      go_loopw [3] (fun i wr => SfRel l w i wr) (fun i _ => n - (intOf i).toNat)
      case atStart => exact ⟨0, Nat.zero_le _, rfl, rfl, Below.refl _ _⟩
      case round =>
        obtain ⟨k, hk, rfl, hok, hbel⟩ := hrel
        rw [← HN.out] at hk
        by_cases hlt : k < n
        · obtain ⟨⟨s0, s1⟩, hs⟩ : ∃ s, l[k]? = some s := ⟨_, List.getElem?_eq_getElem (by have := HN.out; omega)⟩
          obtain ⟨b, off, rfl, hb, hc0, hc1⟩ := (HS.out.below hbel).at_ hs
          simp only [] at hc0 hc1
          have i0 : (0 : Int) ≤ (k : Int) := by omega
          have i1 : (k : Int) < (n : Int) := by omega
          obtain ⟨q, hq⟩ : ∃ q, q = decide (s0 < s1) := ⟨_, rfl⟩
          obtain ⟨q2, hq2⟩ : ∃ q2, q2 = decide (s1 ≤ 4611686018427387904) := ⟨_, rfl⟩
          have hone : Wig.spOne (s0, s1) = (q && q2) := by rw [hq, hq2]; rfl
          have NB := Lib.hid hbel
          cases hqc : q with
          | false =>
            have R : res = false := by
              rw [E.out]
              refine sf_false (k := k + 1) (Bool.eq_false_iff.2 fun hc => ?_)
              have h1 : Wig.spOne (s0, s1) = false := by rw [hone, hqc]; rfl
              cases k with
              | zero => rw [sf_first hs, h1] at hc; cases hc
              | succ j =>
                obtain ⟨p, hp⟩ : ∃ p, l[j]? = some p := ⟨_, List.getElem?_eq_getElem (by have := HN.out; omega)⟩
                rw [sf_next hp hs hok, h1, Bool.and_false] at hc
                cases hc
            have R' := Lib.hid R
            have t3 : decide (s1 ≤ s0) = true := decide_eq_true (by have := of_decide_eq_false (hq.symm.trans hqc); omega)
            clear hok hbel hs hb hq hq2 hone hqc R hlt hk
            go_wp2_with fail
            go_quiet (fail)
            go_wp2_with fail
            go_ret
            exact ⟨by rw [R'.out]; rfl, below_drewN' NB.out _⟩
          | true =>
            have t3 : decide (s1 ≤ s0) = false := decide_eq_false (by have := of_decide_eq_true (hq.symm.trans hqc); omega)
            cases hqc2 : q2 with
            | false =>
              have R : res = false := by
                rw [E.out]
                refine sf_false (k := k + 1) (Bool.eq_false_iff.2 fun hc => ?_)
                have h1 : Wig.spOne (s0, s1) = false := by rw [hone, hqc, hqc2]; rfl
                cases k with
                | zero => rw [sf_first hs, h1] at hc; cases hc
                | succ j =>
                  obtain ⟨p, hp⟩ : ∃ p, l[j]? = some p := ⟨_, List.getElem?_eq_getElem (by have := HN.out; omega)⟩
                  rw [sf_next hp hs hok, h1, Bool.and_false] at hc
                  cases hc
              have R' := Lib.hid R
              have t4 : decide ((4611686018427387904 : Int) < (s1 : Int)) = true := decide_eq_true (by have := of_decide_eq_false (hq2.symm.trans hqc2); omega)
              clear hok hbel hs hb hq hq2 hone hqc hqc2 R hlt hk
              go_wp2_with fail
              go_quiet (fail)
              go_wp2_with fail
              go_ret
              exact ⟨by rw [R'.out]; rfl, below_drewN' NB.out _⟩
            | true =>
              have t4 : decide ((4611686018427387904 : Int) < (s1 : Int)) = false := decide_eq_false (by have := of_decide_eq_true (hq2.symm.trans hqc2); omega)
              have h1 : Wig.spOne (s0, s1) = true := by rw [hone, hqc, hqc2]; rfl
              rcases Nat.eq_zero_or_pos k with hk0 | hk0
              · subst hk0
                have R : ∀ nq : Nat, SfRel l w (.int .i64 ((0 : Int) + 1)) (wr.drewN nq) := fun nq => ⟨1, by have := HN.out; omega, rfl, by rw [sf_first hs, h1], below_drewN' NB.out nq⟩
                have R' := Lib.hid R
                simp only [Nat.zero_mul, Nat.add_zero, Int.natCast_zero] at hc0 hc1 i0 i1 ⊢
                clear hok hbel hs hb hq hq2 hone hqc hqc2 R hlt hk h1
                go_wp2_with fail
                go_quiet (fail)
                go_wp2_with fail
                go_roundw
                case rel => exact R'.out _
                case measure => simp [intOf]; omega
              · obtain ⟨j, hj⟩ : ∃ j, k = j + 1 := ⟨k - 1, by omega⟩
                obtain ⟨⟨p0, p1⟩, hp⟩ : ∃ p, l[j]? = some p := ⟨_, List.getElem?_eq_getElem (by have := HN.out; omega)⟩
                obtain ⟨b', off', e', hb', hp0, hp1⟩ := (HS.out.below hbel).at_ hp
                injection e' with e'
                injection e' with e1 e2
                subst e1 e2
                simp only [] at hp0 hp1
                have g1 : decide ((0 : Int) < (k : Int)) = true := decide_eq_true (by omega)
                have g2 : (k : Int) - 1 = (j : Int) := by omega
                have g0 : decide (0 < k) = true := decide_eq_true hk0
                have hs' : l[j + 1]? = some (s0, s1) := by rw [← hj]; exact hs
                have hok' : Wig.spOk (l.take (j + 1)) = true := by rw [← hj]; exact hok
                have g3 : (0 : Int) ≤ (j : Int) := by omega
                have g4 : (j : Int) < (n : Int) := by omega
                have g5 : IntKind.i64.wrap (j : Int) = (j : Int) := by have := H32.out; rw [IntKind.wrap_i64]; omega
                by_cases hle : s0 ≤ p1
                · have t5 : decide (s0 ≤ p1) = true := decide_eq_true hle
                  have R : res = false := by
                    rw [E.out]
                    refine sf_false (k := j + 1 + 1) ?_
                    rw [sf_next hp hs' hok', decide_eq_false (by simp only []; omega), Bool.false_and]
                  have R' := Lib.hid R
                  clear hok hok' hbel hs hs' hj hk0 hb hb' hp hq hq2 hone hqc hqc2 R hlt hk h1 hle
                  go_wp2_with fail
                  go_quiet (fail)
                  go_wp2_with fail
                  go_ret
                  exact ⟨by rw [R'.out]; rfl, below_drewN' NB.out _⟩
                · have t5 : decide (s0 ≤ p1) = false := decide_eq_false hle
                  have h32 := H32.out
                  have R : ∀ nq : Nat, SfRel l w (.int .i64 ((k : Int) + 1)) (wr.drewN nq) := fun nq => ⟨k + 1, by have := HN.out; omega, rfl, by rw [hj, sf_next hp hs' hok', decide_eq_true (by simp only []; omega), h1]; rfl, below_drewN' NB.out nq⟩
                  have R' := Lib.hid R
                  clear hok hok' hbel hs hs' hj hk0 hb hb' hp hq hq2 hone hqc hqc2 R hlt hk h1 hle
                  go_wp2_with fail
                  go_quiet (fail)
                  go_wp2_with fail
                  go_roundw
                  case rel => exact R'.out _
                  case measure => simp [intOf]; omega
        · have R : res = true := by rw [E.out]; exact sf_all (by rw [← HN.out]; omega) hok
          have R' := Lib.hid (And.intro R hbel)
          have t3 : decide (k < n) = false := decide_eq_false hlt
          clear hok hbel R hlt hk
          go_wp2_with fail
          go_ret
          exact ⟨by rw [R'.out.1]; rfl, R'.out.2⟩
end Go.Proofs.YtogioabdijgglaaDoor
