/-
  What package filt's keep and push return, and what PushMax and PushMin do: the samples that stay and the new one behind them, in memory of the call's own. Conditions: the list reads as samples of 64 bits, at most three hundred and one of them.
-/
import Derived.Test.YtjojnbeflongkaaDoorFlA
import Derived.OwnWalk
import Derived.Deep.LoopGhost
namespace Go.Proofs.YtjojnbeflongkaaDoor
open Go.ChangeShapes Go.WideShapes Go.ChangeAt Go.RowKit Go.Deep
set_option linter.unusedVariables false

theorem samp_info : (Tryd.prog.info? 56).map (fun i => (i.zero, i.size, i.bytes)) = some (some (.agg #[.int .u64 0, .int .u64 0]), 2, 16) := by kernel_rfl

theorem cell_two_new (w : World) (p : Wig.Smp) : ∀ j u, (two p)[j]? = some u → (w.alloc (.cells #[.int .u64 (p.1 : Int), .int .u64 (p.2 : Int)] 56)).cell? ((⟨w.heap.size, 0, none⟩ : Addr).add j) = some u := by
  intro j u hj
  rw [add_plain, Nat.zero_add, World.cell?_alloc_at _ _ _ _ rfl]
  simpa [two] using hj
theorem one_two (p : Wig.Smp) : ∀ u ∈ two p, u.oneCell' = true := by
  intro u hu
  simp only [two, List.mem_cons, List.not_mem_nil, or_false] at hu
  rcases hu with rfl | rfl <;> rfl

/-- A test over samples as keep is handed it: at any world where below block B nothing has turned since w it returns g of the sample. -/
def Tests (w : World) (B : Nat) (F : FuncId) (C : Array Value) (g : Wig.Smp → Bool) : Prop :=
  ∀ (w' : World) (p0 p1 : Nat), p0 < 18446744073709551616 → p1 < 18446744073709551616 → Below B w w' → B ≤ w'.heap.size →
    Calls Tryd.prog F (#[.agg #[.int .u64 (p0 : Int), .int .u64 (p1 : Int)]] ++ C) w' fun e w'' => e = .returned (.bool (g (p0, p1))) ∧ Below w'.heap.size w' w''

theorem filt_hit {g : Wig.Smp → Bool} {ss : List Wig.Smp} {k : Nat} {p : Wig.Smp} (h : ss[k]? = some p) (hs : g p = true) : (ss.take (k + 1)).filter g = (ss.take k).filter g ++ [p] := by
  simp [Wig.take_more ss k p h, List.filter_append, hs]
theorem filt_miss {g : Wig.Smp → Bool} {ss : List Wig.Smp} {k : Nat} {p : Wig.Smp} (h : ss[k]? = some p) (hs : g p = false) : (ss.take (k + 1)).filter g = (ss.take k).filter g := by
  simp [Wig.take_more ss k p h, List.filter_append, hs]

set_option maxHeartbeats 1600000 in
set_option maxRecDepth 1000000 in
theorem keep_any (g : Wig.Smp → Bool) (ss : List Wig.Smp) (A : Option Addr) (c b5 b6 b7 : Nat) (w : World) (hlen : ss.length ≤ 400) (hf : Wig.Fits ss) (hr : Rd w w.heap.size A ss)
    (ht : Tests w w.heap.size 55 #[.pointer (some ⟨b5, 0, none⟩), .pointer (some ⟨b6, 0, none⟩), .pointer (some ⟨b7, 0, none⟩)] g) :
    Calls Tryd.prog 54 #[.slice A ss.length c, .func (.func 55) #[] #[.pointer (some ⟨b5, 0, none⟩), .pointer (some ⟨b6, 0, none⟩), .pointer (some ⟨b7, 0, none⟩)]] w fun e w' =>
      ∃ v, e = .returned v ∧ Own w' w.heap.size v (ss.filter g) ∧ Below w.heap.size w w' := by
  obtain ⟨i0, hi, hz0, hz1, hz2⟩ := info_parts samp_info
  obtain ⟨n, hn⟩ : ∃ n, n = ss.length := ⟨_, rfl⟩
  rw [← hn] at hlen ⊢
  have HR := Lib.hid hr
  have HT := Lib.hid ht
  have HF := Lib.hid hf
  have HN := Lib.hid hn
  clear hr ht hf hn
  go_enter Tryd.func54, Tryd.ntmps54
  go_wp2_with (at_make; refine wpList_make_own _ rfl _ _ 23 rfl w.heap.size 56 i0 _ 2 Tryd.underlying23 hi hz0 hz1 _ _ _ (n + 1) rfl rfl (by push_cast; rfl) (by rw [hz2]; omega) (by simp only [maxLen]; omega) (Nat.le_refl _) ?_)
  intro w1 hown hg
  have HO := Lib.hid hown
  have HB := Lib.hid ((Below.refl w.heap.size w).grown hg (Nat.le_refl _) (fun _ h => by cases h))
  clear hown hg
  go_wp2_with fail
  go_loopw [5, 14] (fun v i wr => ∃ k : Nat, k ≤ n ∧ i = .int .i64 k ∧ Own wr w.heap.size v ((ss.take k).filter g) ∧ Below w.heap.size w wr)
    (fun _ i _ => n - (intOf i).toNat)
  case atStart => exact ⟨0, Nat.zero_le _, rfl, HO.out, HB.out⟩
  case round =>
    obtain ⟨k, hk, rfl, hown, hbel⟩ := hrel
    have KO := Lib.hid hown
    have KB := Lib.hid hbel
    clear hown hbel
    by_cases hlt : k < n
    · obtain ⟨p, hp⟩ : ∃ p, ss[k]? = some p := ⟨_, List.getElem?_eq_getElem (by have := HN.out; omega)⟩
      obtain ⟨b, off, rfl, hb, hc0, hc1⟩ := (HR.out.below KB.out).at_ hp
      have HP := Lib.hid hp
      obtain ⟨p0, p1⟩ := p
      clear hp
      have hpf := HF.out (p0, p1) (List.mem_of_getElem? HP.out)
      have hsz := KB.out.size
      have HPF := Lib.hid hpf
      clear hpf
      go_wp2_with fail
      refine (HT.out _ p0 p1 HPF.out.1 HPF.out.2 ?_ ?_).mono ?_
      · exact (KB.out.alloc hsz _)
      · simp; omega
      · rintro e w2 ⟨rfl, hb2⟩
        have hsz2 := hb2.size
        simp only [World.size_alloc] at hsz2
        have m0 : w2.cell? ⟨wr.heap.size, 0, none⟩ = some (.int .u64 (p0 : Int)) := by
          rw [hb2.cell (by simp), World.cell?_alloc_at _ _ _ _ rfl]; rfl
        have m1 : w2.cell? ⟨wr.heap.size, 1, none⟩ = some (.int .u64 (p1 : Int)) := by
          rw [hb2.cell (by simp), World.cell?_alloc_at _ _ _ _ rfl]; rfl
        have KO2 := Lib.hid (KO.out.below (((Below.refl wr.heap.size wr).alloc (Nat.le_refl _) (.cells #[.int .u64 (p0 : Int), .int .u64 (p1 : Int)] 56)).trans (hb2.mono (by simp))) (Nat.le_refl _))
        have B2 := Lib.hid (KB.out.trans (((Below.refl w.heap.size wr).alloc hsz _).trans (hb2.mono (by simp; omega))))
        clear hb2
        by_cases hg : g (p0, p1) = true
        · rw [hg]
          have hgl : ((ss.take k).filter g).length ≤ k := Nat.le_trans (List.length_filter_le _ _) (List.length_take_le _ _)
          have HGL := Lib.hid hgl
          have HG := Lib.hid hg
          clear hgl hg
          go_wp2_with (at_builtin; refine wpList_append_own _ rfl _ _ 23 rfl w.heap.size 56 i0 (.agg #[.int .u64 0, .int .u64 0]) 2 16 Tryd.underlying23 hi hz0 hz1 hz2 rfl (by decide) _ _ _ rfl (World.ownsRow.alloc KO2.out _) ⟨w2.heap.size, 0, none⟩ 1 1 (two (p0, p1)) rfl rfl ?c1 ?c2 ?c3 ?c4 ?c5 ?_)
          case c1 => exact cell_two_new w2 (p0, p1)
          case c2 => exact one_two (p0, p1)
          case c3 => have := HGL.out; unfold maxLen; omega
          case c4 => have := HGL.out; omega
          case c5 => simp; omega
          intro v' w3 hown' hgrow _
          have R1 := Lib.hid hown'
          have R2 := Lib.hid ((B2.out.alloc (by have := B2.out.size; omega) (.cells #[.int .u64 (p0 : Int), .int .u64 (p1 : Int)] 56)).grown hgrow (by simp; omega) (fun q hq => (KO2.out.block q hq).1))
          clear hown' hgrow
          go_wp2_with fail
          go_roundw
          case rel =>
            refine ⟨k + 1, by omega, rfl, ?_, R2.out⟩
            unfold Own
            rw [filt_hit HP.out HG.out, flat_app, flat_one, List.length_append]
            exact R1.out
          case measure => simp [intOf]; omega
        · have hg' : g (p0, p1) = false := by simpa using hg
          rw [hg']
          have HG := Lib.hid hg'
          clear hg hg'
          go_wp2_with fail
          go_roundw
          case rel =>
            refine ⟨k + 1, by omega, rfl, ?_, B2.out⟩
            rw [filt_miss HP.out HG.out]
            exact KO2.out
          case measure => simp [intOf]; omega
    · have hkn : k = n := by omega
      subst hkn
      go_wp2_with fail
      go_ret
      have hall : ss.take k = ss := by rw [HN.out]; exact List.take_length
      rw [hall] at KO
      exact ⟨_, rfl, KO.out, KB.out⟩
end Go.Proofs.YtjojnbeflongkaaDoor
