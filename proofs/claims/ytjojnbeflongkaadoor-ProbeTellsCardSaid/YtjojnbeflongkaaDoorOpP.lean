/-
  Arguments that are models of a path, opened. No condition.
-/
import Derived.Test.YtjojnbeflongkaaDoorLeaf
import Derived.Test.YtjojnbeflongkaaDoorSamp
import Derived.Test.YtjojnbeflongkaaDoorBxP
namespace Go.Proofs.YtjojnbeflongkaaDoor
open Go.ChangeShapes Go.WideShapes Go.ChangeAt Go.RowKit Go.Deep Go.Joins
set_option linter.unusedVariables false
section
variable {H : Type} {enc : TypeId × Value → H} {P : Program} {w : World} {base : Nat} {spare : Nat → Bool} {held : Bool}
/-- A cell that reads as a slice of pairs of numbers of 64 bits. -/
theorem samples_of_trod {t e u : TypeId} {f0 f1 : Field} {fuel : Nat} {c : Value} {y : DataW H × List MemPlace}
    (ht : P.underlying t = some (.slice e)) (he : P.underlying e = some (.struct #[f0, f1])) (hone : oneCellFields P #[f0, f1] = true) (hC : P.cellsOf e = 2)
    (hf0 : f0.type = u) (hf1 : f1.type = u) (hu : P.underlying u = some (.int .u64))
    (hf : DataW.trod enc P w base spare held fuel t [c] = some y) (hlt : ∀ x ∈ y.2, x.block < w.heap.size) :
    ∃ A c' ss, c = .slice A ss.length c' ∧ Wig.Fits ss ∧ Rd w w.heap.size A ss ∧ ss.length ≤ c' ∧ c' ≤ maxLen := by
  rcases open_slice ht hf with ⟨hcs, _⟩ | ⟨a, len0, cap0, m, n, D, Pl, hcs, hb, hl, hm, hmm, hx, hi⟩
  · simp at hcs
    subst hcs
    exact ⟨none, 0, [], rfl, fun _ h => by simp at h, Rd.empty, by simp, by simp⟩
  · simp at hcs
    subst hcs
    have hlm : len0 ≤ m := by rw [hmm]; split <;> omega
    have each : ∀ i, i < len0 → ∃ p : Wig.Smp, (p.1 < 18446744073709551616 ∧ p.2 < 18446744073709551616) ∧ w.cell? (a.add (i * 2)) = some (.int .u64 (p.1 : Int)) ∧ w.cell? ((a.add (i * 2)).add 1) = some (.int .u64 (p.2 : Int)) := by
      intro i hil
      obtain ⟨cs', hc, ht'⟩ := hi i (by omega)
      rw [hC] at hc
      obtain ⟨_, hcl, hat⟩ := World.cells?_some hc
      obtain ⟨y0, y1, n', _, _, h0, h1⟩ := trod_struct2 he ht'
      obtain ⟨o0, k0⟩ := hone_of hone 0 f0 rfl
      obtain ⟨o1, k1⟩ := hone_of hone 1 f1 rfl
      match cs', hcl with
      | [c0, c1], _ =>
        rw [o0, k0] at h0
        rw [o1, k1] at h1
        rw [hf0] at h0
        rw [hf1] at h1
        obtain ⟨x0, e0, _, w0⟩ := DataW.trod_int hu h0
        obtain ⟨x1, e1, _, w1⟩ := DataW.trod_int hu h1
        simp at e0 e1
        subst e0 e1
        have b0 : 0 ≤ x0 ∧ x0 ≤ 18446744073709551615 := by simpa [Lit.wf, IntKind.min, IntKind.max, IntKind.signed, IntKind.bits] using w0
        have b1 : 0 ≤ x1 ∧ x1 ≤ 18446744073709551615 := by simpa [Lit.wf, IntKind.min, IntKind.max, IntKind.signed, IntKind.bits] using w1
        have a0 := hat 0 (by omega)
        have a1 := hat 1 (by omega)
        refine ⟨(x0.toNat, x1.toNat), ⟨by simp; omega, by simp; omega⟩, ?_, ?_⟩
        · have e : ((x0.toNat : Nat) : Int) = x0 := by omega
          show _ = some (Value.int .u64 ((x0.toNat : Nat) : Int))
          rw [e]
          simpa [Addr.add] using a0
        · have e : ((x1.toNat : Nat) : Int) = x1 := by omega
          show _ = some (Value.int .u64 ((x1.toNat : Nat) : Int))
          rw [e]
          simpa using a1
    obtain ⟨f, hfs⟩ : ∃ f : Nat → Wig.Smp, ∀ i, i < len0 → ((f i).1 < 18446744073709551616 ∧ (f i).2 < 18446744073709551616) ∧ w.cell? (a.add (i * 2)) = some (.int .u64 ((f i).1 : Int)) ∧ w.cell? ((a.add (i * 2)).add 1) = some (.int .u64 ((f i).2 : Int)) := by
      refine ⟨fun i => if h : i < len0 then Classical.choose (each i h) else (0, 0), fun i hi => ?_⟩
      simp only [dif_pos hi]
      exact Classical.choose_spec (each i hi)
    obtain ⟨ss, hss⟩ : ∃ ss, ss = (List.range len0).map f := ⟨_, rfl⟩
    have hlen : ss.length = len0 := by rw [hss]; simp
    have hat : ∀ j p, ss[j]? = some p → j < len0 ∧ p = f j := by
      intro j p hp
      have hj : j < len0 := by rcases Nat.lt_or_ge j len0 with h | h; exact h; rw [List.getElem?_eq_none (by omega)] at hp; cases hp
      rw [hss] at hp
      simp [hj] at hp
      exact ⟨hj, hp.symm⟩
    refine ⟨some a, cap0, ss, by rw [hlen], fun p hp => ?_, fun hn => ?_, by omega, hm⟩
    · obtain ⟨j, hj⟩ := List.getElem?_of_mem hp
      obtain ⟨h1, rfl⟩ := hat j p hj
      exact (hfs j h1).1
    · have hpos : 0 < len0 := by rw [← hlen]; exact List.length_pos_iff.2 hn
      obtain ⟨b, off, spot⟩ := a
      have hspot : spot = none := by simpa [Addr.add] using World.cell?_spot (hfs 0 hpos).2.1
      subst hspot
      refine ⟨b, off, rfl, ?_, fun j p hp => ?_⟩
      · refine hlt (.cell b off) ?_
        rw [hx, hC]
        exact List.mem_append_left _ (MemPlace.mem_row.2 ⟨0, by omega, by simp⟩)
      · obtain ⟨h1, rfl⟩ := hat j p hp
        obtain ⟨_, c0, c1⟩ := hfs j h1
        rw [add_plain] at c0
        rw [add_plain, add_plain] at c1
        exact ⟨c0, c1⟩
theorem leaf_samples {t e u : TypeId} {f0 f1 : Field} {c : Value}
    (ht : P.underlying t = some (.slice e)) (he : P.underlying e = some (.struct #[f0, f1])) (hone : oneCellFields P #[f0, f1] = true) (hC : P.cellsOf e = 2)
    (hf0 : f0.type = u) (hf1 : f1.type = u) (hu : P.underlying u = some (.int .u64)) (h : Leaf enc P w base spare held w.heap.size t c) :
    ∃ A c' ss, c = .slice A ss.length c' ∧ Wig.Fits ss ∧ Rd w w.heap.size A ss ∧ ss.length ≤ c' ∧ c' ≤ maxLen := by
  obtain ⟨m, z, hz, hlt⟩ := h
  exact samples_of_trod ht he hone hC hf0 hf1 hu hz hlt
end
theorem probe_list {α : Type} {cs : List α} (h : cs.length = 10) : ∃ c0 c1 c2 c3 c4 c5 c6 c7 c8 c9, cs = [c0, c1, c2, c3, c4, c5, c6, c7, c8, c9] := by
  match cs, h with
  | [c0, c1, c2, c3, c4, c5, c6, c7, c8, c9], _ => exact ⟨c0, c1, c2, c3, c4, c5, c6, c7, c8, c9, rfl⟩
theorem probe_leaves : leaves Tryd.prog 6 26 = some [3, 23, 24, 24, 24, 24, 24, 24, 24, 24] := by kernel_rfl
section
variable {H : Type} {enc : TypeId × Value → H} {w : World} {base : Nat} {spare : Nat → Bool} {held : Bool}
set_option maxRecDepth 100000 in
/-- By value. -/
theorem open_probe {r : Reach} {b0 : Nat} {d : DataW H} {ps : List MemPlace} {v : Value} (hv : Value.okWide Tryd.prog w r b0 26 v) (h : DataW.Trod enc Tryd.prog w base spare held 26 v d ps) (hlt : ∀ x ∈ ps, x.block < w.heap.size) :
    ∃ (s : Int) (A : Option Addr) (c : Nat) (ss : List Wig.Smp) (lo la fu sl ro ph si hi : Nat), v = aggPb s A ss.length c lo la fu sl ro ph si hi ∧ -9223372036854775808 ≤ s ∧ s ≤ 9223372036854775807 ∧ Wig.Fits ss ∧ ss.length ≤ maxLen ∧ lo < 18446744073709551616 ∧ la < 18446744073709551616 ∧ fu < 18446744073709551616 ∧ sl < 18446744073709551616 ∧ ro < 18446744073709551616 ∧ ph < 18446744073709551616 ∧ si < 18446744073709551616 ∧ hi < 18446744073709551616 ∧ Rd w w.heap.size A ss := by
  have hu : Tryd.prog.underlying 26 = some (.struct (Tryd.prog.fieldsOf 26)) := by kernel_rfl
  obtain ⟨cs, rfl, hlen, hlv⟩ := open_struct hu probe_leaves (by kernel_rfl) hv h hlt
  obtain ⟨c0, c1, c2, c3, c4, c5, c6, c7, c8, c9, rfl⟩ := probe_list hlen
  obtain ⟨d0, e0, g0⟩ := hlv 0 _ rfl
  simp at e0
  subst e0
  obtain ⟨s, rfl, b0, b0_⟩ := leaf_i64 Tryd.underlying3 g0
  obtain ⟨d1, e1, g1⟩ := hlv 1 _ rfl
  simp at e1
  subst e1
  obtain ⟨A, c, ss, rfl, hf, hr, hl, hm⟩ := leaf_samples Tryd.underlying23 Tryd.underlying56 (by kernel_rfl) (by kernel_rfl) rfl rfl Tryd.underlying24 g1
  obtain ⟨d2, e2, g2⟩ := hlv 2 _ rfl
  simp at e2
  subst e2
  obtain ⟨x2, rfl, b2⟩ := leaf_u64 Tryd.underlying24 g2
  obtain ⟨d3, e3, g3⟩ := hlv 3 _ rfl
  simp at e3
  subst e3
  obtain ⟨x3, rfl, b3⟩ := leaf_u64 Tryd.underlying24 g3
  obtain ⟨d4, e4, g4⟩ := hlv 4 _ rfl
  simp at e4
  subst e4
  obtain ⟨x4, rfl, b4⟩ := leaf_u64 Tryd.underlying24 g4
  obtain ⟨d5, e5, g5⟩ := hlv 5 _ rfl
  simp at e5
  subst e5
  obtain ⟨x5, rfl, b5⟩ := leaf_u64 Tryd.underlying24 g5
  obtain ⟨d6, e6, g6⟩ := hlv 6 _ rfl
  simp at e6
  subst e6
  obtain ⟨x6, rfl, b6⟩ := leaf_u64 Tryd.underlying24 g6
  obtain ⟨d7, e7, g7⟩ := hlv 7 _ rfl
  simp at e7
  subst e7
  obtain ⟨x7, rfl, b7⟩ := leaf_u64 Tryd.underlying24 g7
  obtain ⟨d8, e8, g8⟩ := hlv 8 _ rfl
  simp at e8
  subst e8
  obtain ⟨x8, rfl, b8⟩ := leaf_u64 Tryd.underlying24 g8
  obtain ⟨d9, e9, g9⟩ := hlv 9 _ rfl
  simp at e9
  subst e9
  obtain ⟨x9, rfl, b9⟩ := leaf_u64 Tryd.underlying24 g9
  exact ⟨s, A, c, ss, x2, x3, x4, x5, x6, x7, x8, x9, rfl, b0, b0_, hf, by omega, b2, b3, b4, b5, b6, b7, b8, b9, hr⟩
end
end Go.Proofs.YtjojnbeflongkaaDoor
