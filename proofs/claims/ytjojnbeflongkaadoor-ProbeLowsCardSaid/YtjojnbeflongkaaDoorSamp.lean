/-
  Words for lists of samples (pairs of a time and a value) and what the program's memory holds of them: a slice that reads as a list, a row of the call's own. No condition.
-/
import Derived.Test.YtjojnbeflongkaaDoorRows
import Derived.Test.YtjojnbeflongkaaDoorSampM
import Derived.WalkKit
import Derived.ProofKit
import Derived.OpenShut
import Derived.Below
import Derived.Laws.OwnMore
import Derived.Deep.AppendLies
import Derived.Deep.Draws
import Derived.Deep.Slices
import Derived.Deep.Fields
import Derived.ChangeSame
import Derived.Lib.SmallJoins
namespace Go.Proofs.YtjojnbeflongkaaDoor
open Go.ChangeShapes Go.WideShapes Go.ChangeAt Go.RowKit Go.Deep Go.Joins

/-- A sample as a value; its two cells; a list's cells in their order. -/
abbrev smp (p : Wig.Smp) : Value := .agg #[.int .u64 (p.1 : Int), .int .u64 (p.2 : Int)]
def two (p : Wig.Smp) : List Value := [.int .u64 (p.1 : Int), .int .u64 (p.2 : Int)]
def flat (ss : List Wig.Smp) : List Value := ss.flatMap two

theorem flat_length (ss : List Wig.Smp) : (flat ss).length = ss.length * 2 := by
  induction ss with
  | nil => rfl
  | cons p ss ih => simp only [flat, List.flatMap_cons, List.length_append, List.length_cons] at ih ⊢; rw [ih]; simp [two]; omega
theorem flat_app (ss tt : List Wig.Smp) : flat (ss ++ tt) = flat ss ++ flat tt := List.flatMap_append
theorem flat_one (p : Wig.Smp) : flat [p] = two p := by simp [flat]
theorem flat_at (ss : List Wig.Smp) (j : Nat) (p : Wig.Smp) (h : ss[j]? = some p) :
    (flat ss)[j * 2]? = some (.int .u64 (p.1 : Int)) ∧ (flat ss)[j * 2 + 1]? = some (.int .u64 (p.2 : Int)) := by
  induction ss generalizing j with
  | nil => simp at h
  | cons q ss ih =>
    cases j with
    | zero => simp at h; subst h; simp [flat, two]
    | succ j =>
      have h' : ss[j]? = some p := by simpa using h
      obtain ⟨h1, h2⟩ := ih j h'
      have e : flat (q :: ss) = two q ++ flat ss := by simp [flat]
      rw [e]
      have l : (two q).length = 2 := rfl
      constructor
      · rw [List.getElem?_append_right (by rw [l]; omega), l]; rw [show (j + 1) * 2 - 2 = j * 2 by omega]; exact h1
      · rw [List.getElem?_append_right (by rw [l]; omega), l]; rw [show (j + 1) * 2 + 1 - 2 = j * 2 + 1 by omega]; exact h2

/-- The slice at A reads as ss, from a block below B. -/
def Rd (w : World) (B : Nat) (A : Option Addr) (ss : List Wig.Smp) : Prop :=
  ss ≠ [] → ∃ b off, A = some ⟨b, off, none⟩ ∧ b < B ∧ ∀ j p, ss[j]? = some p → w.cell? ⟨b, off + j * 2, none⟩ = some (.int .u64 (p.1 : Int)) ∧ w.cell? ⟨b, off + j * 2 + 1, none⟩ = some (.int .u64 (p.2 : Int))
/-- The value v is a row of its own from block base on, and reads as ss. -/
def Own (w : World) (base : Nat) (v : Value) (ss : List Wig.Smp) : Prop := w.ownsRow base 56 2 v ss.length (flat ss)

section
variable {w w' : World} {B B' : Nat} {A : Option Addr} {ss : List Wig.Smp}
theorem Rd.empty : Rd w B A [] := fun h => absurd rfl h
theorem Rd.keeps (h : Rd w B A ss) (hk : ∀ p : Addr, p.block < B → w'.cell? p = w.cell? p) : Rd w' B A ss := fun hn => by
  obtain ⟨b, off, e, hb, hc⟩ := h hn
  exact ⟨b, off, e, hb, fun j p hp => ⟨(hk _ hb).trans (hc j p hp).1, (hk _ hb).trans (hc j p hp).2⟩⟩
theorem Rd.below (h : Rd w B A ss) (hb : Below B w w') : Rd w' B A ss := h.keeps fun _ hp => hb.cell hp
theorem Rd.wide (h : Rd w B A ss) (hB : B ≤ B') : Rd w B' A ss := fun hn => by
  obtain ⟨b, off, e, hb, hc⟩ := h hn
  exact ⟨b, off, e, by omega, hc⟩
theorem Rd.drewN (h : Rd w B A ss) (n : Nat) : Rd (w.drewN n) B A ss := h
theorem Rd.at_ (h : Rd w B A ss) {j : Nat} {p : Wig.Smp} (hp : ss[j]? = some p) : ∃ b off, A = some ⟨b, off, none⟩ ∧ b < B ∧
    w.cell? ⟨b, off + j * 2, none⟩ = some (.int .u64 (p.1 : Int)) ∧ w.cell? ⟨b, off + j * 2 + 1, none⟩ = some (.int .u64 (p.2 : Int)) := by
  obtain ⟨b, off, e, hb, hc⟩ := h (by intro e; subst e; simp at hp)
  exact ⟨b, off, e, hb, hc j p hp⟩

theorem Own.rd {base : Nat} {v : Value} (h : Own w base v ss) : ∃ A c, v = .slice A ss.length c ∧ ss.length ≤ c + 0 ∧ Rd w w.heap.size A ss ∧ (∀ b off, A = some ⟨b, off, none⟩ → base ≤ b) := by
  have h0 := h
  rcases h.2 with ⟨rfl, hn⟩ | ⟨g, cap, cur, rfl, hg, hh, hn, hcap, hsz, htake⟩
  · have : ss = [] := List.eq_nil_of_length_eq_zero hn
    subst this
    exact ⟨none, 0, rfl, by simp, Rd.empty, fun _ _ e => by cases e⟩
  · refine ⟨some ⟨g, 0, none⟩, cap, rfl, hn, fun _ => ⟨g, 0, rfl, (Array.getElem?_eq_some_iff.1 hh).1, fun j p hp => ?_⟩, fun b off e => by cases e; exact hg⟩
    have hj : j < ss.length := by rcases Nat.lt_or_ge j ss.length with h | h; exact h; rw [List.getElem?_eq_none h] at hp; cases hp
    obtain ⟨h1, h2⟩ := flat_at ss j p hp
    constructor
    · rw [Nat.zero_add]; exact (World.ownsRow.cellAt h0 (j * 2) (by omega)).trans h1
    · rw [Nat.zero_add]; exact (World.ownsRow.cellAt h0 (j * 2 + 1) (by omega)).trans h2
end

theorem Own.below {w w' : World} {base B : Nat} {v : Value} {ss : List Wig.Smp} (h : Own w base v ss) (hb : Below B w w') (hB : w.heap.size ≤ B) : Own w' base v ss := by
  refine ⟨h.1, ?_⟩
  rcases h.2 with hn | ⟨g, cap, cur, rfl, hg, hh, rest⟩
  · exact .inl hn
  · exact .inr ⟨g, cap, cur, rfl, hg, by rw [hb.block g (by have := (Array.getElem?_eq_some_iff.1 hh).1; omega)]; exact hh, rest⟩
theorem Own.block {w : World} {base : Nat} {v : Value} {ss : List Wig.Smp} (h : Own w base v ss) : ∀ k, v.ownBlock = some k → base ≤ k ∧ k < w.heap.size := World.ownsRow.lt h

theorem Own.base_le {w : World} {base base' : Nat} {v : Value} {ss : List Wig.Smp} (h : Own w base v ss) (hb : base' ≤ base) : Own w base' v ss := by
  refine ⟨h.1, ?_⟩
  rcases h.2 with hn | ⟨g, cap, cur, e, hg, rest⟩
  · exact .inl hn
  · exact .inr ⟨g, cap, cur, e, by omega, rest⟩

theorem Own.form {w : World} {base : Nat} {v : Value} {ss : List Wig.Smp} (h : Own w base v ss) (hne : ss ≠ []) : ∃ g c, v = .slice (some ⟨g, 0, none⟩) ss.length c ∧ base ≤ g ∧ g < w.heap.size ∧
    (∀ j p, ss[j]? = some p → w.cell? ⟨g, j * 2, none⟩ = some (.int .u64 (p.1 : Int)) ∧ w.cell? ⟨g, j * 2 + 1, none⟩ = some (.int .u64 (p.2 : Int))) ∧ (∀ j, w.frozen? ⟨g, j, none⟩ = false) := by
  have h0 := h
  rcases h.2 with ⟨_, hn⟩ | ⟨g, cap, cur, rfl, hg, hh, hn, hcap, hsz, htake⟩
  · exact absurd (List.eq_nil_of_length_eq_zero hn) hne
  · refine ⟨g, cap, rfl, hg, (Array.getElem?_eq_some_iff.1 hh).1, fun j p hp => ?_, fun j => World.ownsRow.frozenAt h0 j⟩
    have hj : j < ss.length := by rcases Nat.lt_or_ge j ss.length with h | h; exact h; rw [List.getElem?_eq_none h] at hp; cases hp
    obtain ⟨h1, h2⟩ := flat_at ss j p hp
    exact ⟨(World.ownsRow.cellAt h0 (j * 2) (by omega)).trans h1, (World.ownsRow.cellAt h0 (j * 2 + 1) (by omega)).trans h2⟩
theorem flat_cases (ss : List Wig.Smp) (j : Nat) (u : Value) (h : (flat ss)[j]? = some u) : ∃ i p, ss[i]? = some p ∧ ((j = i * 2 ∧ u = .int .u64 (p.1 : Int)) ∨ (j = i * 2 + 1 ∧ u = .int .u64 (p.2 : Int))) := by
  have hj : j < (flat ss).length := by rcases Nat.lt_or_ge j (flat ss).length with h' | h'; exact h'; rw [List.getElem?_eq_none h'] at h; cases h
  rw [flat_length] at hj
  have hi : j / 2 < ss.length := by omega
  obtain ⟨h1, h2⟩ := flat_at ss (j / 2) ss[j / 2] (List.getElem?_eq_getElem hi)
  refine ⟨j / 2, ss[j / 2], List.getElem?_eq_getElem hi, ?_⟩
  rcases Nat.mod_two_eq_zero_or_one j with hm | hm
  · left
    have e : j = j / 2 * 2 := by omega
    refine ⟨e, ?_⟩
    rw [e, h1] at h
    exact (Option.some.inj h).symm
  · right
    have e : j = j / 2 * 2 + 1 := by omega
    refine ⟨e, ?_⟩
    rw [e, h2] at h
    exact (Option.some.inj h).symm
theorem Rd.flat_ {w : World} {B : Nat} {a : Addr} {ss : List Wig.Smp} (h : Rd w B (some a) ss) : ∀ j u, (flat ss)[j]? = some u → w.cell? (a.add j) = some u := by
  intro j u hu
  obtain ⟨i, p, hp, hcase⟩ := flat_cases ss j u hu
  obtain ⟨b, off, e, _, h1, h2⟩ := h.at_ hp
  injection e with e
  subst e
  rw [add_plain]
  rcases hcase with ⟨rfl, rfl⟩ | ⟨rfl, rfl⟩
  · exact h1
  · exact h2
theorem flat_one_cell (ss : List Wig.Smp) : ∀ u ∈ flat ss, u.oneCell' = true := by
  intro u hu
  obtain ⟨p, _, hp⟩ := List.mem_flatMap.1 hu
  simp only [two, List.mem_cons, List.not_mem_nil, or_false] at hp
  rcases hp with rfl | rfl <;> rfl

/-- An argument's slice of samples, opened. -/
theorem open_samples {H : Type} {enc : TypeId × Value → H} {P : Program} {w : World} {base : Nat} {spare : Nat → Bool} {held : Bool} {t e u : TypeId} {f0 f1 : Field} {v : Value} {d : DataW H} {ps : List MemPlace} {r : Reach} {b0 : Nat}
    (ht : P.underlying t = some (.slice e)) (he : P.underlying e = some (.struct #[f0, f1])) (hone : oneCellFields P #[f0, f1] = true) (hC : P.cellsOf e = 2)
    (hf0 : f0.type = u) (hf1 : f1.type = u) (hu : P.underlying u = some (.int .u64))
    (hv : Value.okWide P w r b0 t v) (h : DataW.Trod enc P w base spare held t v d ps) (hlt : ∀ x ∈ ps, x.block < w.heap.size) :
    ∃ A c ss, v = .slice A ss.length c ∧ Wig.Fits ss ∧ Rd w w.heap.size A ss ∧ ss.length ≤ maxLen := by
  obtain ⟨a0, len0, cap0, rfl⟩ := okWide_slice ht hv
  obtain ⟨fuel, hf⟩ := h
  rcases open_slice ht hf with ⟨hcs, _⟩ | ⟨a, len, cap, m, n, D, Pl, hcs, hb, hl, hm, hmm, hx, hi⟩
  · simp [Value.cells] at hcs
    obtain ⟨rfl, rfl, rfl⟩ := hcs
    exact ⟨none, 0, [], rfl, fun _ h => by simp at h, Rd.empty, by simp⟩
  · simp [Value.cells] at hcs
    obtain ⟨rfl, rfl, rfl⟩ := hcs
    have hlm : len0 ≤ m := by rw [hmm]; split <;> omega
    have each : ∀ i, i < len0 → ∃ p : Wig.Smp, (p.1 < 18446744073709551616 ∧ p.2 < 18446744073709551616) ∧ w.cell? (a.add (i * 2)) = some (.int .u64 (p.1 : Int)) ∧ w.cell? ((a.add (i * 2)).add 1) = some (.int .u64 (p.2 : Int)) := by
      intro i hil
      obtain ⟨cs', hc, ht'⟩ := hi i (by omega)
      rw [hC] at hc
      obtain ⟨_, hcl, hat⟩ := World.cells?_some hc
      obtain ⟨y0, y1, n', _, _, h0, h1⟩ := trod_struct2 he ht'
      obtain ⟨o0, k0⟩ := hone_of hone 0 f0 rfl
      obtain ⟨o1, k1⟩ := hone_of hone 1 f1 rfl
      match cs', hcl with
      | [c0, c1], _ =>
        rw [o0, k0] at h0
        rw [o1, k1] at h1
        rw [hf0] at h0
        rw [hf1] at h1
        obtain ⟨x0, e0, _, w0⟩ := DataW.trod_int hu h0
        obtain ⟨x1, e1, _, w1⟩ := DataW.trod_int hu h1
        simp at e0 e1
        subst e0 e1
        have b0 : 0 ≤ x0 ∧ x0 ≤ 18446744073709551615 := by simpa [Lit.wf, IntKind.min, IntKind.max, IntKind.signed, IntKind.bits] using w0
        have b1 : 0 ≤ x1 ∧ x1 ≤ 18446744073709551615 := by simpa [Lit.wf, IntKind.min, IntKind.max, IntKind.signed, IntKind.bits] using w1
        have a0 := hat 0 (by omega)
        have a1 := hat 1 (by omega)
        refine ⟨(x0.toNat, x1.toNat), ⟨by simp; omega, by simp; omega⟩, ?_, ?_⟩
        · have e : ((x0.toNat : Nat) : Int) = x0 := by omega
          show _ = some (Value.int .u64 ((x0.toNat : Nat) : Int))
          rw [e]
          simpa [Addr.add] using a0
        · have e : ((x1.toNat : Nat) : Int) = x1 := by omega
          show _ = some (Value.int .u64 ((x1.toNat : Nat) : Int))
          rw [e]
          simpa using a1
    obtain ⟨f, hfs⟩ : ∃ f : Nat → Wig.Smp, ∀ i, i < len0 → ((f i).1 < 18446744073709551616 ∧ (f i).2 < 18446744073709551616) ∧ w.cell? (a.add (i * 2)) = some (.int .u64 ((f i).1 : Int)) ∧ w.cell? ((a.add (i * 2)).add 1) = some (.int .u64 ((f i).2 : Int)) := by
      refine ⟨fun i => if h : i < len0 then Classical.choose (each i h) else (0, 0), fun i hi => ?_⟩
      simp only [dif_pos hi]
      exact Classical.choose_spec (each i hi)
    obtain ⟨ss, hss⟩ : ∃ ss, ss = (List.range len0).map f := ⟨_, rfl⟩
    have hlen : ss.length = len0 := by rw [hss]; simp
    have hat : ∀ j p, ss[j]? = some p → j < len0 ∧ p = f j := by
      intro j p hp
      have hj : j < len0 := by rcases Nat.lt_or_ge j len0 with h | h; exact h; rw [List.getElem?_eq_none (by omega)] at hp; cases hp
      rw [hss] at hp
      simp [hj] at hp
      exact ⟨hj, hp.symm⟩
    refine ⟨some a, cap0, ss, by rw [hlen], fun p hp => ?_, fun hn => ?_, by omega⟩
    · obtain ⟨j, hj⟩ := List.getElem?_of_mem hp
      obtain ⟨h1, rfl⟩ := hat j p hj
      exact (hfs j h1).1
    · have hpos : 0 < len0 := by rw [← hlen]; exact List.length_pos_iff.2 hn
      obtain ⟨b, off, spot⟩ := a
      have hspot : spot = none := by simpa [Addr.add] using World.cell?_spot (hfs 0 hpos).2.1
      subst hspot
      refine ⟨b, off, rfl, ?_, fun j p hp => ?_⟩
      · simp only [Prod.mk.injEq] at hx
        refine hlt (.cell b off) ?_
        rw [hx.2, hC]
        exact List.mem_append_left _ (MemPlace.mem_row.2 ⟨0, by omega, by simp⟩)
      · obtain ⟨h1, rfl⟩ := hat j p hp
        obtain ⟨_, c0, c1⟩ := hfs j h1
        rw [add_plain] at c0
        rw [add_plain, add_plain] at c1
        exact ⟨c0, c1⟩
end Go.Proofs.YtjojnbeflongkaaDoor
