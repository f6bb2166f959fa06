/-
  Packets under way in the program's memory: a slice that reads as a list of them, a row of the call's own, an argument opened. No condition.
-/
import Derived.Test.YthdhcppgpnnccaaRows
import Derived.Test.YthdhcppgpnnccaaLedM
import Derived.WalkKit
import Derived.ProofKit
import Derived.OpenShut
import Derived.Below
import Derived.Laws.OwnMore
import Derived.Deep.AppendLies
import Derived.Deep.Draws
import Derived.Deep.Slices
import Derived.Deep.Fields
import Derived.ChangeSame
import Derived.Lib.SmallJoins
namespace Go.Proofs.Ythdhcppgpnnccaa
open Go.ChangeShapes Go.WideShapes Go.ChangeAt Go.RowKit Go.Deep Go.Joins
set_option linter.unusedVariables false

/-- A packet as a value; its four cells; a list's cells in their order. -/
abbrev snt (p : Wig.Snt) : Value := .agg #[.int .u64 (p.num : Int), .int .u64 (p.at_ : Int), .int .u64 (p.size : Int), .bool p.probe]
def four (p : Wig.Snt) : List Value := [.int .u64 (p.num : Int), .int .u64 (p.at_ : Int), .int .u64 (p.size : Int), .bool p.probe]
def tflat (ss : List Wig.Snt) : List Value := ss.flatMap four
theorem tflat_length (ss : List Wig.Snt) : (tflat ss).length = ss.length * 4 := by
  induction ss with
  | nil => rfl
  | cons p ss ih => simp only [tflat, List.flatMap_cons, List.length_append, List.length_cons] at ih ⊢; rw [ih]; simp [four]; omega
theorem tflat_app (ss tt : List Wig.Snt) : tflat (ss ++ tt) = tflat ss ++ tflat tt := List.flatMap_append
theorem tflat_one (p : Wig.Snt) : tflat [p] = four p := by simp [tflat]
theorem tflat_at (ss : List Wig.Snt) (j : Nat) (p : Wig.Snt) (h : ss[j]? = some p) (i : Nat) (hi : i < 4) : (tflat ss)[j * 4 + i]? = (four p)[i]? := by
  induction ss generalizing j with
  | nil => simp at h
  | cons q ss ih =>
    have e : tflat (q :: ss) = four q ++ tflat ss := by simp [tflat]
    have l : (four q).length = 4 := rfl
    rw [e]
    cases j with
    | zero => simp at h; subst h; rw [Nat.zero_mul, Nat.zero_add, List.getElem?_append_left (by rw [l]; exact hi)]
    | succ j =>
      rw [List.getElem?_append_right (by rw [l]; omega), l, show (j + 1) * 4 + i - 4 = j * 4 + i by omega]
      exact ih j (by simpa using h)

/-- The four cells from a place on hold a packet. -/
def At4 (w : World) (b o : Nat) (p : Wig.Snt) : Prop := w.cell? ⟨b, o, none⟩ = some (.int .u64 (p.num : Int)) ∧ w.cell? ⟨b, o + 1, none⟩ = some (.int .u64 (p.at_ : Int)) ∧ w.cell? ⟨b, o + 2, none⟩ = some (.int .u64 (p.size : Int)) ∧ w.cell? ⟨b, o + 3, none⟩ = some (.bool p.probe)
/-- The slice at A reads as ss, from a block below B. -/
def RdT (w : World) (B : Nat) (A : Option Addr) (ss : List Wig.Snt) : Prop :=
  ss ≠ [] → ∃ b off, A = some ⟨b, off, none⟩ ∧ b < B ∧ ∀ j p, ss[j]? = some p → At4 w b (off + j * 4) p
/-- The value v is a row of its own from block base on, and reads as ss. -/
def OwnT (w : World) (base : Nat) (v : Value) (ss : List Wig.Snt) : Prop := w.ownsRow base 37 4 v ss.length (tflat ss)

section
variable {w w' : World} {B B' : Nat} {A : Option Addr} {ss : List Wig.Snt}
theorem At4.keeps {b o : Nat} {p : Wig.Snt} (h : At4 w b o p) (hk : ∀ q : Addr, q.block = b → w'.cell? q = w.cell? q) : At4 w' b o p :=
  ⟨(hk _ rfl).trans h.1, (hk _ rfl).trans h.2.1, (hk _ rfl).trans h.2.2.1, (hk _ rfl).trans h.2.2.2⟩
theorem At4.below {b o : Nat} {p : Wig.Snt} (h : At4 w b o p) (hb : Below B w w') (hB : b < B) : At4 w' b o p := h.keeps fun q hq => hb.cell (by rw [hq]; exact hB)
theorem At4.of {b o : Nat} {p : Wig.Snt} (h : ∀ i, i < 4 → w.cell? ⟨b, o + i, none⟩ = (four p)[i]?) : At4 w b o p :=
  ⟨h 0 (by omega), h 1 (by omega), h 2 (by omega), h 3 (by omega)⟩
theorem RdT.empty : RdT w B A [] := fun h => absurd rfl h
theorem RdT.keeps (h : RdT w B A ss) (hk : ∀ p : Addr, p.block < B → w'.cell? p = w.cell? p) : RdT w' B A ss := fun hn => by
  obtain ⟨b, off, e, hb, hc⟩ := h hn
  exact ⟨b, off, e, hb, fun j p hp => (hc j p hp).keeps fun q hq => hk q (by rw [hq]; exact hb)⟩
theorem RdT.below (h : RdT w B A ss) (hb : Below B w w') : RdT w' B A ss := h.keeps fun _ hp => hb.cell hp
theorem RdT.wide (h : RdT w B A ss) (hB : B ≤ B') : RdT w B' A ss := fun hn => by
  obtain ⟨b, off, e, hb, hc⟩ := h hn
  exact ⟨b, off, e, by omega, hc⟩
theorem RdT.step (h : RdT w w.heap.size A ss) (hb : Below w.heap.size w w') : RdT w' w'.heap.size A ss := (h.below hb).wide hb.size
theorem RdT.drewN (h : RdT w B A ss) (n : Nat) : RdT (w.drewN n) B A ss := h
theorem RdT.at_ (h : RdT w B A ss) {j : Nat} {p : Wig.Snt} (hp : ss[j]? = some p) : ∃ b off, A = some ⟨b, off, none⟩ ∧ b < B ∧ At4 w b (off + j * 4) p := by
  obtain ⟨b, off, e, hb, hc⟩ := h (by intro e; subst e; simp at hp)
  exact ⟨b, off, e, hb, hc j p hp⟩

theorem OwnT.rd {base : Nat} {v : Value} (h : OwnT w base v ss) : ∃ A c, v = .slice A ss.length c ∧ ss.length ≤ c ∧ RdT w w.heap.size A ss ∧ (∀ b off, A = some ⟨b, off, none⟩ → base ≤ b) := by
  have h0 := h
  rcases h.2 with ⟨rfl, hn⟩ | ⟨g, cap, cur, rfl, hg, hh, hn, hcap, hsz, htake⟩
  · have : ss = [] := List.eq_nil_of_length_eq_zero hn
    subst this
    exact ⟨none, 0, rfl, by simp, RdT.empty, fun _ _ e => by cases e⟩
  · refine ⟨some ⟨g, 0, none⟩, cap, rfl, hn, fun _ => ⟨g, 0, rfl, (Array.getElem?_eq_some_iff.1 hh).1, fun j p hp => ?_⟩, fun b off e => by cases e; exact hg⟩
    have hj : j < ss.length := by rcases Nat.lt_or_ge j ss.length with h | h; exact h; rw [List.getElem?_eq_none h] at hp; cases hp
    refine At4.of fun i hi => ?_
    rw [Nat.zero_add, ← tflat_at ss j p hp i hi]
    exact World.ownsRow.cellAt h0 (j * 4 + i) (by omega)
end

theorem OwnT.below {w w' : World} {base B : Nat} {v : Value} {ss : List Wig.Snt} (h : OwnT w base v ss) (hb : Below B w w') (hB : w.heap.size ≤ B) : OwnT w' base v ss := by
  refine ⟨h.1, ?_⟩
  rcases h.2 with hn | ⟨g, cap, cur, rfl, hg, hh, rest⟩
  · exact .inl hn
  · exact .inr ⟨g, cap, cur, rfl, hg, by rw [hb.block g (by have := (Array.getElem?_eq_some_iff.1 hh).1; omega)]; exact hh, rest⟩
theorem OwnT.block {w : World} {base : Nat} {v : Value} {ss : List Wig.Snt} (h : OwnT w base v ss) : ∀ k, v.ownBlock = some k → base ≤ k ∧ k < w.heap.size := World.ownsRow.lt h
theorem OwnT.base_le {w : World} {base base' : Nat} {v : Value} {ss : List Wig.Snt} (h : OwnT w base v ss) (hb : base' ≤ base) : OwnT w base' v ss := by
  refine ⟨h.1, ?_⟩
  rcases h.2 with hn | ⟨g, cap, cur, e, hg, rest⟩
  · exact .inl hn
  · exact .inr ⟨g, cap, cur, e, by omega, rest⟩
theorem RdT.flat_ {w : World} {B : Nat} {a : Addr} {ss : List Wig.Snt} (h : RdT w B (some a) ss) : ∀ j u, (tflat ss)[j]? = some u → w.cell? (a.add j) = some u := by
  intro j u hu
  have hj : j < (tflat ss).length := by rcases Nat.lt_or_ge j (tflat ss).length with h' | h'; exact h'; rw [List.getElem?_eq_none h'] at hu; cases hu
  rw [tflat_length] at hj
  have hi : j / 4 < ss.length := by omega
  have hp : ss[j / 4]? = some ss[j / 4] := List.getElem?_eq_getElem hi
  have e : j = j / 4 * 4 + j % 4 := by omega
  have hm : j % 4 < 4 := by omega
  rw [e, tflat_at ss (j / 4) _ hp (j % 4) hm] at hu
  obtain ⟨b, off, e2, _, hat⟩ := h.at_ hp
  injection e2 with e2
  subst e2
  rw [add_plain]
  have e3 : off + j = off + j / 4 * 4 + j % 4 := by omega
  rw [e3]
  generalize j % 4 = i at hu hm
  obtain ⟨h0, h1, h2, h3⟩ := hat
  match i, hm with
  | 0, _ => rw [Nat.add_zero, h0]; exact hu
  | 1, _ => rw [h1]; exact hu
  | 2, _ => rw [h2]; exact hu
  | 3, _ => rw [h3]; exact hu
theorem tflat_one_cell (ss : List Wig.Snt) : ∀ u ∈ tflat ss, u.oneCell' = true := by
  intro u hu
  obtain ⟨p, _, hp⟩ := List.mem_flatMap.1 hu
  simp only [four, List.mem_cons, List.not_mem_nil, or_false] at hp
  rcases hp with rfl | rfl | rfl | rfl <;> rfl
theorem OwnT.thaw {w : World} {base : Nat} {v : Value} {ss : List Wig.Snt} (h : OwnT w base v ss) {g o c n : Nat} (hv : v = .slice (some ⟨g, o, none⟩) n c) (hn : n ≠ 0) : ∀ j, w.frozen? ⟨g, j, none⟩ = false := by
  have h0 := h
  rcases h.2 with ⟨e, _⟩ | ⟨g', cap, cur, rfl, hg, hh, _⟩
  · subst e; cases hv
  · cases hv
    exact fun j => World.ownsRow.frozenAt h0 j

theorem nat_of_u64' {a : Int} (h : (Lit.int .u64 a).wf = true) : ∃ n : Nat, a = (n : Int) ∧ n < 18446744073709551616 := by
  have hx : 0 ≤ a ∧ a ≤ 18446744073709551615 := by simpa [Lit.wf, IntKind.min, IntKind.max, IntKind.signed, IntKind.bits] using h
  exact ⟨a.toNat, by omega, by omega⟩

/-- An argument's slice of packets, opened, with its room. -/
theorem open_sents {H : Type} {enc : TypeId × Value → H} {P : Program} {w : World} {base : Nat} {spare : Nat → Bool} {held : Bool} {t e u z : TypeId} {f0 f1 f2 f3 : Field} {v : Value} {d : DataW H} {ps : List MemPlace} {r : Reach} {b0 : Nat}
    (ht : P.underlying t = some (.slice e)) (he : P.underlying e = some (.struct #[f0, f1, f2, f3])) (hone : oneCellFields P #[f0, f1, f2, f3] = true) (hC : P.cellsOf e = 4)
    (hf0 : f0.type = u) (hf1 : f1.type = u) (hf2 : f2.type = u) (hf3 : f3.type = z) (hu : P.underlying u = some (.int .u64)) (hz : P.underlying z = some .bool)
    (hv : Value.okWide P w r b0 t v) (h : DataW.Trod enc P w base spare held t v d ps) (hlt : ∀ x ∈ ps, x.block < w.heap.size) :
    ∃ A c ss, v = .slice A ss.length c ∧ Wig.TFits ss ∧ RdT w w.heap.size A ss ∧ ss.length ≤ maxLen ∧ ss.length ≤ c := by
  obtain ⟨a0, len0, cap0, rfl⟩ := okWide_slice ht hv
  obtain ⟨fuel, hf⟩ := h
  rcases open_slice ht hf with ⟨hcs, _⟩ | ⟨a, len, cap, m, n, D, Pl, hcs, hb, hl, hm, hmm, hx, hi⟩
  · simp [Value.cells] at hcs
    obtain ⟨rfl, rfl, rfl⟩ := hcs
    exact ⟨none, 0, [], rfl, fun _ h => by simp at h, RdT.empty, by simp, by simp⟩
  · simp [Value.cells] at hcs
    obtain ⟨rfl, rfl, rfl⟩ := hcs
    have hlm : len0 ≤ m := by rw [hmm]; split <;> omega
    have each : ∀ i, i < len0 → ∃ p : Wig.Snt, p.Ok ∧ ∀ k, k < 4 → w.cell? ((a.add (i * 4)).add k) = (four p)[k]? := by
      intro i hil
      obtain ⟨cs', hc, ht'⟩ := hi i (by omega)
      rw [hC] at hc
      obtain ⟨_, hcl, hat⟩ := World.cells?_some hc
      obtain ⟨xs, n', _, _, hl', hlen', hfs⟩ := DataW.trod_struct he ht'
      obtain ⟨o0, k0⟩ := hone_of hone 0 f0 rfl
      obtain ⟨o1, k1⟩ := hone_of hone 1 f1 rfl
      obtain ⟨o2, k2⟩ := hone_of hone 2 f2 rfl
      obtain ⟨o3, k3⟩ := hone_of hone 3 f3 rfl
      match xs, hlen', cs', hcl with
      | [y0, y1, y2, y3], _, [c0, c1, c2, c3], _ =>
        have h0 := hfs 0 f0 rfl
        have h1 := hfs 1 f1 rfl
        have h2 := hfs 2 f2 rfl
        have h3 := hfs 3 f3 rfl
        rw [o0, k0, hf0] at h0
        rw [o1, k1, hf1] at h1
        rw [o2, k2, hf2] at h2
        rw [o3, k3, hf3] at h3
        obtain ⟨x0, e0, _, w0⟩ := DataW.trod_int hu (by simpa using h0)
        obtain ⟨x1, e1, _, w1⟩ := DataW.trod_int hu (by simpa using h1)
        obtain ⟨x2, e2, _, w2⟩ := DataW.trod_int hu (by simpa using h2)
        obtain ⟨x3, e3, _⟩ := DataW.trod_bool hz (by simpa using h3)
        simp at e0 e1 e2 e3
        subst e0 e1 e2 e3
        obtain ⟨n0, rfl, b0⟩ := nat_of_u64' w0
        obtain ⟨n1, rfl, b1⟩ := nat_of_u64' w1
        obtain ⟨n2, rfl, b2⟩ := nat_of_u64' w2
        refine ⟨⟨n0, n1, n2, x3⟩, ⟨b0, b1, b2⟩, fun k hk => ?_⟩
        have := hat k (by simpa using hk)
        rw [this]
        rfl
    obtain ⟨f, hfs⟩ : ∃ f : Nat → Wig.Snt, ∀ i, i < len0 → (f i).Ok ∧ ∀ k, k < 4 → w.cell? ((a.add (i * 4)).add k) = (four (f i))[k]? := by
      refine ⟨fun i => if h : i < len0 then Classical.choose (each i h) else ⟨0, 0, 0, false⟩, fun i hi => ?_⟩
      simp only [dif_pos hi]
      exact Classical.choose_spec (each i hi)
    obtain ⟨ss, hss⟩ : ∃ ss, ss = (List.range len0).map f := ⟨_, rfl⟩
    have hlen : ss.length = len0 := by rw [hss]; simp
    have hat : ∀ j p, ss[j]? = some p → j < len0 ∧ p = f j := by
      intro j p hp
      have hj : j < len0 := by rcases Nat.lt_or_ge j len0 with h | h; exact h; rw [List.getElem?_eq_none (by omega)] at hp; cases hp
      rw [hss] at hp
      simp [hj] at hp
      exact ⟨hj, hp.symm⟩
    refine ⟨some a, cap0, ss, by rw [hlen], fun p hp => ?_, fun hn => ?_, by omega, by omega⟩
    · obtain ⟨j, hj⟩ := List.getElem?_of_mem hp
      obtain ⟨h1, rfl⟩ := hat j p hj
      exact (hfs j h1).1
    · have hpos : 0 < len0 := by rw [← hlen]; exact List.length_pos_iff.2 hn
      obtain ⟨b, off, spot⟩ := a
      have hspot : spot = none := by
        have := (hfs 0 hpos).2 0 (by omega)
        simp only [four, List.getElem?_cons_zero] at this
        simpa [Addr.add] using World.cell?_spot this
      subst hspot
      refine ⟨b, off, rfl, ?_, fun j p hp => ?_⟩
      · simp only [Prod.mk.injEq] at hx
        refine hlt (.cell b off) ?_
        rw [hx.2, hC]
        exact List.mem_append_left _ (MemPlace.mem_row.2 ⟨0, by omega, by simp⟩)
      · obtain ⟨h1, rfl⟩ := hat j p hp
        refine At4.of fun i hi => ?_
        have := (hfs j h1).2 i hi
        rw [add_plain, add_plain] at this
        exact this
end Go.Proofs.Ythdhcppgpnnccaa
