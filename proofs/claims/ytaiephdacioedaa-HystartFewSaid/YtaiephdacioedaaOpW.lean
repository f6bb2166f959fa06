/-
  Structs among a law's arguments (wigwag/api.Slow), opened, by value and as a slice. No condition.
-/
import Derived.Test.YtaiephdacioedaaLeaf
namespace Wig
/-- wigwag/api.Slow. -/
structure Slow where
  phase : Int
  fin : Nat
  last : Nat
  low : Nat
  count : Nat
  base : Nat
  rounds : Nat
deriving DecidableEq
def Slow.Ok (x : Slow) : Prop := -9223372036854775808 ≤ x.phase ∧ x.phase ≤ 9223372036854775807 ∧ x.fin < 18446744073709551616 ∧ x.last < 18446744073709551616 ∧ x.low < 18446744073709551616 ∧ x.count < 18446744073709551616 ∧ x.base < 18446744073709551616 ∧ x.rounds < 18446744073709551616
end Wig
namespace Go.Proofs.Ytaiephdacioedaa
open Go.ChangeShapes Go.WideShapes Go.ChangeAt Go.RowKit Go.Deep Go.Joins
set_option linter.unusedVariables false

/-- Its cells. -/
def slowc (x : Wig.Slow) : List Value := [.int .i64 x.phase, .int .u64 (x.fin : Int), .int .u64 (x.last : Int), .int .u64 (x.low : Int), .int .u64 (x.count : Int), .int .u64 (x.base : Int), .int .u64 (x.rounds : Int)]
/-- The cells from a place on hold it. -/
def SlowAt (w : World) (b o : Nat) (x : Wig.Slow) : Prop := w.cell? ⟨b, o, none⟩ = some (.int .i64 x.phase) ∧ w.cell? ⟨b, o + 1, none⟩ = some (.int .u64 (x.fin : Int)) ∧ w.cell? ⟨b, o + 2, none⟩ = some (.int .u64 (x.last : Int)) ∧ w.cell? ⟨b, o + 3, none⟩ = some (.int .u64 (x.low : Int)) ∧ w.cell? ⟨b, o + 4, none⟩ = some (.int .u64 (x.count : Int)) ∧ w.cell? ⟨b, o + 5, none⟩ = some (.int .u64 (x.base : Int)) ∧ w.cell? ⟨b, o + 6, none⟩ = some (.int .u64 (x.rounds : Int))
/-- The slice at A reads as ss, from a block below B. -/
def RdSlow (w : World) (B : Nat) (A : Option Addr) (ss : List Wig.Slow) : Prop :=
  ss ≠ [] → ∃ b off, A = some ⟨b, off, none⟩ ∧ b < B ∧ ∀ j p, ss[j]? = some p → SlowAt w b (off + j * 7) p
section
variable {w w' : World} {B B' : Nat} {A : Option Addr} {ss : List Wig.Slow}
theorem SlowAt.keeps {b o : Nat} {p : Wig.Slow} (h : SlowAt w b o p) (hk : ∀ q : Addr, q.block = b → w'.cell? q = w.cell? q) : SlowAt w' b o p := ⟨(hk _ rfl).trans h.1, (hk _ rfl).trans h.2.1, (hk _ rfl).trans h.2.2.1, (hk _ rfl).trans h.2.2.2.1, (hk _ rfl).trans h.2.2.2.2.1, (hk _ rfl).trans h.2.2.2.2.2.1, (hk _ rfl).trans h.2.2.2.2.2.2⟩
theorem SlowAt.of {b o : Nat} {p : Wig.Slow} (h : ∀ i, i < 7 → w.cell? ⟨b, o + i, none⟩ = (slowc p)[i]?) : SlowAt w b o p := ⟨h 0 (by omega), h 1 (by omega), h 2 (by omega), h 3 (by omega), h 4 (by omega), h 5 (by omega), h 6 (by omega)⟩
theorem SlowAt.below {b o : Nat} {p : Wig.Slow} (h : SlowAt w b o p) (hb : Below B w w') (hB : b < B) : SlowAt w' b o p := h.keeps fun q hq => hb.cell (by rw [hq]; exact hB)
theorem RdSlow.empty : RdSlow w B A [] := fun h => absurd rfl h
theorem RdSlow.keeps (h : RdSlow w B A ss) (hk : ∀ p : Addr, p.block < B → w'.cell? p = w.cell? p) : RdSlow w' B A ss := fun hn => by
  obtain ⟨b, off, e, hb, hc⟩ := h hn
  exact ⟨b, off, e, hb, fun j p hp => (hc j p hp).keeps fun q hq => hk q (by rw [hq]; exact hb)⟩
theorem RdSlow.below (h : RdSlow w B A ss) (hb : Below B w w') : RdSlow w' B A ss := h.keeps fun _ hp => hb.cell hp
theorem RdSlow.wide (h : RdSlow w B A ss) (hB : B ≤ B') : RdSlow w B' A ss := fun hn => by
  obtain ⟨b, off, e, hb, hc⟩ := h hn
  exact ⟨b, off, e, by omega, hc⟩
theorem RdSlow.step (h : RdSlow w w.heap.size A ss) (hb : Below w.heap.size w w') : RdSlow w' w'.heap.size A ss := (h.below hb).wide hb.size
theorem RdSlow.drewN (h : RdSlow w B A ss) (n : Nat) : RdSlow (w.drewN n) B A ss := h
theorem RdSlow.at_ (h : RdSlow w B A ss) {j : Nat} {p : Wig.Slow} (hp : ss[j]? = some p) : ∃ b off, A = some ⟨b, off, none⟩ ∧ b < B ∧ SlowAt w b (off + j * 7) p := by
  obtain ⟨b, off, e, hb, hc⟩ := h (by intro e; subst e; simp at hp)
  exact ⟨b, off, e, hb, hc j p hp⟩
end
theorem slow_list {α : Type} {cs : List α} (h : cs.length = 7) : ∃ c0 c1 c2 c3 c4 c5 c6, cs = [c0, c1, c2, c3, c4, c5, c6] := by
  match cs, h with
  | [c0, c1, c2, c3, c4, c5, c6], _ => exact ⟨c0, c1, c2, c3, c4, c5, c6, rfl⟩
section
variable {H : Type} {enc : TypeId × Value → H} {w : World} {base : Nat} {spare : Nat → Bool} {held : Bool} {B : Nat}
theorem slow_leaves : leaves Try.prog 6 25 = some [3, 23, 23, 23, 23, 23, 23] := by kernel_rfl
/-- Its cells, read by their types. -/
theorem slow_cells {cs : List Value} (hl : cs.length = 7) (h : Leaves enc Try.prog w base spare held B [3, 23, 23, 23, 23, 23, 23] cs) : ∃ x : Wig.Slow, x.Ok ∧ cs = slowc x := by
  obtain ⟨c0, c1, c2, c3, c4, c5, c6, rfl⟩ := slow_list hl
  obtain ⟨d0, e0, g0⟩ := h 0 _ rfl
  simp at e0
  subst e0
  obtain ⟨x0, rfl, b0, b0_⟩ := leaf_i64 Try.underlying3 g0
  obtain ⟨d1, e1, g1⟩ := h 1 _ rfl
  simp at e1
  subst e1
  obtain ⟨x1, rfl, b1⟩ := leaf_u64 Try.underlying23 g1
  obtain ⟨d2, e2, g2⟩ := h 2 _ rfl
  simp at e2
  subst e2
  obtain ⟨x2, rfl, b2⟩ := leaf_u64 Try.underlying23 g2
  obtain ⟨d3, e3, g3⟩ := h 3 _ rfl
  simp at e3
  subst e3
  obtain ⟨x3, rfl, b3⟩ := leaf_u64 Try.underlying23 g3
  obtain ⟨d4, e4, g4⟩ := h 4 _ rfl
  simp at e4
  subst e4
  obtain ⟨x4, rfl, b4⟩ := leaf_u64 Try.underlying23 g4
  obtain ⟨d5, e5, g5⟩ := h 5 _ rfl
  simp at e5
  subst e5
  obtain ⟨x5, rfl, b5⟩ := leaf_u64 Try.underlying23 g5
  obtain ⟨d6, e6, g6⟩ := h 6 _ rfl
  simp at e6
  subst e6
  obtain ⟨x6, rfl, b6⟩ := leaf_u64 Try.underlying23 g6
  exact ⟨⟨x0, x1, x2, x3, x4, x5, x6⟩, ⟨b0, b0_, b1, b2, b3, b4, b5, b6⟩, rfl⟩
set_option maxRecDepth 100000 in
/-- By value. -/
theorem open_slow {r : Reach} {b0 : Nat} {d : DataW H} {ps : List MemPlace} {v : Value} (hv : Value.okWide Try.prog w r b0 25 v) (h : DataW.Trod enc Try.prog w base spare held 25 v d ps) (hlt : ∀ x ∈ ps, x.block < w.heap.size) :
    ∃ (x0 : Int) (x1 : Nat) (x2 : Nat) (x3 : Nat) (x4 : Nat) (x5 : Nat) (x6 : Nat), v = .agg #[.int .i64 x0, .int .u64 (x1 : Int), .int .u64 (x2 : Int), .int .u64 (x3 : Int), .int .u64 (x4 : Int), .int .u64 (x5 : Int), .int .u64 (x6 : Int)] ∧ -9223372036854775808 ≤ x0 ∧ x0 ≤ 9223372036854775807 ∧ x1 < 18446744073709551616 ∧ x2 < 18446744073709551616 ∧ x3 < 18446744073709551616 ∧ x4 < 18446744073709551616 ∧ x5 < 18446744073709551616 ∧ x6 < 18446744073709551616 := by
  have hu : Try.prog.underlying 25 = some (.struct (Try.prog.fieldsOf 25)) := by kernel_rfl
  obtain ⟨cs, rfl, hlen, hlv⟩ := open_struct hu slow_leaves (by kernel_rfl) hv h hlt
  obtain ⟨⟨x0, x1, x2, x3, x4, x5, x6⟩, ok, rfl⟩ := slow_cells hlen hlv
  exact ⟨x0, x1, x2, x3, x4, x5, x6, rfl, ok⟩
set_option maxRecDepth 100000 in
/-- A slice of them, with its room. -/
theorem open_slows {t : TypeId} {r : Reach} {b0 : Nat} {d : DataW H} {ps : List MemPlace} {v : Value} (ht : Try.prog.underlying t = some (.slice 25))
    (hv : Value.okWide Try.prog w r b0 t v) (h : DataW.Trod enc Try.prog w base spare held t v d ps) (hlt : ∀ x ∈ ps, x.block < w.heap.size) :
    ∃ A c ss, v = .slice A ss.length c ∧ (∀ x ∈ ss, Wig.Slow.Ok x) ∧ RdSlow w w.heap.size A ss ∧ ss.length ≤ maxLen ∧ ss.length ≤ c := by
  obtain ⟨A, n, c, b, off, cs, rfl, hm, hc, ha, hi⟩ := open_structs ht slow_leaves (by kernel_rfl) (by decide) hv h hlt
  have each : ∀ i, i < n → ∃ x : Wig.Slow, x.Ok ∧ SlowAt w b (off + i * 7) x := fun i hin => by
    obtain ⟨h1, h2, h3⟩ := hi i hin
    obtain ⟨x, hx, e⟩ := slow_cells h1 h2
    rw [e] at h3
    exact ⟨x, hx, SlowAt.of fun j hj => h3 j hj⟩
  obtain ⟨f, hfs⟩ : ∃ f : Nat → Wig.Slow, ∀ i, i < n → (f i).Ok ∧ SlowAt w b (off + i * 7) (f i) := by
    refine ⟨fun i => if h : i < n then Classical.choose (each i h) else ⟨0, 0, 0, 0, 0, 0, 0⟩, fun i hin => ?_⟩
    simp only [dif_pos hin]
    exact Classical.choose_spec (each i hin)
  obtain ⟨ss, hss⟩ : ∃ ss, ss = (List.range n).map f := ⟨_, rfl⟩
  have hlen : ss.length = n := by rw [hss]; simp
  have hat : ∀ j p, ss[j]? = some p → j < n ∧ p = f j := by
    intro j p hp
    have hj : j < n := by rcases Nat.lt_or_ge j n with h | h; exact h; rw [List.getElem?_eq_none (by omega)] at hp; cases hp
    rw [hss] at hp
    simp [hj] at hp
    exact ⟨hj, hp.symm⟩
  refine ⟨A, c, ss, by rw [hlen], fun p hp => ?_, fun hn => ?_, by omega, by omega⟩
  · obtain ⟨j, hj⟩ := List.getElem?_of_mem hp
    obtain ⟨h1, rfl⟩ := hat j p hj
    exact (hfs j h1).1
  · have hpos : 0 < n := by rw [← hlen]; exact List.length_pos_iff.2 hn
    obtain ⟨e, hb⟩ := ha (by omega)
    exact ⟨b, off, e, hb, fun j p hp => by obtain ⟨h1, rfl⟩ := hat j p hp; exact (hfs j h1).2⟩
end
end Go.Proofs.Ytaiephdacioedaa
