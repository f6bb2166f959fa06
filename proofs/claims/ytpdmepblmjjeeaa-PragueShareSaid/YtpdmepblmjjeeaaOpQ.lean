/-
  Structs among a law's arguments (wigwag/api.Prague), opened, by value and as a slice. No condition.
-/
import Derived.Test.YtpdmepblmjjeeaaLeaf
namespace Wig
/-- wigwag/api.Prague. -/
structure Prague where
  cwnd : Nat
  thresh : Nat
  since : Nat
  rest : Nat
  alpha : Nat
  acked : Nat
  marked : Nat
  fin : Nat
  cut : Bool
deriving DecidableEq
def Prague.Ok (x : Prague) : Prop := x.cwnd < 18446744073709551616 ∧ x.thresh < 18446744073709551616 ∧ x.since < 18446744073709551616 ∧ x.rest < 18446744073709551616 ∧ x.alpha < 18446744073709551616 ∧ x.acked < 18446744073709551616 ∧ x.marked < 18446744073709551616 ∧ x.fin < 18446744073709551616
end Wig
namespace Go.Proofs.Ytpdmepblmjjeeaa
open Go.ChangeShapes Go.WideShapes Go.ChangeAt Go.RowKit Go.Deep Go.Joins
set_option linter.unusedVariables false

/-- Its cells. -/
def praguec (x : Wig.Prague) : List Value := [.int .u64 (x.cwnd : Int), .int .u64 (x.thresh : Int), .int .u64 (x.since : Int), .int .u64 (x.rest : Int), .int .u64 (x.alpha : Int), .int .u64 (x.acked : Int), .int .u64 (x.marked : Int), .int .u64 (x.fin : Int), .bool x.cut]
/-- The cells from a place on hold it. -/
def PragueAt (w : World) (b o : Nat) (x : Wig.Prague) : Prop := w.cell? ⟨b, o, none⟩ = some (.int .u64 (x.cwnd : Int)) ∧ w.cell? ⟨b, o + 1, none⟩ = some (.int .u64 (x.thresh : Int)) ∧ w.cell? ⟨b, o + 2, none⟩ = some (.int .u64 (x.since : Int)) ∧ w.cell? ⟨b, o + 3, none⟩ = some (.int .u64 (x.rest : Int)) ∧ w.cell? ⟨b, o + 4, none⟩ = some (.int .u64 (x.alpha : Int)) ∧ w.cell? ⟨b, o + 5, none⟩ = some (.int .u64 (x.acked : Int)) ∧ w.cell? ⟨b, o + 6, none⟩ = some (.int .u64 (x.marked : Int)) ∧ w.cell? ⟨b, o + 7, none⟩ = some (.int .u64 (x.fin : Int)) ∧ w.cell? ⟨b, o + 8, none⟩ = some (.bool x.cut)
/-- The slice at A reads as ss, from a block below B. -/
def RdPrague (w : World) (B : Nat) (A : Option Addr) (ss : List Wig.Prague) : Prop :=
  ss ≠ [] → ∃ b off, A = some ⟨b, off, none⟩ ∧ b < B ∧ ∀ j p, ss[j]? = some p → PragueAt w b (off + j * 9) p
section
variable {w w' : World} {B B' : Nat} {A : Option Addr} {ss : List Wig.Prague}
theorem PragueAt.keeps {b o : Nat} {p : Wig.Prague} (h : PragueAt w b o p) (hk : ∀ q : Addr, q.block = b → w'.cell? q = w.cell? q) : PragueAt w' b o p := ⟨(hk _ rfl).trans h.1, (hk _ rfl).trans h.2.1, (hk _ rfl).trans h.2.2.1, (hk _ rfl).trans h.2.2.2.1, (hk _ rfl).trans h.2.2.2.2.1, (hk _ rfl).trans h.2.2.2.2.2.1, (hk _ rfl).trans h.2.2.2.2.2.2.1, (hk _ rfl).trans h.2.2.2.2.2.2.2.1, (hk _ rfl).trans h.2.2.2.2.2.2.2.2⟩
theorem PragueAt.of {b o : Nat} {p : Wig.Prague} (h : ∀ i, i < 9 → w.cell? ⟨b, o + i, none⟩ = (praguec p)[i]?) : PragueAt w b o p := ⟨h 0 (by omega), h 1 (by omega), h 2 (by omega), h 3 (by omega), h 4 (by omega), h 5 (by omega), h 6 (by omega), h 7 (by omega), h 8 (by omega)⟩
theorem PragueAt.below {b o : Nat} {p : Wig.Prague} (h : PragueAt w b o p) (hb : Below B w w') (hB : b < B) : PragueAt w' b o p := h.keeps fun q hq => hb.cell (by rw [hq]; exact hB)
theorem RdPrague.empty : RdPrague w B A [] := fun h => absurd rfl h
theorem RdPrague.keeps (h : RdPrague w B A ss) (hk : ∀ p : Addr, p.block < B → w'.cell? p = w.cell? p) : RdPrague w' B A ss := fun hn => by
  obtain ⟨b, off, e, hb, hc⟩ := h hn
  exact ⟨b, off, e, hb, fun j p hp => (hc j p hp).keeps fun q hq => hk q (by rw [hq]; exact hb)⟩
theorem RdPrague.below (h : RdPrague w B A ss) (hb : Below B w w') : RdPrague w' B A ss := h.keeps fun _ hp => hb.cell hp
theorem RdPrague.wide (h : RdPrague w B A ss) (hB : B ≤ B') : RdPrague w B' A ss := fun hn => by
  obtain ⟨b, off, e, hb, hc⟩ := h hn
  exact ⟨b, off, e, by omega, hc⟩
theorem RdPrague.step (h : RdPrague w w.heap.size A ss) (hb : Below w.heap.size w w') : RdPrague w' w'.heap.size A ss := (h.below hb).wide hb.size
theorem RdPrague.drewN (h : RdPrague w B A ss) (n : Nat) : RdPrague (w.drewN n) B A ss := h
theorem RdPrague.at_ (h : RdPrague w B A ss) {j : Nat} {p : Wig.Prague} (hp : ss[j]? = some p) : ∃ b off, A = some ⟨b, off, none⟩ ∧ b < B ∧ PragueAt w b (off + j * 9) p := by
  obtain ⟨b, off, e, hb, hc⟩ := h (by intro e; subst e; simp at hp)
  exact ⟨b, off, e, hb, hc j p hp⟩
end
theorem prague_list {α : Type} {cs : List α} (h : cs.length = 9) : ∃ c0 c1 c2 c3 c4 c5 c6 c7 c8, cs = [c0, c1, c2, c3, c4, c5, c6, c7, c8] := by
  match cs, h with
  | [c0, c1, c2, c3, c4, c5, c6, c7, c8], _ => exact ⟨c0, c1, c2, c3, c4, c5, c6, c7, c8, rfl⟩
section
variable {H : Type} {enc : TypeId × Value → H} {w : World} {base : Nat} {spare : Nat → Bool} {held : Bool} {B : Nat}
theorem prague_leaves : leaves Try.prog 6 26 = some [22, 22, 22, 22, 22, 22, 22, 22, 4] := by kernel_rfl
/-- Its cells, read by their types. -/
theorem prague_cells {cs : List Value} (hl : cs.length = 9) (h : Leaves enc Try.prog w base spare held B [22, 22, 22, 22, 22, 22, 22, 22, 4] cs) : ∃ x : Wig.Prague, x.Ok ∧ cs = praguec x := by
  obtain ⟨c0, c1, c2, c3, c4, c5, c6, c7, c8, rfl⟩ := prague_list hl
  obtain ⟨d0, e0, g0⟩ := h 0 _ rfl
  simp at e0
  subst e0
  obtain ⟨x0, rfl, b0⟩ := leaf_u64 Try.underlying22 g0
  obtain ⟨d1, e1, g1⟩ := h 1 _ rfl
  simp at e1
  subst e1
  obtain ⟨x1, rfl, b1⟩ := leaf_u64 Try.underlying22 g1
  obtain ⟨d2, e2, g2⟩ := h 2 _ rfl
  simp at e2
  subst e2
  obtain ⟨x2, rfl, b2⟩ := leaf_u64 Try.underlying22 g2
  obtain ⟨d3, e3, g3⟩ := h 3 _ rfl
  simp at e3
  subst e3
  obtain ⟨x3, rfl, b3⟩ := leaf_u64 Try.underlying22 g3
  obtain ⟨d4, e4, g4⟩ := h 4 _ rfl
  simp at e4
  subst e4
  obtain ⟨x4, rfl, b4⟩ := leaf_u64 Try.underlying22 g4
  obtain ⟨d5, e5, g5⟩ := h 5 _ rfl
  simp at e5
  subst e5
  obtain ⟨x5, rfl, b5⟩ := leaf_u64 Try.underlying22 g5
  obtain ⟨d6, e6, g6⟩ := h 6 _ rfl
  simp at e6
  subst e6
  obtain ⟨x6, rfl, b6⟩ := leaf_u64 Try.underlying22 g6
  obtain ⟨d7, e7, g7⟩ := h 7 _ rfl
  simp at e7
  subst e7
  obtain ⟨x7, rfl, b7⟩ := leaf_u64 Try.underlying22 g7
  obtain ⟨d8, e8, g8⟩ := h 8 _ rfl
  simp at e8
  subst e8
  obtain ⟨x8, rfl⟩ := leaf_bool Try.underlying4 g8
  exact ⟨⟨x0, x1, x2, x3, x4, x5, x6, x7, x8⟩, ⟨b0, b1, b2, b3, b4, b5, b6, b7⟩, rfl⟩
set_option maxRecDepth 100000 in
/-- By value. -/
theorem open_prague {r : Reach} {b0 : Nat} {d : DataW H} {ps : List MemPlace} {v : Value} (hv : Value.okWide Try.prog w r b0 26 v) (h : DataW.Trod enc Try.prog w base spare held 26 v d ps) (hlt : ∀ x ∈ ps, x.block < w.heap.size) :
    ∃ (x0 : Nat) (x1 : Nat) (x2 : Nat) (x3 : Nat) (x4 : Nat) (x5 : Nat) (x6 : Nat) (x7 : Nat) (x8 : Bool), v = .agg #[.int .u64 (x0 : Int), .int .u64 (x1 : Int), .int .u64 (x2 : Int), .int .u64 (x3 : Int), .int .u64 (x4 : Int), .int .u64 (x5 : Int), .int .u64 (x6 : Int), .int .u64 (x7 : Int), .bool x8] ∧ x0 < 18446744073709551616 ∧ x1 < 18446744073709551616 ∧ x2 < 18446744073709551616 ∧ x3 < 18446744073709551616 ∧ x4 < 18446744073709551616 ∧ x5 < 18446744073709551616 ∧ x6 < 18446744073709551616 ∧ x7 < 18446744073709551616 := by
  have hu : Try.prog.underlying 26 = some (.struct (Try.prog.fieldsOf 26)) := by kernel_rfl
  obtain ⟨cs, rfl, hlen, hlv⟩ := open_struct hu prague_leaves (by kernel_rfl) hv h hlt
  obtain ⟨⟨x0, x1, x2, x3, x4, x5, x6, x7, x8⟩, ok, rfl⟩ := prague_cells hlen hlv
  exact ⟨x0, x1, x2, x3, x4, x5, x6, x7, x8, rfl, ok⟩
set_option maxRecDepth 100000 in
/-- A slice of them, with its room. -/
theorem open_pragues {t : TypeId} {r : Reach} {b0 : Nat} {d : DataW H} {ps : List MemPlace} {v : Value} (ht : Try.prog.underlying t = some (.slice 26))
    (hv : Value.okWide Try.prog w r b0 t v) (h : DataW.Trod enc Try.prog w base spare held t v d ps) (hlt : ∀ x ∈ ps, x.block < w.heap.size) :
    ∃ A c ss, v = .slice A ss.length c ∧ (∀ x ∈ ss, Wig.Prague.Ok x) ∧ RdPrague w w.heap.size A ss ∧ ss.length ≤ maxLen ∧ ss.length ≤ c := by
  obtain ⟨A, n, c, b, off, cs, rfl, hm, hc, ha, hi⟩ := open_structs ht prague_leaves (by kernel_rfl) (by decide) hv h hlt
  have each : ∀ i, i < n → ∃ x : Wig.Prague, x.Ok ∧ PragueAt w b (off + i * 9) x := fun i hin => by
    obtain ⟨h1, h2, h3⟩ := hi i hin
    obtain ⟨x, hx, e⟩ := prague_cells h1 h2
    rw [e] at h3
    exact ⟨x, hx, PragueAt.of fun j hj => h3 j hj⟩
  obtain ⟨f, hfs⟩ : ∃ f : Nat → Wig.Prague, ∀ i, i < n → (f i).Ok ∧ PragueAt w b (off + i * 9) (f i) := by
    refine ⟨fun i => if h : i < n then Classical.choose (each i h) else ⟨0, 0, 0, 0, 0, 0, 0, 0, false⟩, fun i hin => ?_⟩
    simp only [dif_pos hin]
    exact Classical.choose_spec (each i hin)
  obtain ⟨ss, hss⟩ : ∃ ss, ss = (List.range n).map f := ⟨_, rfl⟩
  have hlen : ss.length = n := by rw [hss]; simp
  have hat : ∀ j p, ss[j]? = some p → j < n ∧ p = f j := by
    intro j p hp
    have hj : j < n := by rcases Nat.lt_or_ge j n with h | h; exact h; rw [List.getElem?_eq_none (by omega)] at hp; cases hp
    rw [hss] at hp
    simp [hj] at hp
    exact ⟨hj, hp.symm⟩
  refine ⟨A, c, ss, by rw [hlen], fun p hp => ?_, fun hn => ?_, by omega, by omega⟩
  · obtain ⟨j, hj⟩ := List.getElem?_of_mem hp
    obtain ⟨h1, rfl⟩ := hat j p hj
    exact (hfs j h1).1
  · have hpos : 0 < n := by rw [← hlen]; exact List.length_pos_iff.2 hn
    obtain ⟨e, hb⟩ := ha (by omega)
    exact ⟨b, off, e, hb, fun j p hp => by obtain ⟨h1, rfl⟩ := hat j p hp; exact (hfs j h1).2⟩
end
end Go.Proofs.Ytpdmepblmjjeeaa
