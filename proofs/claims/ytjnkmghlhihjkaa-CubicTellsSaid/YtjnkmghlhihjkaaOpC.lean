/-
  Structs among a law's arguments (wigwag/api.Cubic), opened, by value and as a slice. No condition.
-/
import Derived.Test.YtjnkmghlhihjkaaLeaf
namespace Wig
/-- wigwag/api.Cubic. -/
structure Cubic where
  cwnd : Nat
  thresh : Nat
  since : Nat
  has : Bool
  epoch : Nat
  most : Nat
  k : Nat
  est : Nat
deriving DecidableEq
def Cubic.Ok (x : Cubic) : Prop := x.cwnd < 18446744073709551616 ∧ x.thresh < 18446744073709551616 ∧ x.since < 18446744073709551616 ∧ x.epoch < 18446744073709551616 ∧ x.most < 18446744073709551616 ∧ x.k < 18446744073709551616 ∧ x.est < 18446744073709551616
end Wig
namespace Go.Proofs.Ytjnkmghlhihjkaa
open Go.ChangeShapes Go.WideShapes Go.ChangeAt Go.RowKit Go.Deep Go.Joins
set_option linter.unusedVariables false

/-- Its cells. -/
def cubicc (x : Wig.Cubic) : List Value := [.int .u64 (x.cwnd : Int), .int .u64 (x.thresh : Int), .int .u64 (x.since : Int), .bool x.has, .int .u64 (x.epoch : Int), .int .u64 (x.most : Int), .int .u64 (x.k : Int), .int .u64 (x.est : Int)]
/-- The cells from a place on hold it. -/
def CubicAt (w : World) (b o : Nat) (x : Wig.Cubic) : Prop := w.cell? ⟨b, o, none⟩ = some (.int .u64 (x.cwnd : Int)) ∧ w.cell? ⟨b, o + 1, none⟩ = some (.int .u64 (x.thresh : Int)) ∧ w.cell? ⟨b, o + 2, none⟩ = some (.int .u64 (x.since : Int)) ∧ w.cell? ⟨b, o + 3, none⟩ = some (.bool x.has) ∧ w.cell? ⟨b, o + 4, none⟩ = some (.int .u64 (x.epoch : Int)) ∧ w.cell? ⟨b, o + 5, none⟩ = some (.int .u64 (x.most : Int)) ∧ w.cell? ⟨b, o + 6, none⟩ = some (.int .u64 (x.k : Int)) ∧ w.cell? ⟨b, o + 7, none⟩ = some (.int .u64 (x.est : Int))
/-- The slice at A reads as ss, from a block below B. -/
def RdCubic (w : World) (B : Nat) (A : Option Addr) (ss : List Wig.Cubic) : Prop :=
  ss ≠ [] → ∃ b off, A = some ⟨b, off, none⟩ ∧ b < B ∧ ∀ j p, ss[j]? = some p → CubicAt w b (off + j * 8) p
section
variable {w w' : World} {B B' : Nat} {A : Option Addr} {ss : List Wig.Cubic}
theorem CubicAt.keeps {b o : Nat} {p : Wig.Cubic} (h : CubicAt w b o p) (hk : ∀ q : Addr, q.block = b → w'.cell? q = w.cell? q) : CubicAt w' b o p := ⟨(hk _ rfl).trans h.1, (hk _ rfl).trans h.2.1, (hk _ rfl).trans h.2.2.1, (hk _ rfl).trans h.2.2.2.1, (hk _ rfl).trans h.2.2.2.2.1, (hk _ rfl).trans h.2.2.2.2.2.1, (hk _ rfl).trans h.2.2.2.2.2.2.1, (hk _ rfl).trans h.2.2.2.2.2.2.2⟩
theorem CubicAt.of {b o : Nat} {p : Wig.Cubic} (h : ∀ i, i < 8 → w.cell? ⟨b, o + i, none⟩ = (cubicc p)[i]?) : CubicAt w b o p := ⟨h 0 (by omega), h 1 (by omega), h 2 (by omega), h 3 (by omega), h 4 (by omega), h 5 (by omega), h 6 (by omega), h 7 (by omega)⟩
theorem CubicAt.below {b o : Nat} {p : Wig.Cubic} (h : CubicAt w b o p) (hb : Below B w w') (hB : b < B) : CubicAt w' b o p := h.keeps fun q hq => hb.cell (by rw [hq]; exact hB)
theorem RdCubic.empty : RdCubic w B A [] := fun h => absurd rfl h
theorem RdCubic.keeps (h : RdCubic w B A ss) (hk : ∀ p : Addr, p.block < B → w'.cell? p = w.cell? p) : RdCubic w' B A ss := fun hn => by
  obtain ⟨b, off, e, hb, hc⟩ := h hn
  exact ⟨b, off, e, hb, fun j p hp => (hc j p hp).keeps fun q hq => hk q (by rw [hq]; exact hb)⟩
theorem RdCubic.below (h : RdCubic w B A ss) (hb : Below B w w') : RdCubic w' B A ss := h.keeps fun _ hp => hb.cell hp
theorem RdCubic.wide (h : RdCubic w B A ss) (hB : B ≤ B') : RdCubic w B' A ss := fun hn => by
  obtain ⟨b, off, e, hb, hc⟩ := h hn
  exact ⟨b, off, e, by omega, hc⟩
theorem RdCubic.step (h : RdCubic w w.heap.size A ss) (hb : Below w.heap.size w w') : RdCubic w' w'.heap.size A ss := (h.below hb).wide hb.size
theorem RdCubic.drewN (h : RdCubic w B A ss) (n : Nat) : RdCubic (w.drewN n) B A ss := h
theorem RdCubic.at_ (h : RdCubic w B A ss) {j : Nat} {p : Wig.Cubic} (hp : ss[j]? = some p) : ∃ b off, A = some ⟨b, off, none⟩ ∧ b < B ∧ CubicAt w b (off + j * 8) p := by
  obtain ⟨b, off, e, hb, hc⟩ := h (by intro e; subst e; simp at hp)
  exact ⟨b, off, e, hb, hc j p hp⟩
end
theorem cubic_list {α : Type} {cs : List α} (h : cs.length = 8) : ∃ c0 c1 c2 c3 c4 c5 c6 c7, cs = [c0, c1, c2, c3, c4, c5, c6, c7] := by
  match cs, h with
  | [c0, c1, c2, c3, c4, c5, c6, c7], _ => exact ⟨c0, c1, c2, c3, c4, c5, c6, c7, rfl⟩
section
variable {H : Type} {enc : TypeId × Value → H} {w : World} {base : Nat} {spare : Nat → Bool} {held : Bool} {B : Nat}
theorem cubic_leaves : leaves Try.prog 6 24 = some [22, 22, 22, 4, 22, 22, 22, 22] := by kernel_rfl
/-- Its cells, read by their types. -/
theorem cubic_cells {cs : List Value} (hl : cs.length = 8) (h : Leaves enc Try.prog w base spare held B [22, 22, 22, 4, 22, 22, 22, 22] cs) : ∃ x : Wig.Cubic, x.Ok ∧ cs = cubicc x := by
  obtain ⟨c0, c1, c2, c3, c4, c5, c6, c7, rfl⟩ := cubic_list hl
  obtain ⟨d0, e0, g0⟩ := h 0 _ rfl
  simp at e0
  subst e0
  obtain ⟨x0, rfl, b0⟩ := leaf_u64 Try.underlying22 g0
  obtain ⟨d1, e1, g1⟩ := h 1 _ rfl
  simp at e1
  subst e1
  obtain ⟨x1, rfl, b1⟩ := leaf_u64 Try.underlying22 g1
  obtain ⟨d2, e2, g2⟩ := h 2 _ rfl
  simp at e2
  subst e2
  obtain ⟨x2, rfl, b2⟩ := leaf_u64 Try.underlying22 g2
  obtain ⟨d3, e3, g3⟩ := h 3 _ rfl
  simp at e3
  subst e3
  obtain ⟨x3, rfl⟩ := leaf_bool Try.underlying4 g3
  obtain ⟨d4, e4, g4⟩ := h 4 _ rfl
  simp at e4
  subst e4
  obtain ⟨x4, rfl, b4⟩ := leaf_u64 Try.underlying22 g4
  obtain ⟨d5, e5, g5⟩ := h 5 _ rfl
  simp at e5
  subst e5
  obtain ⟨x5, rfl, b5⟩ := leaf_u64 Try.underlying22 g5
  obtain ⟨d6, e6, g6⟩ := h 6 _ rfl
  simp at e6
  subst e6
  obtain ⟨x6, rfl, b6⟩ := leaf_u64 Try.underlying22 g6
  obtain ⟨d7, e7, g7⟩ := h 7 _ rfl
  simp at e7
  subst e7
  obtain ⟨x7, rfl, b7⟩ := leaf_u64 Try.underlying22 g7
  exact ⟨⟨x0, x1, x2, x3, x4, x5, x6, x7⟩, ⟨b0, b1, b2, b4, b5, b6, b7⟩, rfl⟩
set_option maxRecDepth 100000 in
/-- By value. -/
theorem open_cubic {r : Reach} {b0 : Nat} {d : DataW H} {ps : List MemPlace} {v : Value} (hv : Value.okWide Try.prog w r b0 24 v) (h : DataW.Trod enc Try.prog w base spare held 24 v d ps) (hlt : ∀ x ∈ ps, x.block < w.heap.size) :
    ∃ (x0 : Nat) (x1 : Nat) (x2 : Nat) (x3 : Bool) (x4 : Nat) (x5 : Nat) (x6 : Nat) (x7 : Nat), v = .agg #[.int .u64 (x0 : Int), .int .u64 (x1 : Int), .int .u64 (x2 : Int), .bool x3, .int .u64 (x4 : Int), .int .u64 (x5 : Int), .int .u64 (x6 : Int), .int .u64 (x7 : Int)] ∧ x0 < 18446744073709551616 ∧ x1 < 18446744073709551616 ∧ x2 < 18446744073709551616 ∧ x4 < 18446744073709551616 ∧ x5 < 18446744073709551616 ∧ x6 < 18446744073709551616 ∧ x7 < 18446744073709551616 := by
  have hu : Try.prog.underlying 24 = some (.struct (Try.prog.fieldsOf 24)) := by kernel_rfl
  obtain ⟨cs, rfl, hlen, hlv⟩ := open_struct hu cubic_leaves (by kernel_rfl) hv h hlt
  obtain ⟨⟨x0, x1, x2, x3, x4, x5, x6, x7⟩, ok, rfl⟩ := cubic_cells hlen hlv
  exact ⟨x0, x1, x2, x3, x4, x5, x6, x7, rfl, ok⟩
set_option maxRecDepth 100000 in
/-- A slice of them, with its room. -/
theorem open_cubics {t : TypeId} {r : Reach} {b0 : Nat} {d : DataW H} {ps : List MemPlace} {v : Value} (ht : Try.prog.underlying t = some (.slice 24))
    (hv : Value.okWide Try.prog w r b0 t v) (h : DataW.Trod enc Try.prog w base spare held t v d ps) (hlt : ∀ x ∈ ps, x.block < w.heap.size) :
    ∃ A c ss, v = .slice A ss.length c ∧ (∀ x ∈ ss, Wig.Cubic.Ok x) ∧ RdCubic w w.heap.size A ss ∧ ss.length ≤ maxLen ∧ ss.length ≤ c := by
  obtain ⟨A, n, c, b, off, cs, rfl, hm, hc, ha, hi⟩ := open_structs ht cubic_leaves (by kernel_rfl) (by decide) hv h hlt
  have each : ∀ i, i < n → ∃ x : Wig.Cubic, x.Ok ∧ CubicAt w b (off + i * 8) x := fun i hin => by
    obtain ⟨h1, h2, h3⟩ := hi i hin
    obtain ⟨x, hx, e⟩ := cubic_cells h1 h2
    rw [e] at h3
    exact ⟨x, hx, CubicAt.of fun j hj => h3 j hj⟩
  obtain ⟨f, hfs⟩ : ∃ f : Nat → Wig.Cubic, ∀ i, i < n → (f i).Ok ∧ CubicAt w b (off + i * 8) (f i) := by
    refine ⟨fun i => if h : i < n then Classical.choose (each i h) else ⟨0, 0, 0, false, 0, 0, 0, 0⟩, fun i hin => ?_⟩
    simp only [dif_pos hin]
    exact Classical.choose_spec (each i hin)
  obtain ⟨ss, hss⟩ : ∃ ss, ss = (List.range n).map f := ⟨_, rfl⟩
  have hlen : ss.length = n := by rw [hss]; simp
  have hat : ∀ j p, ss[j]? = some p → j < n ∧ p = f j := by
    intro j p hp
    have hj : j < n := by rcases Nat.lt_or_ge j n with h | h; exact h; rw [List.getElem?_eq_none (by omega)] at hp; cases hp
    rw [hss] at hp
    simp [hj] at hp
    exact ⟨hj, hp.symm⟩
  refine ⟨A, c, ss, by rw [hlen], fun p hp => ?_, fun hn => ?_, by omega, by omega⟩
  · obtain ⟨j, hj⟩ := List.getElem?_of_mem hp
    obtain ⟨h1, rfl⟩ := hat j p hj
    exact (hfs j h1).1
  · have hpos : 0 < n := by rw [← hlen]; exact List.length_pos_iff.2 hn
    obtain ⟨e, hb⟩ := ha (by omega)
    exact ⟨b, off, e, hb, fun j p hp => by obtain ⟨h1, rfl⟩ := hat j p hp; exact (hfs j h1).2⟩
end
end Go.Proofs.Ytjnkmghlhihjkaa
