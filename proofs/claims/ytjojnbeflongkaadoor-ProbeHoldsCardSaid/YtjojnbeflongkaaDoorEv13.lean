/-
  Structs among a law's arguments (wigwag/wigwaglaw13.Event), opened, by value and as a slice. No condition.
-/
import Derived.Test.YtjojnbeflongkaaDoorLeaf
namespace Wig
/-- wigwag/wigwaglaw13.Event. -/
structure Ev where
  lost : Bool
  now : Nat
  bytes : Nat
  at_ : Nat
  number : Nat
  next : Nat
  took : Nat
  flight : Nat
  rate : Nat
  limited : Bool
  round : Bool
deriving DecidableEq
def Ev.Ok (x : Ev) : Prop := x.now < 18446744073709551616 ∧ x.bytes < 18446744073709551616 ∧ x.at_ < 18446744073709551616 ∧ x.number < 18446744073709551616 ∧ x.next < 18446744073709551616 ∧ x.took < 18446744073709551616 ∧ x.flight < 18446744073709551616 ∧ x.rate < 18446744073709551616
end Wig
namespace Go.Proofs.YtjojnbeflongkaaDoor
open Go.ChangeShapes Go.WideShapes Go.ChangeAt Go.RowKit Go.Deep Go.Joins
set_option linter.unusedVariables false

/-- Its cells. -/
def evc (x : Wig.Ev) : List Value := [.bool x.lost, .int .u64 (x.now : Int), .int .u64 (x.bytes : Int), .int .u64 (x.at_ : Int), .int .u64 (x.number : Int), .int .u64 (x.next : Int), .int .u64 (x.took : Int), .int .u64 (x.flight : Int), .int .u64 (x.rate : Int), .bool x.limited, .bool x.round]
/-- The cells from a place on hold it. -/
def EvAt (w : World) (b o : Nat) (x : Wig.Ev) : Prop := w.cell? ⟨b, o, none⟩ = some (.bool x.lost) ∧ w.cell? ⟨b, o + 1, none⟩ = some (.int .u64 (x.now : Int)) ∧ w.cell? ⟨b, o + 2, none⟩ = some (.int .u64 (x.bytes : Int)) ∧ w.cell? ⟨b, o + 3, none⟩ = some (.int .u64 (x.at_ : Int)) ∧ w.cell? ⟨b, o + 4, none⟩ = some (.int .u64 (x.number : Int)) ∧ w.cell? ⟨b, o + 5, none⟩ = some (.int .u64 (x.next : Int)) ∧ w.cell? ⟨b, o + 6, none⟩ = some (.int .u64 (x.took : Int)) ∧ w.cell? ⟨b, o + 7, none⟩ = some (.int .u64 (x.flight : Int)) ∧ w.cell? ⟨b, o + 8, none⟩ = some (.int .u64 (x.rate : Int)) ∧ w.cell? ⟨b, o + 9, none⟩ = some (.bool x.limited) ∧ w.cell? ⟨b, o + 10, none⟩ = some (.bool x.round)
/-- The slice at A reads as ss, from a block below B. -/
def RdEv (w : World) (B : Nat) (A : Option Addr) (ss : List Wig.Ev) : Prop :=
  ss ≠ [] → ∃ b off, A = some ⟨b, off, none⟩ ∧ b < B ∧ ∀ j p, ss[j]? = some p → EvAt w b (off + j * 11) p
section
variable {w w' : World} {B B' : Nat} {A : Option Addr} {ss : List Wig.Ev}
theorem EvAt.keeps {b o : Nat} {p : Wig.Ev} (h : EvAt w b o p) (hk : ∀ q : Addr, q.block = b → w'.cell? q = w.cell? q) : EvAt w' b o p := ⟨(hk _ rfl).trans h.1, (hk _ rfl).trans h.2.1, (hk _ rfl).trans h.2.2.1, (hk _ rfl).trans h.2.2.2.1, (hk _ rfl).trans h.2.2.2.2.1, (hk _ rfl).trans h.2.2.2.2.2.1, (hk _ rfl).trans h.2.2.2.2.2.2.1, (hk _ rfl).trans h.2.2.2.2.2.2.2.1, (hk _ rfl).trans h.2.2.2.2.2.2.2.2.1, (hk _ rfl).trans h.2.2.2.2.2.2.2.2.2.1, (hk _ rfl).trans h.2.2.2.2.2.2.2.2.2.2⟩
theorem EvAt.of {b o : Nat} {p : Wig.Ev} (h : ∀ i, i < 11 → w.cell? ⟨b, o + i, none⟩ = (evc p)[i]?) : EvAt w b o p := ⟨h 0 (by omega), h 1 (by omega), h 2 (by omega), h 3 (by omega), h 4 (by omega), h 5 (by omega), h 6 (by omega), h 7 (by omega), h 8 (by omega), h 9 (by omega), h 10 (by omega)⟩
theorem EvAt.below {b o : Nat} {p : Wig.Ev} (h : EvAt w b o p) (hb : Below B w w') (hB : b < B) : EvAt w' b o p := h.keeps fun q hq => hb.cell (by rw [hq]; exact hB)
theorem RdEv.empty : RdEv w B A [] := fun h => absurd rfl h
theorem RdEv.keeps (h : RdEv w B A ss) (hk : ∀ p : Addr, p.block < B → w'.cell? p = w.cell? p) : RdEv w' B A ss := fun hn => by
  obtain ⟨b, off, e, hb, hc⟩ := h hn
  exact ⟨b, off, e, hb, fun j p hp => (hc j p hp).keeps fun q hq => hk q (by rw [hq]; exact hb)⟩
theorem RdEv.below (h : RdEv w B A ss) (hb : Below B w w') : RdEv w' B A ss := h.keeps fun _ hp => hb.cell hp
theorem RdEv.wide (h : RdEv w B A ss) (hB : B ≤ B') : RdEv w B' A ss := fun hn => by
  obtain ⟨b, off, e, hb, hc⟩ := h hn
  exact ⟨b, off, e, by omega, hc⟩
theorem RdEv.step (h : RdEv w w.heap.size A ss) (hb : Below w.heap.size w w') : RdEv w' w'.heap.size A ss := (h.below hb).wide hb.size
theorem RdEv.drewN (h : RdEv w B A ss) (n : Nat) : RdEv (w.drewN n) B A ss := h
theorem RdEv.at_ (h : RdEv w B A ss) {j : Nat} {p : Wig.Ev} (hp : ss[j]? = some p) : ∃ b off, A = some ⟨b, off, none⟩ ∧ b < B ∧ EvAt w b (off + j * 11) p := by
  obtain ⟨b, off, e, hb, hc⟩ := h (by intro e; subst e; simp at hp)
  exact ⟨b, off, e, hb, hc j p hp⟩
end
theorem ev_list {α : Type} {cs : List α} (h : cs.length = 11) : ∃ c0 c1 c2 c3 c4 c5 c6 c7 c8 c9 c10, cs = [c0, c1, c2, c3, c4, c5, c6, c7, c8, c9, c10] := by
  match cs, h with
  | [c0, c1, c2, c3, c4, c5, c6, c7, c8, c9, c10], _ => exact ⟨c0, c1, c2, c3, c4, c5, c6, c7, c8, c9, c10, rfl⟩
section
variable {H : Type} {enc : TypeId × Value → H} {w : World} {base : Nat} {spare : Nat → Bool} {held : Bool} {B : Nat}
theorem ev_leaves : leaves Tryd.prog 6 38 = some [4, 24, 24, 24, 24, 24, 24, 24, 24, 4, 4] := by kernel_rfl
/-- Its cells, read by their types. -/
theorem ev_cells {cs : List Value} (hl : cs.length = 11) (h : Leaves enc Tryd.prog w base spare held B [4, 24, 24, 24, 24, 24, 24, 24, 24, 4, 4] cs) : ∃ x : Wig.Ev, x.Ok ∧ cs = evc x := by
  obtain ⟨c0, c1, c2, c3, c4, c5, c6, c7, c8, c9, c10, rfl⟩ := ev_list hl
  obtain ⟨d0, e0, g0⟩ := h 0 _ rfl
  simp at e0
  subst e0
  obtain ⟨x0, rfl⟩ := leaf_bool Tryd.underlying4 g0
  obtain ⟨d1, e1, g1⟩ := h 1 _ rfl
  simp at e1
  subst e1
  obtain ⟨x1, rfl, b1⟩ := leaf_u64 Tryd.underlying24 g1
  obtain ⟨d2, e2, g2⟩ := h 2 _ rfl
  simp at e2
  subst e2
  obtain ⟨x2, rfl, b2⟩ := leaf_u64 Tryd.underlying24 g2
  obtain ⟨d3, e3, g3⟩ := h 3 _ rfl
  simp at e3
  subst e3
  obtain ⟨x3, rfl, b3⟩ := leaf_u64 Tryd.underlying24 g3
  obtain ⟨d4, e4, g4⟩ := h 4 _ rfl
  simp at e4
  subst e4
  obtain ⟨x4, rfl, b4⟩ := leaf_u64 Tryd.underlying24 g4
  obtain ⟨d5, e5, g5⟩ := h 5 _ rfl
  simp at e5
  subst e5
  obtain ⟨x5, rfl, b5⟩ := leaf_u64 Tryd.underlying24 g5
  obtain ⟨d6, e6, g6⟩ := h 6 _ rfl
  simp at e6
  subst e6
  obtain ⟨x6, rfl, b6⟩ := leaf_u64 Tryd.underlying24 g6
  obtain ⟨d7, e7, g7⟩ := h 7 _ rfl
  simp at e7
  subst e7
  obtain ⟨x7, rfl, b7⟩ := leaf_u64 Tryd.underlying24 g7
  obtain ⟨d8, e8, g8⟩ := h 8 _ rfl
  simp at e8
  subst e8
  obtain ⟨x8, rfl, b8⟩ := leaf_u64 Tryd.underlying24 g8
  obtain ⟨d9, e9, g9⟩ := h 9 _ rfl
  simp at e9
  subst e9
  obtain ⟨x9, rfl⟩ := leaf_bool Tryd.underlying4 g9
  obtain ⟨d10, e10, g10⟩ := h 10 _ rfl
  simp at e10
  subst e10
  obtain ⟨x10, rfl⟩ := leaf_bool Tryd.underlying4 g10
  exact ⟨⟨x0, x1, x2, x3, x4, x5, x6, x7, x8, x9, x10⟩, ⟨b1, b2, b3, b4, b5, b6, b7, b8⟩, rfl⟩
set_option maxRecDepth 100000 in
/-- By value. -/
theorem open_ev {r : Reach} {b0 : Nat} {d : DataW H} {ps : List MemPlace} {v : Value} (hv : Value.okWide Tryd.prog w r b0 38 v) (h : DataW.Trod enc Tryd.prog w base spare held 38 v d ps) (hlt : ∀ x ∈ ps, x.block < w.heap.size) :
    ∃ (x0 : Bool) (x1 : Nat) (x2 : Nat) (x3 : Nat) (x4 : Nat) (x5 : Nat) (x6 : Nat) (x7 : Nat) (x8 : Nat) (x9 : Bool) (x10 : Bool), v = .agg #[.bool x0, .int .u64 (x1 : Int), .int .u64 (x2 : Int), .int .u64 (x3 : Int), .int .u64 (x4 : Int), .int .u64 (x5 : Int), .int .u64 (x6 : Int), .int .u64 (x7 : Int), .int .u64 (x8 : Int), .bool x9, .bool x10] ∧ x1 < 18446744073709551616 ∧ x2 < 18446744073709551616 ∧ x3 < 18446744073709551616 ∧ x4 < 18446744073709551616 ∧ x5 < 18446744073709551616 ∧ x6 < 18446744073709551616 ∧ x7 < 18446744073709551616 ∧ x8 < 18446744073709551616 := by
  have hu : Tryd.prog.underlying 38 = some (.struct (Tryd.prog.fieldsOf 38)) := by kernel_rfl
  obtain ⟨cs, rfl, hlen, hlv⟩ := open_struct hu ev_leaves (by kernel_rfl) hv h hlt
  obtain ⟨⟨x0, x1, x2, x3, x4, x5, x6, x7, x8, x9, x10⟩, ok, rfl⟩ := ev_cells hlen hlv
  exact ⟨x0, x1, x2, x3, x4, x5, x6, x7, x8, x9, x10, rfl, ok⟩
set_option maxRecDepth 100000 in
/-- A slice of them, with its room. -/
theorem open_evs {t : TypeId} {r : Reach} {b0 : Nat} {d : DataW H} {ps : List MemPlace} {v : Value} (ht : Tryd.prog.underlying t = some (.slice 38))
    (hv : Value.okWide Tryd.prog w r b0 t v) (h : DataW.Trod enc Tryd.prog w base spare held t v d ps) (hlt : ∀ x ∈ ps, x.block < w.heap.size) :
    ∃ A c ss, v = .slice A ss.length c ∧ (∀ x ∈ ss, Wig.Ev.Ok x) ∧ RdEv w w.heap.size A ss ∧ ss.length ≤ maxLen ∧ ss.length ≤ c := by
  obtain ⟨A, n, c, b, off, cs, rfl, hm, hc, ha, hi⟩ := open_structs ht ev_leaves (by kernel_rfl) (by decide) hv h hlt
  have each : ∀ i, i < n → ∃ x : Wig.Ev, x.Ok ∧ EvAt w b (off + i * 11) x := fun i hin => by
    obtain ⟨h1, h2, h3⟩ := hi i hin
    obtain ⟨x, hx, e⟩ := ev_cells h1 h2
    rw [e] at h3
    exact ⟨x, hx, EvAt.of fun j hj => h3 j hj⟩
  obtain ⟨f, hfs⟩ : ∃ f : Nat → Wig.Ev, ∀ i, i < n → (f i).Ok ∧ EvAt w b (off + i * 11) (f i) := by
    refine ⟨fun i => if h : i < n then Classical.choose (each i h) else ⟨false, 0, 0, 0, 0, 0, 0, 0, 0, false, false⟩, fun i hin => ?_⟩
    simp only [dif_pos hin]
    exact Classical.choose_spec (each i hin)
  obtain ⟨ss, hss⟩ : ∃ ss, ss = (List.range n).map f := ⟨_, rfl⟩
  have hlen : ss.length = n := by rw [hss]; simp
  have hat : ∀ j p, ss[j]? = some p → j < n ∧ p = f j := by
    intro j p hp
    have hj : j < n := by rcases Nat.lt_or_ge j n with h | h; exact h; rw [List.getElem?_eq_none (by omega)] at hp; cases hp
    rw [hss] at hp
    simp [hj] at hp
    exact ⟨hj, hp.symm⟩
  refine ⟨A, c, ss, by rw [hlen], fun p hp => ?_, fun hn => ?_, by omega, by omega⟩
  · obtain ⟨j, hj⟩ := List.getElem?_of_mem hp
    obtain ⟨h1, rfl⟩ := hat j p hj
    exact (hfs j h1).1
  · have hpos : 0 < n := by rw [← hlen]; exact List.length_pos_iff.2 hn
    obtain ⟨e, hb⟩ := ha (by omega)
    exact ⟨b, off, e, hb, fun j p hp => by obtain ⟨h1, rfl⟩ := hat j p hp; exact (hfs j h1).2⟩
end
end Go.Proofs.YtjojnbeflongkaaDoor
