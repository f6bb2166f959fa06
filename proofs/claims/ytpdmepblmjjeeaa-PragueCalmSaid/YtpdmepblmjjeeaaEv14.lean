/-
  Structs among a law's arguments (wigwag/wigwaglaw14.Event), opened, by value and as a slice. No condition.
-/
import Derived.Test.YtpdmepblmjjeeaaLeaf
namespace Wig
/-- wigwag/wigwaglaw14.Event. -/
structure Ev where
  kind : Int
  now : Nat
  bytes : Nat
  at_ : Nat
  number : Nat
  next : Nat
  took : Nat
  flight : Nat
  rate : Nat
  limited : Bool
  round : Bool
  bytes2 : Nat
  at2 : Nat
deriving DecidableEq
def Ev.Ok (x : Ev) : Prop := -9223372036854775808 ≤ x.kind ∧ x.kind ≤ 9223372036854775807 ∧ x.now < 18446744073709551616 ∧ x.bytes < 18446744073709551616 ∧ x.at_ < 18446744073709551616 ∧ x.number < 18446744073709551616 ∧ x.next < 18446744073709551616 ∧ x.took < 18446744073709551616 ∧ x.flight < 18446744073709551616 ∧ x.rate < 18446744073709551616 ∧ x.bytes2 < 18446744073709551616 ∧ x.at2 < 18446744073709551616
end Wig
namespace Go.Proofs.Ytpdmepblmjjeeaa
open Go.ChangeShapes Go.WideShapes Go.ChangeAt Go.RowKit Go.Deep Go.Joins
set_option linter.unusedVariables false

/-- Its cells. -/
def evc (x : Wig.Ev) : List Value := [.int .i64 x.kind, .int .u64 (x.now : Int), .int .u64 (x.bytes : Int), .int .u64 (x.at_ : Int), .int .u64 (x.number : Int), .int .u64 (x.next : Int), .int .u64 (x.took : Int), .int .u64 (x.flight : Int), .int .u64 (x.rate : Int), .bool x.limited, .bool x.round, .int .u64 (x.bytes2 : Int), .int .u64 (x.at2 : Int)]
/-- The cells from a place on hold it. -/
def EvAt (w : World) (b o : Nat) (x : Wig.Ev) : Prop := w.cell? ⟨b, o, none⟩ = some (.int .i64 x.kind) ∧ w.cell? ⟨b, o + 1, none⟩ = some (.int .u64 (x.now : Int)) ∧ w.cell? ⟨b, o + 2, none⟩ = some (.int .u64 (x.bytes : Int)) ∧ w.cell? ⟨b, o + 3, none⟩ = some (.int .u64 (x.at_ : Int)) ∧ w.cell? ⟨b, o + 4, none⟩ = some (.int .u64 (x.number : Int)) ∧ w.cell? ⟨b, o + 5, none⟩ = some (.int .u64 (x.next : Int)) ∧ w.cell? ⟨b, o + 6, none⟩ = some (.int .u64 (x.took : Int)) ∧ w.cell? ⟨b, o + 7, none⟩ = some (.int .u64 (x.flight : Int)) ∧ w.cell? ⟨b, o + 8, none⟩ = some (.int .u64 (x.rate : Int)) ∧ w.cell? ⟨b, o + 9, none⟩ = some (.bool x.limited) ∧ w.cell? ⟨b, o + 10, none⟩ = some (.bool x.round) ∧ w.cell? ⟨b, o + 11, none⟩ = some (.int .u64 (x.bytes2 : Int)) ∧ w.cell? ⟨b, o + 12, none⟩ = some (.int .u64 (x.at2 : Int))
/-- The slice at A reads as ss, from a block below B. -/
def RdEv (w : World) (B : Nat) (A : Option Addr) (ss : List Wig.Ev) : Prop :=
  ss ≠ [] → ∃ b off, A = some ⟨b, off, none⟩ ∧ b < B ∧ ∀ j p, ss[j]? = some p → EvAt w b (off + j * 13) p
section
variable {w w' : World} {B B' : Nat} {A : Option Addr} {ss : List Wig.Ev}
theorem EvAt.keeps {b o : Nat} {p : Wig.Ev} (h : EvAt w b o p) (hk : ∀ q : Addr, q.block = b → w'.cell? q = w.cell? q) : EvAt w' b o p := ⟨(hk _ rfl).trans h.1, (hk _ rfl).trans h.2.1, (hk _ rfl).trans h.2.2.1, (hk _ rfl).trans h.2.2.2.1, (hk _ rfl).trans h.2.2.2.2.1, (hk _ rfl).trans h.2.2.2.2.2.1, (hk _ rfl).trans h.2.2.2.2.2.2.1, (hk _ rfl).trans h.2.2.2.2.2.2.2.1, (hk _ rfl).trans h.2.2.2.2.2.2.2.2.1, (hk _ rfl).trans h.2.2.2.2.2.2.2.2.2.1, (hk _ rfl).trans h.2.2.2.2.2.2.2.2.2.2.1, (hk _ rfl).trans h.2.2.2.2.2.2.2.2.2.2.2.1, (hk _ rfl).trans h.2.2.2.2.2.2.2.2.2.2.2.2⟩
theorem EvAt.of {b o : Nat} {p : Wig.Ev} (h : ∀ i, i < 13 → w.cell? ⟨b, o + i, none⟩ = (evc p)[i]?) : EvAt w b o p := ⟨h 0 (by omega), h 1 (by omega), h 2 (by omega), h 3 (by omega), h 4 (by omega), h 5 (by omega), h 6 (by omega), h 7 (by omega), h 8 (by omega), h 9 (by omega), h 10 (by omega), h 11 (by omega), h 12 (by omega)⟩
theorem EvAt.below {b o : Nat} {p : Wig.Ev} (h : EvAt w b o p) (hb : Below B w w') (hB : b < B) : EvAt w' b o p := h.keeps fun q hq => hb.cell (by rw [hq]; exact hB)
theorem RdEv.empty : RdEv w B A [] := fun h => absurd rfl h
theorem RdEv.keeps (h : RdEv w B A ss) (hk : ∀ p : Addr, p.block < B → w'.cell? p = w.cell? p) : RdEv w' B A ss := fun hn => by
  obtain ⟨b, off, e, hb, hc⟩ := h hn
  exact ⟨b, off, e, hb, fun j p hp => (hc j p hp).keeps fun q hq => hk q (by rw [hq]; exact hb)⟩
theorem RdEv.below (h : RdEv w B A ss) (hb : Below B w w') : RdEv w' B A ss := h.keeps fun _ hp => hb.cell hp
theorem RdEv.wide (h : RdEv w B A ss) (hB : B ≤ B') : RdEv w B' A ss := fun hn => by
  obtain ⟨b, off, e, hb, hc⟩ := h hn
  exact ⟨b, off, e, by omega, hc⟩
theorem RdEv.step (h : RdEv w w.heap.size A ss) (hb : Below w.heap.size w w') : RdEv w' w'.heap.size A ss := (h.below hb).wide hb.size
theorem RdEv.drewN (h : RdEv w B A ss) (n : Nat) : RdEv (w.drewN n) B A ss := h
theorem RdEv.at_ (h : RdEv w B A ss) {j : Nat} {p : Wig.Ev} (hp : ss[j]? = some p) : ∃ b off, A = some ⟨b, off, none⟩ ∧ b < B ∧ EvAt w b (off + j * 13) p := by
  obtain ⟨b, off, e, hb, hc⟩ := h (by intro e; subst e; simp at hp)
  exact ⟨b, off, e, hb, hc j p hp⟩
end
theorem ev_list {α : Type} {cs : List α} (h : cs.length = 13) : ∃ c0 c1 c2 c3 c4 c5 c6 c7 c8 c9 c10 c11 c12, cs = [c0, c1, c2, c3, c4, c5, c6, c7, c8, c9, c10, c11, c12] := by
  match cs, h with
  | [c0, c1, c2, c3, c4, c5, c6, c7, c8, c9, c10, c11, c12], _ => exact ⟨c0, c1, c2, c3, c4, c5, c6, c7, c8, c9, c10, c11, c12, rfl⟩
section
variable {H : Type} {enc : TypeId × Value → H} {w : World} {base : Nat} {spare : Nat → Bool} {held : Bool} {B : Nat}
theorem ev_leaves : leaves Try.prog 6 37 = some [3, 22, 22, 22, 22, 22, 22, 22, 22, 4, 4, 22, 22] := by kernel_rfl
/-- Its cells, read by their types. -/
theorem ev_cells {cs : List Value} (hl : cs.length = 13) (h : Leaves enc Try.prog w base spare held B [3, 22, 22, 22, 22, 22, 22, 22, 22, 4, 4, 22, 22] cs) : ∃ x : Wig.Ev, x.Ok ∧ cs = evc x := by
  obtain ⟨c0, c1, c2, c3, c4, c5, c6, c7, c8, c9, c10, c11, c12, rfl⟩ := ev_list hl
  obtain ⟨d0, e0, g0⟩ := h 0 _ rfl
  simp at e0
  subst e0
  obtain ⟨x0, rfl, b0, b0_⟩ := leaf_i64 Try.underlying3 g0
  obtain ⟨d1, e1, g1⟩ := h 1 _ rfl
  simp at e1
  subst e1
  obtain ⟨x1, rfl, b1⟩ := leaf_u64 Try.underlying22 g1
  obtain ⟨d2, e2, g2⟩ := h 2 _ rfl
  simp at e2
  subst e2
  obtain ⟨x2, rfl, b2⟩ := leaf_u64 Try.underlying22 g2
  obtain ⟨d3, e3, g3⟩ := h 3 _ rfl
  simp at e3
  subst e3
  obtain ⟨x3, rfl, b3⟩ := leaf_u64 Try.underlying22 g3
  obtain ⟨d4, e4, g4⟩ := h 4 _ rfl
  simp at e4
  subst e4
  obtain ⟨x4, rfl, b4⟩ := leaf_u64 Try.underlying22 g4
  obtain ⟨d5, e5, g5⟩ := h 5 _ rfl
  simp at e5
  subst e5
  obtain ⟨x5, rfl, b5⟩ := leaf_u64 Try.underlying22 g5
  obtain ⟨d6, e6, g6⟩ := h 6 _ rfl
  simp at e6
  subst e6
  obtain ⟨x6, rfl, b6⟩ := leaf_u64 Try.underlying22 g6
  obtain ⟨d7, e7, g7⟩ := h 7 _ rfl
  simp at e7
  subst e7
  obtain ⟨x7, rfl, b7⟩ := leaf_u64 Try.underlying22 g7
  obtain ⟨d8, e8, g8⟩ := h 8 _ rfl
  simp at e8
  subst e8
  obtain ⟨x8, rfl, b8⟩ := leaf_u64 Try.underlying22 g8
  obtain ⟨d9, e9, g9⟩ := h 9 _ rfl
  simp at e9
  subst e9
  obtain ⟨x9, rfl⟩ := leaf_bool Try.underlying4 g9
  obtain ⟨d10, e10, g10⟩ := h 10 _ rfl
  simp at e10
  subst e10
  obtain ⟨x10, rfl⟩ := leaf_bool Try.underlying4 g10
  obtain ⟨d11, e11, g11⟩ := h 11 _ rfl
  simp at e11
  subst e11
  obtain ⟨x11, rfl, b11⟩ := leaf_u64 Try.underlying22 g11
  obtain ⟨d12, e12, g12⟩ := h 12 _ rfl
  simp at e12
  subst e12
  obtain ⟨x12, rfl, b12⟩ := leaf_u64 Try.underlying22 g12
  exact ⟨⟨x0, x1, x2, x3, x4, x5, x6, x7, x8, x9, x10, x11, x12⟩, ⟨b0, b0_, b1, b2, b3, b4, b5, b6, b7, b8, b11, b12⟩, rfl⟩
set_option maxRecDepth 100000 in
/-- By value. -/
theorem open_ev {r : Reach} {b0 : Nat} {d : DataW H} {ps : List MemPlace} {v : Value} (hv : Value.okWide Try.prog w r b0 37 v) (h : DataW.Trod enc Try.prog w base spare held 37 v d ps) (hlt : ∀ x ∈ ps, x.block < w.heap.size) :
    ∃ (x0 : Int) (x1 : Nat) (x2 : Nat) (x3 : Nat) (x4 : Nat) (x5 : Nat) (x6 : Nat) (x7 : Nat) (x8 : Nat) (x9 : Bool) (x10 : Bool) (x11 : Nat) (x12 : Nat), v = .agg #[.int .i64 x0, .int .u64 (x1 : Int), .int .u64 (x2 : Int), .int .u64 (x3 : Int), .int .u64 (x4 : Int), .int .u64 (x5 : Int), .int .u64 (x6 : Int), .int .u64 (x7 : Int), .int .u64 (x8 : Int), .bool x9, .bool x10, .int .u64 (x11 : Int), .int .u64 (x12 : Int)] ∧ -9223372036854775808 ≤ x0 ∧ x0 ≤ 9223372036854775807 ∧ x1 < 18446744073709551616 ∧ x2 < 18446744073709551616 ∧ x3 < 18446744073709551616 ∧ x4 < 18446744073709551616 ∧ x5 < 18446744073709551616 ∧ x6 < 18446744073709551616 ∧ x7 < 18446744073709551616 ∧ x8 < 18446744073709551616 ∧ x11 < 18446744073709551616 ∧ x12 < 18446744073709551616 := by
  have hu : Try.prog.underlying 37 = some (.struct (Try.prog.fieldsOf 37)) := by kernel_rfl
  obtain ⟨cs, rfl, hlen, hlv⟩ := open_struct hu ev_leaves (by kernel_rfl) hv h hlt
  obtain ⟨⟨x0, x1, x2, x3, x4, x5, x6, x7, x8, x9, x10, x11, x12⟩, ok, rfl⟩ := ev_cells hlen hlv
  exact ⟨x0, x1, x2, x3, x4, x5, x6, x7, x8, x9, x10, x11, x12, rfl, ok⟩
set_option maxRecDepth 100000 in
/-- A slice of them, with its room. -/
theorem open_evs {t : TypeId} {r : Reach} {b0 : Nat} {d : DataW H} {ps : List MemPlace} {v : Value} (ht : Try.prog.underlying t = some (.slice 37))
    (hv : Value.okWide Try.prog w r b0 t v) (h : DataW.Trod enc Try.prog w base spare held t v d ps) (hlt : ∀ x ∈ ps, x.block < w.heap.size) :
    ∃ A c ss, v = .slice A ss.length c ∧ (∀ x ∈ ss, Wig.Ev.Ok x) ∧ RdEv w w.heap.size A ss ∧ ss.length ≤ maxLen ∧ ss.length ≤ c := by
  obtain ⟨A, n, c, b, off, cs, rfl, hm, hc, ha, hi⟩ := open_structs ht ev_leaves (by kernel_rfl) (by decide) hv h hlt
  have each : ∀ i, i < n → ∃ x : Wig.Ev, x.Ok ∧ EvAt w b (off + i * 13) x := fun i hin => by
    obtain ⟨h1, h2, h3⟩ := hi i hin
    obtain ⟨x, hx, e⟩ := ev_cells h1 h2
    rw [e] at h3
    exact ⟨x, hx, EvAt.of fun j hj => h3 j hj⟩
  obtain ⟨f, hfs⟩ : ∃ f : Nat → Wig.Ev, ∀ i, i < n → (f i).Ok ∧ EvAt w b (off + i * 13) (f i) := by
    refine ⟨fun i => if h : i < n then Classical.choose (each i h) else ⟨0, 0, 0, 0, 0, 0, 0, 0, 0, false, false, 0, 0⟩, fun i hin => ?_⟩
    simp only [dif_pos hin]
    exact Classical.choose_spec (each i hin)
  obtain ⟨ss, hss⟩ : ∃ ss, ss = (List.range n).map f := ⟨_, rfl⟩
  have hlen : ss.length = n := by rw [hss]; simp
  have hat : ∀ j p, ss[j]? = some p → j < n ∧ p = f j := by
    intro j p hp
    have hj : j < n := by rcases Nat.lt_or_ge j n with h | h; exact h; rw [List.getElem?_eq_none (by omega)] at hp; cases hp
    rw [hss] at hp
    simp [hj] at hp
    exact ⟨hj, hp.symm⟩
  refine ⟨A, c, ss, by rw [hlen], fun p hp => ?_, fun hn => ?_, by omega, by omega⟩
  · obtain ⟨j, hj⟩ := List.getElem?_of_mem hp
    obtain ⟨h1, rfl⟩ := hat j p hj
    exact (hfs j h1).1
  · have hpos : 0 < n := by rw [← hlen]; exact List.length_pos_iff.2 hn
    obtain ⟨e, hb⟩ := ha (by omega)
    exact ⟨b, off, e, hb, fun j p hp => by obtain ⟨h1, rfl⟩ := hat j p hp; exact (hfs j h1).2⟩
end
end Go.Proofs.Ytpdmepblmjjeeaa
