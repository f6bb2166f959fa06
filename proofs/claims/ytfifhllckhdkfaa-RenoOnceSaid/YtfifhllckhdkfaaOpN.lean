/-
  Structs among a law's arguments (wigwag/api.Reno), opened, by value and as a slice. No condition.
-/
import Derived.Test.YtfifhllckhdkfaaLeaf
namespace Wig
/-- wigwag/api.Reno. -/
structure Reno where
  cwnd : Nat
  thresh : Nat
  since : Nat
  rest : Nat
deriving DecidableEq
def Reno.Ok (x : Reno) : Prop := x.cwnd < 18446744073709551616 ∧ x.thresh < 18446744073709551616 ∧ x.since < 18446744073709551616 ∧ x.rest < 18446744073709551616
end Wig
namespace Go.Proofs.Ytfifhllckhdkfaa
open Go.ChangeShapes Go.WideShapes Go.ChangeAt Go.RowKit Go.Deep Go.Joins
set_option linter.unusedVariables false

/-- Its cells. -/
def renoc (x : Wig.Reno) : List Value := [.int .u64 (x.cwnd : Int), .int .u64 (x.thresh : Int), .int .u64 (x.since : Int), .int .u64 (x.rest : Int)]
/-- The cells from a place on hold it. -/
def RenoAt (w : World) (b o : Nat) (x : Wig.Reno) : Prop := w.cell? ⟨b, o, none⟩ = some (.int .u64 (x.cwnd : Int)) ∧ w.cell? ⟨b, o + 1, none⟩ = some (.int .u64 (x.thresh : Int)) ∧ w.cell? ⟨b, o + 2, none⟩ = some (.int .u64 (x.since : Int)) ∧ w.cell? ⟨b, o + 3, none⟩ = some (.int .u64 (x.rest : Int))
/-- The slice at A reads as ss, from a block below B. -/
def RdReno (w : World) (B : Nat) (A : Option Addr) (ss : List Wig.Reno) : Prop :=
  ss ≠ [] → ∃ b off, A = some ⟨b, off, none⟩ ∧ b < B ∧ ∀ j p, ss[j]? = some p → RenoAt w b (off + j * 4) p
section
variable {w w' : World} {B B' : Nat} {A : Option Addr} {ss : List Wig.Reno}
theorem RenoAt.keeps {b o : Nat} {p : Wig.Reno} (h : RenoAt w b o p) (hk : ∀ q : Addr, q.block = b → w'.cell? q = w.cell? q) : RenoAt w' b o p := ⟨(hk _ rfl).trans h.1, (hk _ rfl).trans h.2.1, (hk _ rfl).trans h.2.2.1, (hk _ rfl).trans h.2.2.2⟩
theorem RenoAt.of {b o : Nat} {p : Wig.Reno} (h : ∀ i, i < 4 → w.cell? ⟨b, o + i, none⟩ = (renoc p)[i]?) : RenoAt w b o p := ⟨h 0 (by omega), h 1 (by omega), h 2 (by omega), h 3 (by omega)⟩
theorem RenoAt.below {b o : Nat} {p : Wig.Reno} (h : RenoAt w b o p) (hb : Below B w w') (hB : b < B) : RenoAt w' b o p := h.keeps fun q hq => hb.cell (by rw [hq]; exact hB)
theorem RdReno.empty : RdReno w B A [] := fun h => absurd rfl h
theorem RdReno.keeps (h : RdReno w B A ss) (hk : ∀ p : Addr, p.block < B → w'.cell? p = w.cell? p) : RdReno w' B A ss := fun hn => by
  obtain ⟨b, off, e, hb, hc⟩ := h hn
  exact ⟨b, off, e, hb, fun j p hp => (hc j p hp).keeps fun q hq => hk q (by rw [hq]; exact hb)⟩
theorem RdReno.below (h : RdReno w B A ss) (hb : Below B w w') : RdReno w' B A ss := h.keeps fun _ hp => hb.cell hp
theorem RdReno.wide (h : RdReno w B A ss) (hB : B ≤ B') : RdReno w B' A ss := fun hn => by
  obtain ⟨b, off, e, hb, hc⟩ := h hn
  exact ⟨b, off, e, by omega, hc⟩
theorem RdReno.step (h : RdReno w w.heap.size A ss) (hb : Below w.heap.size w w') : RdReno w' w'.heap.size A ss := (h.below hb).wide hb.size
theorem RdReno.drewN (h : RdReno w B A ss) (n : Nat) : RdReno (w.drewN n) B A ss := h
theorem RdReno.at_ (h : RdReno w B A ss) {j : Nat} {p : Wig.Reno} (hp : ss[j]? = some p) : ∃ b off, A = some ⟨b, off, none⟩ ∧ b < B ∧ RenoAt w b (off + j * 4) p := by
  obtain ⟨b, off, e, hb, hc⟩ := h (by intro e; subst e; simp at hp)
  exact ⟨b, off, e, hb, hc j p hp⟩
end
theorem reno_list {α : Type} {cs : List α} (h : cs.length = 4) : ∃ c0 c1 c2 c3, cs = [c0, c1, c2, c3] := by
  match cs, h with
  | [c0, c1, c2, c3], _ => exact ⟨c0, c1, c2, c3, rfl⟩
section
variable {H : Type} {enc : TypeId × Value → H} {w : World} {base : Nat} {spare : Nat → Bool} {held : Bool} {B : Nat}
theorem reno_leaves : leaves Try.prog 6 25 = some [23, 23, 23, 23] := by kernel_rfl
/-- Its cells, read by their types. -/
theorem reno_cells {cs : List Value} (hl : cs.length = 4) (h : Leaves enc Try.prog w base spare held B [23, 23, 23, 23] cs) : ∃ x : Wig.Reno, x.Ok ∧ cs = renoc x := by
  obtain ⟨c0, c1, c2, c3, rfl⟩ := reno_list hl
  obtain ⟨d0, e0, g0⟩ := h 0 _ rfl
  simp at e0
  subst e0
  obtain ⟨x0, rfl, b0⟩ := leaf_u64 Try.underlying23 g0
  obtain ⟨d1, e1, g1⟩ := h 1 _ rfl
  simp at e1
  subst e1
  obtain ⟨x1, rfl, b1⟩ := leaf_u64 Try.underlying23 g1
  obtain ⟨d2, e2, g2⟩ := h 2 _ rfl
  simp at e2
  subst e2
  obtain ⟨x2, rfl, b2⟩ := leaf_u64 Try.underlying23 g2
  obtain ⟨d3, e3, g3⟩ := h 3 _ rfl
  simp at e3
  subst e3
  obtain ⟨x3, rfl, b3⟩ := leaf_u64 Try.underlying23 g3
  exact ⟨⟨x0, x1, x2, x3⟩, ⟨b0, b1, b2, b3⟩, rfl⟩
set_option maxRecDepth 100000 in
/-- By value. -/
theorem open_reno {r : Reach} {b0 : Nat} {d : DataW H} {ps : List MemPlace} {v : Value} (hv : Value.okWide Try.prog w r b0 25 v) (h : DataW.Trod enc Try.prog w base spare held 25 v d ps) (hlt : ∀ x ∈ ps, x.block < w.heap.size) :
    ∃ (x0 : Nat) (x1 : Nat) (x2 : Nat) (x3 : Nat), v = .agg #[.int .u64 (x0 : Int), .int .u64 (x1 : Int), .int .u64 (x2 : Int), .int .u64 (x3 : Int)] ∧ x0 < 18446744073709551616 ∧ x1 < 18446744073709551616 ∧ x2 < 18446744073709551616 ∧ x3 < 18446744073709551616 := by
  have hu : Try.prog.underlying 25 = some (.struct (Try.prog.fieldsOf 25)) := by kernel_rfl
  obtain ⟨cs, rfl, hlen, hlv⟩ := open_struct hu reno_leaves (by kernel_rfl) hv h hlt
  obtain ⟨⟨x0, x1, x2, x3⟩, ok, rfl⟩ := reno_cells hlen hlv
  exact ⟨x0, x1, x2, x3, rfl, ok⟩
set_option maxRecDepth 100000 in
/-- A slice of them, with its room. -/
theorem open_renos {t : TypeId} {r : Reach} {b0 : Nat} {d : DataW H} {ps : List MemPlace} {v : Value} (ht : Try.prog.underlying t = some (.slice 25))
    (hv : Value.okWide Try.prog w r b0 t v) (h : DataW.Trod enc Try.prog w base spare held t v d ps) (hlt : ∀ x ∈ ps, x.block < w.heap.size) :
    ∃ A c ss, v = .slice A ss.length c ∧ (∀ x ∈ ss, Wig.Reno.Ok x) ∧ RdReno w w.heap.size A ss ∧ ss.length ≤ maxLen ∧ ss.length ≤ c := by
  obtain ⟨A, n, c, b, off, cs, rfl, hm, hc, ha, hi⟩ := open_structs ht reno_leaves (by kernel_rfl) (by decide) hv h hlt
  have each : ∀ i, i < n → ∃ x : Wig.Reno, x.Ok ∧ RenoAt w b (off + i * 4) x := fun i hin => by
    obtain ⟨h1, h2, h3⟩ := hi i hin
    obtain ⟨x, hx, e⟩ := reno_cells h1 h2
    rw [e] at h3
    exact ⟨x, hx, RenoAt.of fun j hj => h3 j hj⟩
  obtain ⟨f, hfs⟩ : ∃ f : Nat → Wig.Reno, ∀ i, i < n → (f i).Ok ∧ RenoAt w b (off + i * 4) (f i) := by
    refine ⟨fun i => if h : i < n then Classical.choose (each i h) else ⟨0, 0, 0, 0⟩, fun i hin => ?_⟩
    simp only [dif_pos hin]
    exact Classical.choose_spec (each i hin)
  obtain ⟨ss, hss⟩ : ∃ ss, ss = (List.range n).map f := ⟨_, rfl⟩
  have hlen : ss.length = n := by rw [hss]; simp
  have hat : ∀ j p, ss[j]? = some p → j < n ∧ p = f j := by
    intro j p hp
    have hj : j < n := by rcases Nat.lt_or_ge j n with h | h; exact h; rw [List.getElem?_eq_none (by omega)] at hp; cases hp
    rw [hss] at hp
    simp [hj] at hp
    exact ⟨hj, hp.symm⟩
  refine ⟨A, c, ss, by rw [hlen], fun p hp => ?_, fun hn => ?_, by omega, by omega⟩
  · obtain ⟨j, hj⟩ := List.getElem?_of_mem hp
    obtain ⟨h1, rfl⟩ := hat j p hj
    exact (hfs j h1).1
  · have hpos : 0 < n := by rw [← hlen]; exact List.length_pos_iff.2 hn
    obtain ⟨e, hb⟩ := ha (by omega)
    exact ⟨b, off, e, hb, fun j p hp => by obtain ⟨h1, rfl⟩ := hat j p hp; exact (hfs j h1).2⟩
end
end Go.Proofs.Ytfifhllckhdkfaa
