/-
  The document's ack(kind, b): an answer's frame behind its Kind. Condition: the bytes have an address.
-/
import Derived.Test.YtogioabdijgglaaDoorRpl
import Derived.Test.YtogioabdijgglaaDoorRdP
import Derived.Deep.RegionHeld3
namespace Wig
theorem dack_of (k : Nat) (xs : List Nat) : dack k xs = match rtake 1 xs with
    | none => none
    | some (l, r) => if l.headD 0 < 1 ∨ 32 < l.headD 0 then none else match rtake (2 * l.headD 0) r with
      | none => none
      | some (vs, r2) => match rtake (if k = 3 then 2 else 1) r2 with
        | none => none
        | some (more, r3) => match racked vs with
          | none => none
          | some s => some ({ Fr.zero with kind := (k : Int), spans := s, delay := more.headD 0, ce := if k = 3 then (more.drop 1).headD 0 else 0 }, r3) := by
  unfold dack
  simp only [rtake, pbind, pret]
  cases num1 xs with
  | none => rfl
  | some q =>
    obtain ⟨c, r⟩ := q
    by_cases h : c < 1 ∨ 32 < c
    · simp only []
      rw [if_pos h]
      exact (if_pos h).symm
    · simp only []
      rw [if_neg h]
      refine Eq.trans ?_ (if_neg h).symm
      simp only [List.headD_cons]
      unfold pbind
      cases rtake (2 * c) r with
      | none => rfl
      | some q2 =>
        obtain ⟨vs, r2⟩ := q2
        simp only []
        generalize rtake (if k = 3 then 2 else 1) r2 = t
        cases t with
        | none => rfl
        | some q3 =>
          simp only []
          cases racked vs <;> rfl
end Wig
namespace Go.Proofs.YtogioabdijgglaaDoor
open Go.ChangeShapes Go.WideShapes Go.ChangeAt Go.RowKit Go.Deep
set_option linter.unusedVariables false
/-- What take returns, as one sentence. -/
def TakeU (xs : List Nat) (cnt : Nat) (w : World) (e : Ending) (w' : World) : Prop :=
  ∃ A m mc p ok vs, e = .returned (.tuple #[.slice A m mc, .int .i64 ((p : Nat) : Int), .bool ok]) ∧ m = vs.length ∧ RdN .u64 w' w'.heap.size A vs ∧ (∀ x ∈ vs, x < 4611686018427387904) ∧ Below w.heap.size w w' ∧
    (ok = true → Wig.rtake cnt xs = some (vs, xs.drop p) ∧ p ≤ xs.length) ∧ (ok = false → Wig.rtake cnt xs = none)
theorem takeAt_u {xs : List Nat} {cnt : Nat} {w w' : World} {e : Ending} (h : TakeAt xs cnt w e w') : TakeU xs cnt w e w' := by
  rcases h with ⟨h1, rfl, hb⟩ | ⟨v, p, vs, h1, h2, rfl, h3, h4, hb⟩
  · exact ⟨none, 0, 0, 0, false, [], rfl, rfl, RdN.empty, (by simp), hb, (by simp), fun _ => h1⟩
  · obtain ⟨A, c, rfl, _, _, hr, _⟩ := h3.rd
    exact ⟨A, vs.length, c, p, true, vs, rfl, rfl, hr, h4, hb, fun _ => ⟨h1, h2⟩, (by simp)⟩
/-- What acked returns, as one sentence. -/
def AckedU (l : List Nat) (w : World) (e : Ending) (w' : World) : Prop :=
  ∃ A m sc ok s, e = .returned (.tuple #[.slice A m sc, .bool ok]) ∧ m = s.length ∧ m ≤ sc ∧ sc ≤ maxLen ∧ RdS w' w'.heap.size A s ∧ (∀ b o x, A = some ⟨b, o, x⟩ → w.heap.size ≤ b) ∧ Below w.heap.size w w' ∧
    (ok = true → Wig.racked l = some s) ∧ (ok = false → Wig.racked l = none)
theorem ackedAt_u {l : List Nat} {w w' : World} {e : Ending} (h : AckedAt l w e w') : AckedU l w e w' := by
  rcases h with ⟨h1, rfl, hb⟩ | ⟨v, s, h1, rfl, h3, hb⟩
  · exact ⟨none, 0, 0, false, [], rfl, rfl, Nat.le_refl _, (by simp), RdS.empty, (by simp), hb, (by simp), fun _ => h1⟩
  · obtain ⟨A, c, rfl, h4, hr, h5⟩ := h3.rd
    have h6 : c ≤ maxLen := by
      rcases h3.2 with ⟨e, _⟩ | ⟨g, cap, cur, e, _, _, _, hcap, _⟩
      · injection e with _ _ e; rw [e]; exact Nat.zero_le _
      · injection e with _ _ e; rw [e]; exact hcap
    have h7 : ∀ b o x, A = some ⟨b, o, x⟩ → w.heap.size ≤ b := by
      intro b o x e
      rcases h3.2 with ⟨e2, _⟩ | ⟨g, cap, cur, e2, hg, _⟩
      · injection e2 with e2; rw [e] at e2; cases e2
      · injection e2 with e2; rw [e] at e2; injection e2 with e2; injection e2 with e2; omega
    exact ⟨A, s.length, c, true, s, rfl, rfl, h4, h6, hr, h7, hb, fun _ => h1, (by simp)⟩
/-- What a reader of frames of the document's returns. -/
def FrameAt (F : Wig.Prs Wig.Fr) (xs : List Nat) (w : World) (e : Ending) (w' : World) : Prop :=
  (F xs = none ∧ e = .returned (.tuple #[.agg (farr Wig.Fr.zero none 0 none 0), .int .i64 0, .bool false]) ∧ Below w.heap.size w w') ∨
  ∃ f D dc S sc p, F xs = some (f, xs.drop p) ∧ p ≤ xs.length ∧ e = .returned (.tuple #[.agg (farr f D dc S sc), .int .i64 ((p : Nat) : Int), .bool true]) ∧ Lies w' w'.heap.size f D dc S sc ∧ Below w.heap.size w w' ∧ (∀ b o s, D = some ⟨b, o, s⟩ → w.heap.size ≤ b) ∧ (∀ b o s, S = some ⟨b, o, s⟩ → w.heap.size ≤ b)
/-- The box of a result, as it was made. -/
def Box (w : World) (b : Nat) : Prop := At w b 0 Wig.Fr.zero none 0 none 0 ∧ b < w.heap.size ∧ ∀ j, w.frozen? ⟨b, j, none⟩ = false
theorem Box.below {w w' : World} {b : Nat} (h : Box w b) (hb : Below w.heap.size w w') : Box w' b :=
  ⟨h.1.below hb, Nat.lt_of_lt_of_le h.2.1 hb.size, fun j => (hb.frozen h.2.1).trans (h.2.2 j)⟩
theorem box_new (w : World) (t : TypeId) : Box (w.alloc (.cells (farr Wig.Fr.zero none 0 none 0) t)) w.heap.size := by
  exact ⟨at_box w _ _ _ _ _ t, by simp, fun j => World.frozen?_alloc_at _ _ _ _ rfl⟩
theorem held_one {w1 w' : World} {p : Addr} {u : Value} (h : w1.cell? p = some u) (hw : p.block < w1.heap.size) (hb : Below w1.heap.size w1 w') : w'.cell? p = some u ∧ Below w1.heap.size w1 w' := ⟨(hb.cell hw).trans h, hb⟩
theorem held_b {w1 w' : World} {B : Nat} {p : Addr} {u : Value} (h : w'.cell? p = some u ∧ Below B w1 w') : Below B w1 w' := h.2
end Go.Proofs.YtogioabdijgglaaDoor
