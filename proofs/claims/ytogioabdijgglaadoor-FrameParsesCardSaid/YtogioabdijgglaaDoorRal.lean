/-
  What the document's ack and behind leave: boxes of results. No condition.
-/
import Derived.Test.YtogioabdijgglaaDoorRak
namespace Go.Proofs.YtogioabdijgglaaDoor
open Go.ChangeShapes Go.WideShapes Go.ChangeAt Go.RowKit Go.Deep
set_option linter.unusedVariables false
theorem at_cells {w : World} {b : Nat} {f : Wig.Fr} {D S : Option Addr} {dc sc : Nat} (h : At w b 0 f D dc S sc) :
    w.cell? ⟨b, 0, none⟩ = some (.int .i64 f.kind) ∧ w.cell? ⟨b, 1, none⟩ = some (.int .u64 (f.id : Int)) ∧ w.cell? ⟨b, 2, none⟩ = some (.int .u64 (f.off : Int)) ∧ w.cell? ⟨b, 3, none⟩ = some (.int .u64 (f.max : Int)) ∧ w.cell? ⟨b, 4, none⟩ = some (.int .u64 (f.code : Int)) ∧ w.cell? ⟨b, 5, none⟩ = some (.int .u64 (f.delay : Int)) ∧ w.cell? ⟨b, 6, none⟩ = some (.int .u64 (f.ce : Int)) ∧ w.cell? ⟨b, 7, none⟩ = some (.bool f.fin) ∧ w.cell? ⟨b, 8, none⟩ = some (.slice D f.data.length dc) ∧ w.cell? ⟨b, 9, none⟩ = some (.slice S f.spans.length sc) := by
  have k0 := h.c0
  have k1 := h.c1
  have k2 := h.c2
  have k3 := h.c3
  have k4 := h.c4
  have k5 := h.c5
  have k6 := h.c6
  have k7 := h.c7
  have k8 := h.c8
  have k9 := h.c9
  simp only [Nat.zero_add] at k0 k1 k2 k3 k4 k5 k6 k7 k8 k9
  exact ⟨k0, k1, k2, k3, k4, k5, k6, k7, k8, k9⟩
theorem box_cells {wn wi : World} {b : Nat} (h : Box wn b) (hb : Below wn.heap.size wn wi) :
    (wi.cell? ⟨b, 0, none⟩ = some (.int .i64 0) ∧ wi.cell? ⟨b, 1, none⟩ = some (.int .u64 0) ∧ wi.cell? ⟨b, 2, none⟩ = some (.int .u64 0) ∧ wi.cell? ⟨b, 3, none⟩ = some (.int .u64 0) ∧ wi.cell? ⟨b, 4, none⟩ = some (.int .u64 0) ∧ wi.cell? ⟨b, 5, none⟩ = some (.int .u64 0) ∧ wi.cell? ⟨b, 6, none⟩ = some (.int .u64 0) ∧ wi.cell? ⟨b, 7, none⟩ = some (.bool false) ∧ wi.cell? ⟨b, 8, none⟩ = some (.slice none 0 0) ∧ wi.cell? ⟨b, 9, none⟩ = some (.slice none 0 0)) ∧
    wi.frozen? ⟨b, 0, none⟩ = false ∧ wi.frozen? ⟨b, 1, none⟩ = false ∧ wi.frozen? ⟨b, 2, none⟩ = false ∧ wi.frozen? ⟨b, 3, none⟩ = false ∧ wi.frozen? ⟨b, 4, none⟩ = false ∧ wi.frozen? ⟨b, 5, none⟩ = false ∧ wi.frozen? ⟨b, 6, none⟩ = false ∧ wi.frozen? ⟨b, 7, none⟩ = false ∧ wi.frozen? ⟨b, 8, none⟩ = false ∧ wi.frozen? ⟨b, 9, none⟩ = false := by
  have q := h.below hb
  exact ⟨at_cells q.1, q.2.2 0, q.2.2 1, q.2.2 2, q.2.2 3, q.2.2 4, q.2.2 5, q.2.2 6, q.2.2 7, q.2.2 8, q.2.2 9⟩
theorem box_put {wn wi : World} {b : Nat} (h : Box wn b) (hb : Below wn.heap.size wn wi) (f : Wig.Fr) (D : Option Addr) (dc : Nat) (S : Option Addr) (sc : Nat) :
    At (wi.setCells b 0 (farr f D dc S sc).toList) b 0 f D dc S sc ∧ Below b wn (wi.setCells b 0 (farr f D dc S sc).toList) :=
  ⟨at_set (h.below hb).1, (hb.mono (Nat.le_of_lt h.2.1)).trans (below_sets b _ _ _)⟩
theorem box_zero {wn wi : World} {b : Nat} (h : Box wn b) (hb : Below wn.heap.size wn wi) :
    At (wi.setCells b 0 (farr Wig.Fr.zero none 0 none 0).toList) b 0 Wig.Fr.zero none 0 none 0 ∧ Below b wn (wi.setCells b 0 (farr Wig.Fr.zero none 0 none 0).toList) := box_put h hb _ _ _ _ _
theorem box_lies {wi : World} {b : Nat} {f : Wig.Fr} {D S : Option Addr} {dc sc : Nat} (hl : Lies wi wi.heap.size f D dc S sc) (hD : ∀ b' o s, D = some ⟨b', o, s⟩ → b < b') (hS : ∀ b' o s, S = some ⟨b', o, s⟩ → b < b') :
    Lies (wi.setCells b 0 (farr f D dc S sc).toList) (wi.setCells b 0 (farr f D dc S sc).toList).heap.size f D dc S sc :=
  hl.above hD hS (below_sets b _ 0 wi).size fun b' j hb' => block_sets (by omega) _ _ _ _
theorem take_empty (ab ao m : Nat) (cnt : Nat) (w : World) (hm : m = 0) (h1 : 1 ≤ cnt) (h100 : cnt ≤ 100) : Calls Tryd.prog 43 #[.slice (some ⟨ab, ao, none⟩) m 0, .int .i64 (cnt : Int)] w fun e w' => e = .returned (.tuple #[.slice none 0 0, .int .i64 0, .bool false]) ∧ Below w.heap.size w w' := by
  refine (rtake_any ab ao m 0 cnt [] w (by intro x hx; cases hx) RdN.empty (by rw [hm]; rfl) (by omega) (Nat.zero_le _) h100).mono ?_
  rintro e w' (⟨_, rfl, hb⟩ | ⟨v, p, vs, h2, _⟩)
  · exact ⟨rfl, hb⟩
  · rw [Wig.rtake_none (i := 1) rfl cnt h1] at h2
    cases h2
theorem take_nil (cnt : Nat) (h1 : 1 ≤ cnt) : Wig.rtake cnt [] = none := Wig.rtake_none (i := 1) rfl cnt h1
theorem one_of {xs vs : List Nat} {r : List Nat} (h : Wig.rtake 1 xs = some (vs, r)) : ∃ c, vs = [c] := List.length_eq_one_iff.1 (Wig.rtake_len 1 h)
theorem two_of {xs vs : List Nat} {r : List Nat} (h : Wig.rtake 2 xs = some (vs, r)) : ∃ c d, vs = [c, d] := by
  have := Wig.rtake_len 2 h
  rcases vs with _ | ⟨x, _ | ⟨y, _ | ⟨z, r⟩⟩⟩ <;> simp at this
  exact ⟨x, y, rfl⟩
end Go.Proofs.YtogioabdijgglaaDoor
