/-
  Arguments that are structs, or slices of structs, whatever structs they hold: their one-cell parts, each read by its own type. No condition.
-/
import Derived.Test.YtpdmepblmjjeeaaOpen
import Derived.Laws.OwnMore
import Derived.Deep.AppendLies
import Derived.Deep.Draws
import Derived.Deep.Slices
import Derived.Deep.Fields
import Derived.ChangeSame
namespace Go.Proofs.Ytpdmepblmjjeeaa
open Go.ChangeShapes Go.WideShapes Go.ChangeAt Go.RowKit Go.Deep Go.Joins
set_option linter.unusedVariables false

/-- The parts' types of a row of fields that begins at cell o. -/
def leavesF (P : Program) (g : TypeId → Option (List TypeId)) : List Field → Nat → Option (List TypeId)
  | [], _ => some []
  | f :: fs, o => match g f.type with
    | none => none
    | some ts => if f.offset = o ∧ P.cellsOf f.type = ts.length then (leavesF P g fs (o + ts.length)).map (ts ++ ·) else none
/-- The types of a type's one-cell parts, in their order. -/
def leaves (P : Program) : Nat → TypeId → Option (List TypeId)
  | 0, _ => none
  | n + 1, t => match P.underlying t with
    | none => none
    | some (.struct fs) => leavesF P (leaves P n) fs.toList 0
    | some _ => if P.cellsOf t = 1 then some [t] else none

section
variable {H : Type} {enc : TypeId × Value → H} {P : Program} {w : World} {base : Nat} {spare : Nat → Bool} {held : Bool}
/-- The cell c reads by type t, from blocks below B alone. -/
def Leaf (enc : TypeId × Value → H) (P : Program) (w : World) (base : Nat) (spare : Nat → Bool) (held : Bool) (B : Nat) (t : TypeId) (c : Value) : Prop :=
  ∃ n z, DataW.trod enc P w base spare held n t [c] = some z ∧ ∀ x ∈ z.2, x.block < B
/-- All cells read, each by its part's type. -/
def Leaves (enc : TypeId × Value → H) (P : Program) (w : World) (base : Nat) (spare : Nat → Bool) (held : Bool) (B : Nat) (ts : List TypeId) (cs : List Value) : Prop :=
  ∀ (j : Nat) (t : TypeId), ts[j]? = some t → ∃ c, cs[j]? = some c ∧ Leaf enc P w base spare held B t c
theorem leaves_fields {B : Nat} {g : TypeId → Option (List TypeId)} {n : Nat} {cs : List Value}
    (hg : ∀ (t : TypeId) (ts : List TypeId) (cs : List Value) (y : DataW H × List MemPlace), g t = some ts → cs.length = ts.length → DataW.trod enc P w base spare held n t cs = some y → (∀ x ∈ y.2, x.block < B) → Leaves enc P w base spare held B ts cs) :
    ∀ (fs : List Field) (o : Nat) (ts : List TypeId) (xs : List (DataW H × List MemPlace)), leavesF P g fs o = some ts → xs.length = fs.length →
      (∀ (i : Nat) (f : Field), fs[i]? = some f → DataW.trod enc P w base spare held n f.type (List.take (P.cellsOf f.type) (List.drop f.offset cs)) = xs[i]?) →
      (∀ z ∈ xs, ∀ x ∈ z.2, x.block < B) → (cs.drop o).length = ts.length → Leaves enc P w base spare held B ts (cs.drop o)
  | [], o, ts, xs, h, _, _, _, _ => by
    simp [leavesF] at h
    subst h
    intro j t hj
    simp at hj
  | f :: fs, o, ts, xs, h, hx, hf, hp, hl => by
    unfold leavesF at h
    cases hgt : g f.type with
    | none => rw [hgt] at h; cases h
    | some ts1 =>
      rw [hgt] at h
      simp only at h
      split at h
      · rename_i hoff
        obtain ⟨rfl, hc⟩ := hoff
        cases hr : leavesF P g fs (f.offset + ts1.length) with
        | none => rw [hr] at h; cases h
        | some ts2 =>
          rw [hr] at h
          simp only [Option.map_some, Option.some.injEq] at h
          subst h
          rw [List.length_append] at hl
          match xs, hx with
          | z :: xs, hx =>
            have h0 := hf 0 f rfl
            rw [hc] at h0
            have t0 : (List.take ts1.length (List.drop f.offset cs)).length = ts1.length := by rw [List.length_take]; omega
            have first := hg f.type ts1 _ z hgt t0 (by simpa using h0) (hp z (by simp))
            have l2 : (cs.drop (f.offset + ts1.length)).length = ts2.length := by rw [← List.drop_drop, List.length_drop]; omega
            have rest := leaves_fields hg fs (f.offset + ts1.length) ts2 xs hr (by simpa using hx) (fun i q hq => by simpa using hf (i + 1) q (by simpa using hq)) (fun y hy => hp y (by simp [hy])) l2
            intro j t hj
            rcases Nat.lt_or_ge j ts1.length with hlt | hge
            · rw [List.getElem?_append_left hlt] at hj
              obtain ⟨c, hc1, hc2⟩ := first j t hj
              refine ⟨c, ?_, hc2⟩
              rw [List.getElem?_take] at hc1
              rw [if_pos hlt] at hc1
              exact hc1
            · rw [List.getElem?_append_right hge] at hj
              obtain ⟨c, hc1, hc2⟩ := rest _ t hj
              refine ⟨c, ?_, hc2⟩
              rw [List.getElem?_drop] at hc1 ⊢
              rw [show f.offset + j = f.offset + ts1.length + (j - ts1.length) by omega]
              exact hc1
      · cases h
theorem leaves_of {B : Nat} : ∀ (n : Nat) (t : TypeId) (ts : List TypeId) (fuel : Nat) (cs : List Value) (y : DataW H × List MemPlace), leaves P n t = some ts → cs.length = ts.length →
    DataW.trod enc P w base spare held fuel t cs = some y → (∀ x ∈ y.2, x.block < B) → Leaves enc P w base spare held B ts cs
  | 0, t, ts, fuel, cs, y, h, _, _, _ => by cases h
  | n + 1, t, ts, fuel, cs, y, h, hl, hy, hB => by
    unfold leaves at h
    split at h
    · cases h
    · rename_i fs hu
      obtain ⟨xs, m, rfl, rfl, _, hlen, hfs⟩ := DataW.trod_struct hu hy
      have := leaves_fields (enc := enc) (P := P) (w := w) (base := base) (spare := spare) (held := held) (B := B) (g := leaves P n) (n := m) (cs := cs)
        (fun t ts cs y h1 h2 h3 h4 => leaves_of n t ts m cs y h1 h2 h3 h4) fs.toList 0 ts xs h (by simpa using hlen) (fun i f hf => hfs i f (by simpa using hf))
        (fun z hz x hx => hB x (by simp only [List.mem_flatMap]; exact ⟨z, hz, hx⟩)) (by simpa using hl)
      simpa using this
    · split at h
      · simp only [Option.some.injEq] at h
        subst h
        intro j u hj
        match cs, hl with
        | [c], _ =>
          cases j with
          | zero => simp at hj; subst hj; exact ⟨c, rfl, fuel, y, hy, hB⟩
          | succ j => simp at hj
      · cases h
theorem leaf_u64 {B : Nat} {t : TypeId} {c : Value} (ht : P.underlying t = some (.int .u64)) (h : Leaf enc P w base spare held B t c) : ∃ n : Nat, c = .int .u64 (n : Int) ∧ n < 18446744073709551616 := by
  obtain ⟨m, z, hz, _⟩ := h
  obtain ⟨a, e, _, wa⟩ := DataW.trod_int ht hz
  simp at e
  subst e
  obtain ⟨n, rfl, hn⟩ := nat_of_u64 wa
  exact ⟨n, rfl, hn⟩
theorem leaf_nat {B : Nat} {k : IntKind} (M : Nat) {t : TypeId} {c : Value} (ht : P.underlying t = some (.int k)) (hM : ∀ x : Int, (Lit.int k x).wf = true → 0 ≤ x ∧ x < (M : Int)) (h : Leaf enc P w base spare held B t c) :
    ∃ n : Nat, c = .int k (n : Int) ∧ n < M := by
  obtain ⟨m, z, hz, _⟩ := h
  obtain ⟨a, e, _, wa⟩ := DataW.trod_int ht hz
  simp at e
  subst e
  have := hM a wa
  exact ⟨a.toNat, by rw [Int.toNat_of_nonneg this.1], by omega⟩
theorem leaf_i64 {B : Nat} {t : TypeId} {c : Value} (ht : P.underlying t = some (.int .i64)) (h : Leaf enc P w base spare held B t c) : ∃ n : Int, c = .int .i64 n ∧ -9223372036854775808 ≤ n ∧ n ≤ 9223372036854775807 := by
  obtain ⟨m, z, hz, _⟩ := h
  obtain ⟨a, e, _, wa⟩ := DataW.trod_int ht hz
  simp at e
  subst e
  exact ⟨a, rfl, by simpa [Lit.wf, IntKind.min, IntKind.max, IntKind.signed, IntKind.bits] using wa⟩
theorem leaf_bool {B : Nat} {t : TypeId} {c : Value} (ht : P.underlying t = some .bool) (h : Leaf enc P w base spare held B t c) : ∃ b : Bool, c = .bool b := by
  obtain ⟨m, z, hz, _⟩ := h
  obtain ⟨a, e, _⟩ := DataW.trod_bool ht hz
  simp at e
  exact ⟨a, e⟩

/-- A struct by value: its cells. -/
theorem open_struct {t : TypeId} {fs : Array Field} {ts : List TypeId} {v : Value} {d : DataW H} {ps : List MemPlace} {r : Reach} {b0 B : Nat} (hu : P.underlying t = some (.struct fs)) (hl : leaves P 6 t = some ts) (hC : P.cellsOf t = ts.length)
    (hv : Value.okWide P w r b0 t v) (h : DataW.Trod enc P w base spare held t v d ps) (hlt : ∀ x ∈ ps, x.block < B) :
    ∃ cs : List Value, v = .agg cs.toArray ∧ cs.length = ts.length ∧ Leaves enc P w base spare held B ts cs := by
  obtain ⟨ca, rfl, hsz⟩ := okWide_struct hu hv
  obtain ⟨fuel, hf⟩ := h
  have hlen : ca.toList.length = ts.length := by simp; omega
  refine ⟨ca.toList, by simp, hlen, leaves_of 6 t ts fuel _ _ hl hlen (by simpa [Value.cells] using hf) hlt⟩
/-- A slice of structs: where it lies, and its cells. -/
theorem open_structs {t e : TypeId} {ts : List TypeId} {v : Value} {d : DataW H} {ps : List MemPlace} {r : Reach} {b0 : Nat} (ht : P.underlying t = some (.slice e)) (hl : leaves P 6 e = some ts) (hC : P.cellsOf e = ts.length) (hpos : 0 < ts.length)
    (hv : Value.okWide P w r b0 t v) (h : DataW.Trod enc P w base spare held t v d ps) (hlt : ∀ x ∈ ps, x.block < w.heap.size) :
    ∃ (A : Option Addr) (n c : Nat) (b off : Nat) (cs : Nat → List Value), v = .slice A n c ∧ n ≤ maxLen ∧ n ≤ c ∧ (n ≠ 0 → A = some ⟨b, off, none⟩ ∧ b < w.heap.size) ∧
      ∀ i, i < n → (cs i).length = ts.length ∧ Leaves enc P w base spare held w.heap.size ts (cs i) ∧ ∀ j, j < ts.length → w.cell? ⟨b, off + i * ts.length + j, none⟩ = (cs i)[j]? := by
  obtain ⟨a0, len0, cap0, rfl⟩ := okWide_slice ht hv
  obtain ⟨fuel, hf⟩ := h
  rcases open_slice ht hf with ⟨hcs, _⟩ | ⟨a, len, cap, m, n, D, Pl, hcs, hb, hl2, hm, hmm, hx, hi⟩
  · simp [Value.cells] at hcs
    obtain ⟨rfl, rfl, rfl⟩ := hcs
    exact ⟨none, 0, 0, 0, 0, fun _ => [], rfl, by simp, by simp, fun h => absurd rfl h, fun i hi => absurd hi (by omega)⟩
  · simp [Value.cells] at hcs
    obtain ⟨rfl, rfl, rfl⟩ := hcs
    have hlm : len0 ≤ m := by rw [hmm]; split <;> omega
    simp only [Prod.mk.injEq] at hx
    have each : ∀ i, i < len0 → ∃ cs : List Value, cs.length = ts.length ∧ Leaves enc P w base spare held w.heap.size ts cs ∧ ∀ j, j < ts.length → w.cell? ((a.add (i * ts.length)).add j) = cs[j]? := by
      intro i hil
      obtain ⟨cs', hc, ht'⟩ := hi i (by omega)
      rw [hC] at hc
      obtain ⟨_, hcl, hat⟩ := World.cells?_some hc
      refine ⟨cs', hcl, leaves_of 6 e ts _ _ _ hl hcl ht' (fun x hx' => hlt x (by rw [hx.2]; refine List.mem_append_right _ (List.mem_flatMap.2 ⟨i, List.mem_range.2 (by omega), hx'⟩))), fun j hj => hat j hj⟩
    obtain ⟨f, hfs⟩ : ∃ f : Nat → List Value, ∀ i, i < len0 → (f i).length = ts.length ∧ Leaves enc P w base spare held w.heap.size ts (f i) ∧ ∀ j, j < ts.length → w.cell? ((a.add (i * ts.length)).add j) = (f i)[j]? := by
      refine ⟨fun i => if h : i < len0 then Classical.choose (each i h) else [], fun i hi => ?_⟩
      simp only [dif_pos hi]
      exact Classical.choose_spec (each i hi)
    by_cases h0 : len0 = 0
    · exact ⟨some a, len0, cap0, 0, 0, f, rfl, by omega, by omega, fun h => absurd h0 h, fun i hi => absurd hi (by omega)⟩
    · obtain ⟨b, off, spot⟩ := a
      have hspot : spot = none := by
        obtain ⟨g1, _, g3⟩ := hfs 0 (by omega)
        have := g3 0 hpos
        rw [List.getElem?_eq_getElem (by omega)] at this
        simpa [Addr.add] using World.cell?_spot this
      subst hspot
      refine ⟨some ⟨b, off, none⟩, len0, cap0, b, off, f, rfl, by omega, by omega, fun _ => ⟨rfl, ?_⟩, fun i hi => ⟨(hfs i hi).1, (hfs i hi).2.1, fun j hj => ?_⟩⟩
      · refine hlt (.cell b off) ?_
        rw [hx.2, hC]
        exact List.mem_append_left _ (MemPlace.mem_row.2 ⟨0, Nat.mul_pos (by omega) hpos, by simp⟩)
      · have := (hfs i hi).2.2 j hj
        rw [add_plain, add_plain] at this
        exact this
end
end Go.Proofs.Ytpdmepblmjjeeaa
