/-
  Lists of small numbers (bytes above all) in the program's memory: a slice that reads as a list, a row of the call's own, the text that bytes are. No condition.
-/
import Derived.Test.YtjojnbeflongkaaDoorOpen
import Derived.Laws.OwnMore
import Derived.Deep.AppendLies
import Derived.Deep.AppendSrc
import Derived.Deep.Draws
import Derived.Laws.BytesArg
import Derived.Lib.Bytes
namespace Go.Proofs.YtjojnbeflongkaaDoor
open Go.ChangeShapes Go.WideShapes Go.ChangeAt Go.RowKit Go.Deep Go.Joins

/-- Numbers as cells of kind k. -/
def ncells (k : IntKind) (xs : List Nat) : List Value := xs.map fun x : Nat => Value.int k (x : Int)
theorem ncells_length (k : IntKind) (xs : List Nat) : (ncells k xs).length = xs.length := by simp [ncells]
theorem ncells_app (k : IntKind) (xs ys : List Nat) : ncells k (xs ++ ys) = ncells k xs ++ ncells k ys := by simp [ncells]
theorem ncells_one (k : IntKind) (xs : List Nat) : ∀ u ∈ ncells k xs, u.oneCell' = true := by
  intro u hu
  obtain ⟨x, _, rfl⟩ := List.mem_map.1 hu
  rfl
theorem ncells_at (k : IntKind) (xs : List Nat) (j x : Nat) (h : xs[j]? = some x) : (ncells k xs)[j]? = some (.int k (x : Int)) := by
  simp [ncells, h]
theorem ncells_of (k : IntKind) (xs : List Nat) (j : Nat) (u : Value) (h : (ncells k xs)[j]? = some u) : ∃ x, xs[j]? = some x ∧ u = .int k (x : Int) := by
  simp only [ncells, List.getElem?_map, Option.map_eq_some_iff] at h
  obtain ⟨x, h1, h2⟩ := h
  exact ⟨x, h1, h2.symm⟩
theorem ncells_set (k : IntKind) (xs : List Nat) (j x : Nat) : ncells k (xs.set j x) = (ncells k xs).set j (.int k (x : Int)) := by simp [ncells, List.map_set]

/-- The value v is a row of its own from block base on, of elements of type t (kind k), and reads as xs. -/
def OwnN (k : IntKind) (t : TypeId) (w : World) (base : Nat) (v : Value) (xs : List Nat) : Prop := w.ownsRow base t 1 v xs.length (ncells k xs)

theorem RdN.wide {k : IntKind} {w : World} {B B' : Nat} {A : Option Addr} {xs : List Nat} (h : RdN k w B A xs) (hB : B ≤ B') : RdN k w B' A xs := fun hn => by
  obtain ⟨b, off, e, hb, hc⟩ := h hn
  exact ⟨b, off, e, by omega, hc⟩
theorem RdN.empty {k : IntKind} {w : World} {B : Nat} {A : Option Addr} : RdN k w B A [] := fun h => absurd rfl h
theorem RdN.step {k : IntKind} {w w' : World} {A : Option Addr} {xs : List Nat} (h : RdN k w w.heap.size A xs) (hb : Below w.heap.size w w') : RdN k w' w'.heap.size A xs := (h.below hb).wide hb.size
theorem RdN.take {k : IntKind} {w : World} {B : Nat} {A : Option Addr} {xs : List Nat} (h : RdN k w B A xs) (n : Nat) : RdN k w B A (xs.take n) := fun hn => by
  obtain ⟨b, off, e, hb, hc⟩ := h (by intro e; rw [e] at hn; simp at hn)
  refine ⟨b, off, e, hb, fun j x hx => hc j x ?_⟩
  rw [List.getElem?_take] at hx
  split at hx
  · exact hx
  · cases hx

section
variable {k : IntKind} {t : TypeId} {w w' : World} {base base' B : Nat} {v : Value} {xs : List Nat}
theorem OwnN.rd (h : OwnN k t w base v xs) : ∃ A c, v = .slice A xs.length c ∧ xs.length ≤ c ∧ c ≤ maxLen ∧ RdN k w w.heap.size A xs ∧ (xs = [] ∨ ∃ g, A = some ⟨g, 0, none⟩ ∧ base ≤ g) := by
  have h0 := h
  rcases h.2 with ⟨rfl, hn⟩ | ⟨g, cap, cur, rfl, hg, hh, hn, hcap, hsz, htake⟩
  · have : xs = [] := List.eq_nil_of_length_eq_zero hn
    subst this
    exact ⟨none, 0, rfl, by simp, by simp, RdN.empty, .inl rfl⟩
  · refine ⟨some ⟨g, 0, none⟩, cap, rfl, hn, hcap, fun _ => ⟨g, 0, rfl, (Array.getElem?_eq_some_iff.1 hh).1, fun j x hx => ?_⟩, .inr ⟨g, rfl, hg⟩⟩
    have hj : j < xs.length := by rcases Nat.lt_or_ge j xs.length with h | h; exact h; rw [List.getElem?_eq_none h] at hx; cases hx
    rw [Nat.zero_add]
    exact (World.ownsRow.cellAt h0 j (by omega)).trans (ncells_at k xs j x hx)
theorem OwnN.below (h : OwnN k t w base v xs) (hb : Below B w w') (hB : w.heap.size ≤ B) : OwnN k t w' base v xs := by
  refine ⟨h.1, ?_⟩
  rcases h.2 with hn | ⟨g, cap, cur, rfl, hg, hh, rest⟩
  · exact .inl hn
  · exact .inr ⟨g, cap, cur, rfl, hg, by rw [hb.block g (by have := (Array.getElem?_eq_some_iff.1 hh).1; omega)]; exact hh, rest⟩
theorem OwnN.block (h : OwnN k t w base v xs) : ∀ q, v.ownBlock = some q → base ≤ q ∧ q < w.heap.size := World.ownsRow.lt h
theorem OwnN.base_le (h : OwnN k t w base v xs) (hb : base' ≤ base) : OwnN k t w base' v xs := by
  refine ⟨h.1, ?_⟩
  rcases h.2 with hn | ⟨g, cap, cur, e, hg, rest⟩
  · exact .inl hn
  · exact .inr ⟨g, cap, cur, e, by omega, rest⟩
/-- One store into a row of the call's own. -/
theorem OwnN.stored {g n cap : Nat} (h : OwnN k t w base (.slice (some ⟨g, 0, none⟩) n cap) xs) (hn : n = xs.length) (j x : Nat) :
    OwnN k t (w.setCell ⟨g, j, none⟩ (.int k (x : Int))) base (.slice (some ⟨g, 0, none⟩) n cap) (xs.set j x) := by
  subst hn
  unfold OwnN
  rw [ncells_set, List.length_set]
  exact (World.ownsRow.stored h j _).1
end

/-- The source of an append that reads as xs. -/
theorem src_nats {P : Program} {k : IntKind} {w : World} {B : Nat} {a : Addr} {xs : List Nat} {tx e' : TypeId} (hk : P.underlying tx = some (.slice e')) (h : RdN k w B (some a) xs) (hne : xs ≠ []) (n c : Nat) (hn : n = xs.length) : Src P 1 tx (.slice (some a) n c) n (ncells k xs) w := by
  subst hn
  refine Src.ofSlice w hk a xs.length c _ (by rw [ncells_length, Nat.mul_one]) (fun j u hu => ?_) (ncells_one k xs)
  obtain ⟨x, hx, rfl⟩ := ncells_of k xs j u hu
  obtain ⟨b, off, e, _, hc⟩ := h hne
  injection e with e
  subst e
  rw [add_plain]
  exact hc j x hx

/-- The text that bytes are. -/
def str (xs : List Nat) : ByteArray := strOfNums (xs.map fun x : Nat => (x : Int))
theorem str_toList (xs : List Nat) : (str xs).toList = xs.map UInt8.ofNat := by
  unfold str
  rw [Lib.strOfNums_toList, Lib.bytesOf, List.map_map]
  apply List.map_congr_left
  intro x _
  simp
/-- 'string(b)' of bytes. -/
theorem conv_str {P : Program} {w : World} {B : Nat} {A : Option Addr} {xs : List Nat} {src e dst : TypeId} (hs : P.underlying src = some (.slice e)) (he : P.underlying e = some (.int .u8)) (hd : P.underlying dst = some .string)
    (h : RdN .u8 w B A xs) (h0 : xs = [] → A = none) (n c : Nat) (hn : n = xs.length) : (convert src dst (.slice A n c)).run P w = .ok (.string (str xs)) w := by
  subst hn
  by_cases hne : xs = []
  · subst hne
    rw [h0 rfl]
    exact run_convert_bytes_nil w src e hs he _ c dst hd
  · obtain ⟨b, off, rfl, _, hc⟩ := h hne
    refine run_convert_bytes_arg w src e hs he b off _ c (xs.map fun x : Nat => (x : Int)) (by simp) (fun i hi => ?_) dst hd
    obtain ⟨x, hx⟩ : ∃ x, xs[i]? = some x := ⟨_, List.getElem?_eq_getElem hi⟩
    rw [hc i x hx]
    simp [List.getD, hx]

/-- A slice of unsigned numbers, with its room: M is the kind's greatest number and one. -/
theorem open_row {H : Type} {enc : TypeId × Value → H} {P : Program} {w : World} {base : Nat} {spare : Nat → Bool} {held : Bool} {r : Reach} {b0 : Nat} {d : DataW H} {ps : List MemPlace} {v : Value} {t e : TypeId} {k : IntKind} (M : Nat)
    (ht : P.underlying t = some (.slice e)) (he : P.underlying e = some (.int k)) (hc : P.cellsOf e = 1) (hM : ∀ x : Int, (Lit.int k x).wf = true → 0 ≤ x ∧ x < (M : Int))
    (hv : Value.okWide P w r b0 t v) (h : DataW.Trod enc P w base spare held t v d ps) (hlt : ∀ x ∈ ps, x.block < w.heap.size) :
    ∃ A c xs, v = .slice A xs.length c ∧ (∀ x ∈ xs, x < M) ∧ RdN k w w.heap.size A xs ∧ xs.length ≤ c ∧ c ≤ maxLen := by
  obtain ⟨a0, len0, cap0, rfl⟩ := okWide_slice ht hv
  obtain ⟨fuel, hf⟩ := id h
  have hroom : len0 ≤ cap0 ∧ cap0 ≤ maxLen := by
    rcases open_ints ht he hc hf with ⟨hcs, _⟩ | ⟨a, len, cap, zs, hcs, _, hl, hm, _⟩
    · simp [Value.cells] at hcs
      obtain ⟨rfl, rfl, rfl⟩ := hcs
      simp
    · simp [Value.cells] at hcs
      obtain ⟨rfl, rfl, rfl⟩ := hcs
      exact ⟨hl, hm⟩
  obtain ⟨A, c, xs, e, hx, hr, _⟩ := open_nats M ht he hc hM hv h hlt
  injection e with e1 e2 e3
  subst e1 e2 e3
  exact ⟨_, _, xs, rfl, hx, hr, hroom.1, hroom.2⟩
end Go.Proofs.YtjojnbeflongkaaDoor
