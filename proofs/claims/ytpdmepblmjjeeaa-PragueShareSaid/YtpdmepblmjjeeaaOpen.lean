/-
  A law's arguments opened to plain numbers and lists, whatever they are; and the last step from a walk to the law's row: below the heap's old size nothing has turned, so every argument reads as it did. No condition.
-/
import Derived.Test.YtpdmepblmjjeeaaPost
import Derived.Carry
import Derived.ChangeSlices
import Derived.Lib.SmallJoins
namespace Go.Proofs.Ytpdmepblmjjeeaa
open Go.ChangeShapes Go.WideShapes Go.ChangeAt Go.RowKit Go.Deep Go.Joins

theorem laid_out : laidOutB Try.prog = true := by kernel_rfl

section
variable {H : Type} {enc : TypeId × Value → H} {P : Program}
/-- All arguments read as they did. -/
theorem all_stay (hl : laidOutB P = true) {W W' : World} (hb : Below W.heap.size W W') {ok : Nat → Bool} : ∀ {ts : List TypeId} {vs : List Value} {ds : List (DataW H)} {ps : List MemPlace},
    (ts.all fun t => P.readableRec t && decide (t < P.types.size)) = true → DataW.TrodAll enc P W 0 (fun _ => true) true ts vs ds ps → (∀ x ∈ ps, x.block < W.heap.size) → (∀ x ∈ ps, ok x.block = true) → DataW.TrodAll enc P W' 0 ok true ts vs ds ps
  | [], vs, ds, ps, _, h, _, _ => by
    obtain ⟨rfl, rfl, rfl⟩ := trodAll_nil h
    exact trodAll_mk0
  | t :: ts, vs, ds, ps, hts, h, hlt, hok => by
    obtain ⟨v, vs', d, ds', p, q, rfl, rfl, rfl, h1, h2⟩ := trodAll_cons h
    simp only [List.all_cons, Bool.and_eq_true, decide_eq_true_eq] at hts
    refine trodAll_cons_mk ?_ (all_stay hl hb (by simpa using hts.2) h2 (fun x hx => hlt x (List.mem_append_right _ hx)) (fun x hx => hok x (List.mem_append_right _ hx)))
    exact WideElems.Trod_stays hl hts.1.1 hts.1.2 h1 (fun x hx => hb.same (hlt x (List.mem_append_left _ hx))) (fun x hx => hok x (List.mem_append_left _ hx))

/-- A law has returned true and turned nothing below the heap's old size. -/
theorem law_true {f : Func} {s : ChangeSpec} {W W' : World} {vs : Array Value} {ds : List (DataW H)} {met : List MemPlace} {tb : TypeId} (hl : laidOutB P = true)
    (hts : (f.params.toList.all fun t => P.readableRec t && decide (t < P.types.size)) = true) (hv : s.vars = []) (htb : P.underlying tb = some .bool) (hr : f.resultTypes = #[tb])
    (whole : DataW.Whole enc P f.params.toList s.vars false W vs.toList ds [] met)
    (hA : DataW.TrodAll enc P W 0 (fun _ => true) true f.params.toList vs.toList ds met)
    (h1 : (s.fn H (ds ++ [])).results = [.lit (.bool true)]) (h2 : (s.fn H (ds ++ [])).args = ds) (h3 : (s.fn H (ds ++ [])).vars = []) (hb : Below W.heap.size W W') :
    s.post enc P f false true false false W vs (.bool true) W' := by
  have low : ∀ x ∈ met, x.block < W.heap.size := fun x hx => whole.lt x hx
  refine law_post (pa := met) (pv := []) whole (fun _ _ _ => ?_) (fun ok hok => ?_) (fun ok hok => ?_) (by simp) hb (ok_one hr rfl (okWide_bool_mk htb _))
  · rw [h1, hr]
    exact trodAll_cons_mk (shut_bool htb _) trodAll_mk0
  · rw [h2]
    exact all_stay hl hb hts hA low hok
  · rw [h3, hv]
    rfl
end

section
variable {H : Type} {enc : TypeId × Value → H} {P : Program} {w : World} {base : Nat} {spare : Nat → Bool} {held : Bool} {r : Reach} {b0 : Nat} {d : DataW H} {ps : List MemPlace} {v : Value}
/-- A number of 64 bits. -/
theorem open_u64 {t : TypeId} (ht : P.underlying t = some (.int .u64)) (hv : Value.okWide P w r b0 t v) (h : DataW.Trod enc P w base spare held t v d ps) : ∃ n : Nat, v = .int .u64 (n : Int) ∧ n < 18446744073709551616 := by
  obtain ⟨a, rfl, _, _, wa⟩ := open_int ht hv h
  obtain ⟨n, rfl, hn⟩ := nat_of_u64 wa
  exact ⟨n, rfl, hn⟩
/-- A struct of two numbers of 64 bits, by value. -/
theorem open_two {t u : TypeId} {f0 f1 : Field} (he : P.underlying t = some (.struct #[f0, f1])) (hone : oneCellFields P #[f0, f1] = true) (hC : P.cellsOf t = 2)
    (hf0 : f0.type = u) (hf1 : f1.type = u) (hu : P.underlying u = some (.int .u64)) (hv : Value.okWide P w r b0 t v) (h : DataW.Trod enc P w base spare held t v d ps) :
    ∃ a b : Nat, v = .agg #[.int .u64 (a : Int), .int .u64 (b : Int)] ∧ a < 18446744073709551616 ∧ b < 18446744073709551616 := by
  obtain ⟨c0, c1, y0, y1, m, rfl, _, _, hy0, hy1⟩ := open_agg2 he hone hC hv h
  rw [hf0] at hy0
  rw [hf1] at hy1
  obtain ⟨a, e0, _, wa⟩ := DataW.trod_int hu hy0
  obtain ⟨b, e1, _, wb⟩ := DataW.trod_int hu hy1
  simp at e0 e1
  subst e0 e1
  obtain ⟨n, rfl, hn⟩ := nat_of_u64 wa
  obtain ⟨m, rfl, hm⟩ := nat_of_u64 wb
  exact ⟨n, m, rfl, hn, hm⟩
end

/-- A number of an int. -/
theorem open_i64 {H : Type} {enc : TypeId × Value → H} {P : Program} {w : World} {base : Nat} {spare : Nat → Bool} {held : Bool} {r : Reach} {b0 : Nat} {d : DataW H} {ps : List MemPlace} {v : Value} {t : TypeId} (ht : P.underlying t = some (.int .i64))
    (hv : Value.okWide P w r b0 t v) (h : DataW.Trod enc P w base spare held t v d ps) : ∃ n : Int, v = .int .i64 n ∧ -9223372036854775808 ≤ n ∧ n ≤ 9223372036854775807 := by
  obtain ⟨a, rfl, _, _, wa⟩ := open_int ht hv h
  exact ⟨a, rfl, by simpa [Lit.wf, IntKind.min, IntKind.max, IntKind.signed, IntKind.bits] using wa⟩
/-- A number of 32 bits. -/
theorem open_u32 {H : Type} {enc : TypeId × Value → H} {P : Program} {w : World} {base : Nat} {spare : Nat → Bool} {held : Bool} {r : Reach} {b0 : Nat} {d : DataW H} {ps : List MemPlace} {v : Value} {t : TypeId} (ht : P.underlying t = some (.int .u32))
    (hv : Value.okWide P w r b0 t v) (h : DataW.Trod enc P w base spare held t v d ps) : ∃ n : Nat, v = .int .u32 (n : Int) ∧ n < 4294967296 := by
  obtain ⟨a, rfl, _, _, wa⟩ := open_int ht hv h
  obtain ⟨n, rfl, hn⟩ := nat_of_u32 wa
  exact ⟨n, rfl, hn⟩

/-- The slice at A reads as the numbers xs of kind k, from a block below B. -/
def RdN (k : IntKind) (w : World) (B : Nat) (A : Option Addr) (xs : List Nat) : Prop :=
  xs ≠ [] → ∃ b off, A = some ⟨b, off, none⟩ ∧ b < B ∧ ∀ (j x : Nat), xs[j]? = some x → w.cell? ⟨b, off + j, none⟩ = some (.int k (x : Int))
theorem RdN.keeps {k : IntKind} {w w' : World} {B : Nat} {A : Option Addr} {xs : List Nat} (h : RdN k w B A xs) (hk : ∀ p : Addr, p.block < B → w'.cell? p = w.cell? p) : RdN k w' B A xs := fun hn => by
  obtain ⟨b, off, e, hb, hc⟩ := h hn
  exact ⟨b, off, e, hb, fun j x hx => (hk _ hb).trans (hc j x hx)⟩
theorem RdN.below {k : IntKind} {w w' : World} {B : Nat} {A : Option Addr} {xs : List Nat} (h : RdN k w B A xs) (hb : Below B w w') : RdN k w' B A xs := h.keeps fun _ hp => hb.cell hp
theorem RdN.at_ {k : IntKind} {w : World} {B : Nat} {A : Option Addr} {xs : List Nat} (h : RdN k w B A xs) {j x : Nat} (hx : xs[j]? = some x) : ∃ b off, A = some ⟨b, off, none⟩ ∧ b < B ∧ w.cell? ⟨b, off + j, none⟩ = some (.int k (x : Int)) := by
  obtain ⟨b, off, e, hb, hc⟩ := h (by intro e; subst e; simp at hx)
  exact ⟨b, off, e, hb, hc j x hx⟩

/-- A slice of unsigned numbers: M is the kind's greatest number and one. -/
theorem open_nats {H : Type} {enc : TypeId × Value → H} {P : Program} {w : World} {base : Nat} {spare : Nat → Bool} {held : Bool} {r : Reach} {b0 : Nat} {d : DataW H} {ps : List MemPlace} {v : Value} {t e : TypeId} {k : IntKind} (M : Nat)
    (ht : P.underlying t = some (.slice e)) (he : P.underlying e = some (.int k)) (hc : P.cellsOf e = 1) (hM : ∀ x : Int, (Lit.int k x).wf = true → 0 ≤ x ∧ x < (M : Int))
    (hv : Value.okWide P w r b0 t v) (h : DataW.Trod enc P w base spare held t v d ps) (hlt : ∀ x ∈ ps, x.block < w.heap.size) :
    ∃ A c xs, v = .slice A xs.length c ∧ (∀ x ∈ xs, x < M) ∧ RdN k w w.heap.size A xs ∧ xs.length ≤ maxLen := by
  obtain ⟨a0, len0, cap0, rfl⟩ := okWide_slice ht hv
  obtain ⟨fuel, hf⟩ := h
  rcases open_ints ht he hc hf with ⟨hcs, _⟩ | ⟨a, len, cap, zs, hcs, _, hl, hm, hz, hx, hcell, hwz⟩
  · simp [Value.cells] at hcs
    obtain ⟨rfl, rfl, rfl⟩ := hcs
    exact ⟨none, 0, [], rfl, by simp, fun h => absurd rfl h, by simp⟩
  · simp [Value.cells] at hcs
    obtain ⟨rfl, rfl, rfl⟩ := hcs
    have hlz : len0 ≤ zs.length := by rw [hz]; split <;> omega
    obtain ⟨xs, hxs⟩ : ∃ xs, xs = (zs.take len0).map Int.toNat := ⟨_, rfl⟩
    have hlen : xs.length = len0 := by rw [hxs]; simp; omega
    have wf : ∀ x ∈ zs, 0 ≤ x ∧ x < (M : Int) := fun x hx => hM x (hwz x hx)
    refine ⟨some a, cap0, xs, by rw [hlen], fun x hx => ?_, fun hn => ?_, by omega⟩
    · rw [hxs] at hx
      obtain ⟨y, hy, rfl⟩ := List.mem_map.1 hx
      have := wf y (List.mem_of_mem_take hy)
      omega
    · have hpos : 0 < len0 := by rw [← hlen]; exact List.length_pos_iff.2 hn
      obtain ⟨b, off, spot⟩ := a
      have hspot : spot = none := by simpa [Addr.add] using World.cell?_spot (hcell 0 (by omega))
      subst hspot
      refine ⟨b, off, rfl, ?_, fun j x hj => ?_⟩
      · simp only [Prod.mk.injEq] at hx
        refine hlt (.cell b off) ?_
        rw [hx.2]
        exact MemPlace.mem_row.2 ⟨0, by omega, by simp⟩
      · have hjl : j < len0 := by rcases Nat.lt_or_ge j len0 with h | h; exact h; rw [List.getElem?_eq_none (by omega)] at hj; cases hj
        rw [← add_plain, hcell j (by omega)]
        have hzj : zs[j]? = some (zs[j]'(by omega)) := List.getElem?_eq_getElem _
        have e1 : zs.getD j 0 = zs[j]'(by omega) := by simp [List.getD, hzj]
        rw [hxs] at hj
        simp only [List.getElem?_map, List.getElem?_take, if_pos hjl, hzj, Option.map_some, Option.some.injEq] at hj
        have := wf _ (List.getElem_mem (l := zs) (n := j) (by omega))
        rw [e1]
        congr 2
        omega
end Go.Proofs.Ytpdmepblmjjeeaa
