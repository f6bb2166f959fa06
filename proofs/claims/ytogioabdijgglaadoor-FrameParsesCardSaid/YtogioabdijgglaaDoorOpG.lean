/-
  Arguments that are frames, opened: one by value, and a slice of them. No condition.
-/
import Derived.Test.YtogioabdijgglaaDoorOpF
import Derived.Test.YtogioabdijgglaaDoorAll
namespace Go.Proofs.YtogioabdijgglaaDoor
open Go.ChangeShapes Go.WideShapes Go.ChangeAt Go.RowKit Go.Deep Go.Joins
section
variable {H : Type} {enc : TypeId × Value → H} {P : Program} {w : World} {base : Nat} {spare : Nat → Bool} {held : Bool}
/-- A cell that reads as a slice of unsigned numbers. -/
theorem row_of_trod {t e : TypeId} {k : IntKind} (M : Nat) {fuel : Nat} {c : Value} {y : DataW H × List MemPlace}
    (ht : P.underlying t = some (.slice e)) (he : P.underlying e = some (.int k)) (hc : P.cellsOf e = 1) (hM : ∀ x : Int, (Lit.int k x).wf = true → 0 ≤ x ∧ x < (M : Int))
    (hf : DataW.trod enc P w base spare held fuel t [c] = some y) (hlt : ∀ x ∈ y.2, x.block < w.heap.size) :
    ∃ A c' xs, c = .slice A xs.length c' ∧ (∀ x ∈ xs, x < M) ∧ RdN k w w.heap.size A xs ∧ xs.length ≤ c' ∧ c' ≤ maxLen := by
  rcases open_ints ht he hc hf with ⟨hcs, _⟩ | ⟨a, len0, cap0, zs, hcs, _, hl, hm, hz, hx, hcell, hwz⟩
  · simp at hcs
    subst hcs
    exact ⟨none, 0, [], rfl, by simp, fun h => absurd rfl h, by simp, by simp⟩
  · simp at hcs
    subst hcs
    have hlz : len0 ≤ zs.length := by rw [hz]; split <;> omega
    obtain ⟨xs, hxs⟩ : ∃ xs, xs = (zs.take len0).map Int.toNat := ⟨_, rfl⟩
    have hlen : xs.length = len0 := by rw [hxs]; simp; omega
    have wf : ∀ x ∈ zs, 0 ≤ x ∧ x < (M : Int) := fun x hx => hM x (hwz x hx)
    refine ⟨some a, cap0, xs, by rw [hlen], fun x hx => ?_, fun hn => ?_, by omega, hm⟩
    · rw [hxs] at hx
      obtain ⟨y, hy, rfl⟩ := List.mem_map.1 hx
      have := wf y (List.mem_of_mem_take hy)
      omega
    · have hpos : 0 < len0 := by rw [← hlen]; exact List.length_pos_iff.2 hn
      obtain ⟨b, off, spot⟩ := a
      have hspot : spot = none := by simpa [Addr.add] using World.cell?_spot (hcell 0 (by omega))
      subst hspot
      refine ⟨b, off, rfl, ?_, fun j x hj => ?_⟩
      · refine hlt (.cell b off) ?_
        rw [hx]
        exact MemPlace.mem_row.2 ⟨0, by omega, by simp⟩
      · have hjl : j < len0 := by rcases Nat.lt_or_ge j len0 with h | h; exact h; rw [List.getElem?_eq_none (by omega)] at hj; cases hj
        rw [← add_plain, hcell j (by omega)]
        have hzj : zs[j]? = some (zs[j]'(by omega)) := List.getElem?_eq_getElem _
        have e1 : zs.getD j 0 = zs[j]'(by omega) := by simp [List.getD, hzj]
        rw [hxs] at hj
        simp only [List.getElem?_map, List.getElem?_take, if_pos hjl, hzj, Option.map_some, Option.some.injEq] at hj
        have := wf _ (List.getElem_mem (l := zs) (n := j) (by omega))
        rw [e1]
        congr 2
        omega
/-- A cell that reads as a slice of pairs of numbers of 64 bits. -/
theorem spans_of_trod {t e u : TypeId} {f0 f1 : Field} {fuel : Nat} {c : Value} {y : DataW H × List MemPlace}
    (ht : P.underlying t = some (.slice e)) (he : P.underlying e = some (.struct #[f0, f1])) (hone : oneCellFields P #[f0, f1] = true) (hC : P.cellsOf e = 2)
    (hf0 : f0.type = u) (hf1 : f1.type = u) (hu : P.underlying u = some (.int .u64))
    (hf : DataW.trod enc P w base spare held fuel t [c] = some y) (hlt : ∀ x ∈ y.2, x.block < w.heap.size) :
    ∃ A c' ss, c = .slice A ss.length c' ∧ (∀ s ∈ ss, s.1 < 18446744073709551616 ∧ s.2 < 18446744073709551616) ∧ RdS w w.heap.size A ss ∧ ss.length ≤ c' ∧ c' ≤ maxLen := by
  rcases open_slice ht hf with ⟨hcs, _⟩ | ⟨a, len0, cap0, m, n, D, Pl, hcs, hb, hl, hm, hmm, hx, hi⟩
  · simp at hcs
    subst hcs
    exact ⟨none, 0, [], rfl, fun _ h => by simp at h, RdS.empty, by simp, by simp⟩
  · simp at hcs
    subst hcs
    have hlm : len0 ≤ m := by rw [hmm]; split <;> omega
    have each : ∀ i, i < len0 → ∃ p : Wig.Spn, (p.1 < 18446744073709551616 ∧ p.2 < 18446744073709551616) ∧ w.cell? (a.add (i * 2)) = some (.int .u64 (p.1 : Int)) ∧ w.cell? ((a.add (i * 2)).add 1) = some (.int .u64 (p.2 : Int)) := by
      intro i hil
      obtain ⟨cs', hc, ht'⟩ := hi i (by omega)
      rw [hC] at hc
      obtain ⟨_, hcl, hat⟩ := World.cells?_some hc
      obtain ⟨y0, y1, n', _, _, h0, h1⟩ := trod_struct2 he ht'
      obtain ⟨o0, k0⟩ := hone_of hone 0 f0 rfl
      obtain ⟨o1, k1⟩ := hone_of hone 1 f1 rfl
      match cs', hcl with
      | [c0, c1], _ =>
        rw [o0, k0] at h0
        rw [o1, k1] at h1
        rw [hf0] at h0
        rw [hf1] at h1
        obtain ⟨x0, e0, _, w0⟩ := DataW.trod_int hu h0
        obtain ⟨x1, e1, _, w1⟩ := DataW.trod_int hu h1
        simp at e0 e1
        subst e0 e1
        have b0 : 0 ≤ x0 ∧ x0 ≤ 18446744073709551615 := by simpa [Lit.wf, IntKind.min, IntKind.max, IntKind.signed, IntKind.bits] using w0
        have b1 : 0 ≤ x1 ∧ x1 ≤ 18446744073709551615 := by simpa [Lit.wf, IntKind.min, IntKind.max, IntKind.signed, IntKind.bits] using w1
        have a0 := hat 0 (by omega)
        have a1 := hat 1 (by omega)
        refine ⟨(x0.toNat, x1.toNat), ⟨by simp; omega, by simp; omega⟩, ?_, ?_⟩
        · have e : ((x0.toNat : Nat) : Int) = x0 := by omega
          show _ = some (Value.int .u64 ((x0.toNat : Nat) : Int))
          rw [e]
          simpa [Addr.add] using a0
        · have e : ((x1.toNat : Nat) : Int) = x1 := by omega
          show _ = some (Value.int .u64 ((x1.toNat : Nat) : Int))
          rw [e]
          simpa using a1
    obtain ⟨f, hfs⟩ : ∃ f : Nat → Wig.Spn, ∀ i, i < len0 → ((f i).1 < 18446744073709551616 ∧ (f i).2 < 18446744073709551616) ∧ w.cell? (a.add (i * 2)) = some (.int .u64 ((f i).1 : Int)) ∧ w.cell? ((a.add (i * 2)).add 1) = some (.int .u64 ((f i).2 : Int)) := by
      refine ⟨fun i => if h : i < len0 then Classical.choose (each i h) else (0, 0), fun i hi => ?_⟩
      simp only [dif_pos hi]
      exact Classical.choose_spec (each i hi)
    obtain ⟨ss, hss⟩ : ∃ ss, ss = (List.range len0).map f := ⟨_, rfl⟩
    have hlen : ss.length = len0 := by rw [hss]; simp
    have hat : ∀ j p, ss[j]? = some p → j < len0 ∧ p = f j := by
      intro j p hp
      have hj : j < len0 := by rcases Nat.lt_or_ge j len0 with h | h; exact h; rw [List.getElem?_eq_none (by omega)] at hp; cases hp
      rw [hss] at hp
      simp [hj] at hp
      exact ⟨hj, hp.symm⟩
    refine ⟨some a, cap0, ss, by rw [hlen], fun p hp => ?_, fun hn => ?_, by omega, hm⟩
    · obtain ⟨j, hj⟩ := List.getElem?_of_mem hp
      obtain ⟨h1, rfl⟩ := hat j p hj
      exact (hfs j h1).1
    · have hpos : 0 < len0 := by rw [← hlen]; exact List.length_pos_iff.2 hn
      obtain ⟨b, off, spot⟩ := a
      have hspot : spot = none := by simpa [Addr.add] using World.cell?_spot (hfs 0 hpos).2.1
      subst hspot
      refine ⟨b, off, rfl, ?_, fun j p hp => ?_⟩
      · refine hlt (.cell b off) ?_
        rw [hx, hC]
        exact List.mem_append_left _ (MemPlace.mem_row.2 ⟨0, by omega, by simp⟩)
      · obtain ⟨h1, rfl⟩ := hat j p hp
        obtain ⟨_, c0, c1⟩ := hfs j h1
        rw [add_plain] at c0
        rw [add_plain, add_plain] at c1
        exact ⟨c0, c1⟩
/-- A cell that reads as a number of 64 bits. -/
theorem u64_of_trod {t : TypeId} {fuel : Nat} {c : Value} {y : DataW H × List MemPlace} (ht : P.underlying t = some (.int .u64)) (hf : DataW.trod enc P w base spare held fuel t [c] = some y) :
    ∃ n : Nat, c = .int .u64 (n : Int) ∧ n < 18446744073709551616 := by
  obtain ⟨a, e, _, wa⟩ := DataW.trod_int ht hf
  simp at e
  subst e
  obtain ⟨n, rfl, hn⟩ := nat_of_u64 wa
  exact ⟨n, rfl, hn⟩
end
theorem list10 {α : Type} {cs : List α} (h : cs.length = 10) : ∃ c0 c1 c2 c3 c4 c5 c6 c7 c8 c9, cs = [c0, c1, c2, c3, c4, c5, c6, c7, c8, c9] := by
  match cs, h with
  | [c0, c1, c2, c3, c4, c5, c6, c7, c8, c9], _ => exact ⟨c0, c1, c2, c3, c4, c5, c6, c7, c8, c9, rfl⟩
/-- Ten cells that read as a frame. -/
theorem frame_of_trod {H : Type} {enc : TypeId × Value → H} {w : World} {base : Nat} {spare : Nat → Bool} {held : Bool} {fuel : Nat} {cs : List Value} {y : DataW H × List MemPlace}
    (hf : DataW.trod enc Tryd.prog w base spare held fuel 26 cs = some y) (hlt : ∀ x ∈ y.2, x.block < w.heap.size) :
    ∃ (e : FV), cs = e.cells ∧ e.f.Ok ∧ Lies w w.heap.size e.f e.D e.dc e.S e.sc := by
  have hC : Tryd.prog.cellsOf 26 = 10 := by kernel_rfl
  have hone : oneCellFields Tryd.prog (Tryd.prog.fieldsOf 26) = true := by kernel_rfl
  have hu : Tryd.prog.underlying 26 = some (.struct (Tryd.prog.fieldsOf 26)) := by kernel_rfl
  have ty : (Tryd.prog.fieldsOf 26).map (·.type) = #[3, 22, 22, 22, 22, 22, 22, 4, 23, 24] := by kernel_rfl
  obtain ⟨xs, n, _, rfl, hl, hlen, hfs⟩ := DataW.trod_struct hu hf
  rw [hC] at hl
  obtain ⟨c0, c1, c2, c3, c4, c5, c6, c7, c8, c9, rfl⟩ := list10 hl
  have get : ∀ (j : Nat) (t : TypeId), (#[3, 22, 22, 22, 22, 22, 22, 4, 23, 24] : Array TypeId)[j]? = some t →
      ∃ z, z ∈ xs ∧ DataW.trod enc Tryd.prog w base spare held n t (([c0, c1, c2, c3, c4, c5, c6, c7, c8, c9].drop j).take 1) = some z := by
    intro j t hj
    rw [← ty, Array.getElem?_map] at hj
    cases hg : (Tryd.prog.fieldsOf 26)[j]? with
    | none => rw [hg] at hj; cases hj
    | some fd =>
      rw [hg] at hj
      simp only [Option.map_some, Option.some.injEq] at hj
      obtain ⟨o, k⟩ := hone_of hone j fd hg
      have h := hfs j fd (by first | exact hg | simpa using hg | (rw [← Array.getElem?_toList] at hg; exact hg))
      have hj2 : j < xs.length := by
        have := (Array.getElem?_eq_some_iff.1 hg).1
        omega
      rw [o, k, hj] at h
      refine ⟨xs[j], List.getElem_mem hj2, ?_⟩
      first | exact h | simpa [List.getElem?_eq_getElem hj2] using h
  have low : ∀ z ∈ xs, ∀ x ∈ z.2, x.block < w.heap.size := fun z hz x hx => hlt x (by simp only [List.mem_flatMap]; exact ⟨z, hz, hx⟩)
  obtain ⟨z0, -, h0⟩ := get 0 _ rfl
  obtain ⟨z1, -, h1⟩ := get 1 _ rfl
  obtain ⟨z2, -, h2⟩ := get 2 _ rfl
  obtain ⟨z3, -, h3⟩ := get 3 _ rfl
  obtain ⟨z4, -, h4⟩ := get 4 _ rfl
  obtain ⟨z5, -, h5⟩ := get 5 _ rfl
  obtain ⟨z6, -, h6⟩ := get 6 _ rfl
  obtain ⟨z7, -, h7⟩ := get 7 _ rfl
  obtain ⟨z8, m8, h8⟩ := get 8 _ rfl
  obtain ⟨z9, m9, h9⟩ := get 9 _ rfl
  obtain ⟨kd, e0, _, wk⟩ := DataW.trod_int Tryd.underlying3 h0
  simp at e0
  obtain ⟨n1, rfl, b1⟩ := u64_of_trod Tryd.underlying22 h1
  obtain ⟨n2, rfl, b2⟩ := u64_of_trod Tryd.underlying22 h2
  obtain ⟨n3, rfl, b3⟩ := u64_of_trod Tryd.underlying22 h3
  obtain ⟨n4, rfl, b4⟩ := u64_of_trod Tryd.underlying22 h4
  obtain ⟨n5, rfl, b5⟩ := u64_of_trod Tryd.underlying22 h5
  obtain ⟨n6, rfl, b6⟩ := u64_of_trod Tryd.underlying22 h6
  obtain ⟨fin, e7, _⟩ := DataW.trod_bool Tryd.underlying4 h7
  simp at e7
  obtain ⟨D, dc, ds, rfl, hds, rd, l8, m8'⟩ := row_of_trod 256 Tryd.underlying23 Tryd.underlying5 (by kernel_rfl) (by intro x h; simp [Lit.wf, IntKind.min, IntKind.max, IntKind.signed, IntKind.bits] at h; omega) h8 (low _ m8)
  obtain ⟨S, sc, ss, rfl, hss, rs, l9, m9'⟩ := spans_of_trod (u := 22) Tryd.underlying24 Tryd.underlying42 (by kernel_rfl) (by kernel_rfl) rfl rfl Tryd.underlying22 h9 (low _ m9)
  subst e0 e7
  refine ⟨⟨⟨kd, n1, n2, n3, n4, n5, n6, fin, ds, ss⟩, D, dc, S, sc⟩, rfl, ⟨by simpa [Lit.wf, IntKind.min, IntKind.max, IntKind.signed, IntKind.bits] using wk, fun k => ?_, hds, hss⟩, ⟨l8, m8', rd, l9, m9', rs⟩⟩
  unfold Wig.Fr.get
  split <;> assumption
set_option maxRecDepth 100000 in
/-- A frame by value. -/
theorem open_frame {H : Type} {enc : TypeId × Value → H} {w : World} {base : Nat} {spare : Nat → Bool} {held : Bool} {r : Reach} {b0 : Nat} {d : DataW H} {ps : List MemPlace} {v : Value}
    (hv : Value.okWide Tryd.prog w r b0 26 v) (h : DataW.Trod enc Tryd.prog w base spare held 26 v d ps) (hlt : ∀ x ∈ ps, x.block < w.heap.size) :
    ∃ (e : FV), v = .agg (farr e.f e.D e.dc e.S e.sc) ∧ e.f.Ok ∧ Lies w w.heap.size e.f e.D e.dc e.S e.sc := by
  have hu : Tryd.prog.underlying 26 = some (.struct (Tryd.prog.fieldsOf 26)) := by kernel_rfl
  obtain ⟨cs, rfl, hsz⟩ := okWide_struct hu hv
  obtain ⟨fuel, hf⟩ := h
  obtain ⟨e, he, ho, hl⟩ := frame_of_trod hf hlt
  refine ⟨e, ?_, ho, hl⟩
  have : cs.toList = (farr e.f e.D e.dc e.S e.sc).toList := he
  rw [show cs = farr e.f e.D e.dc e.S e.sc by rw [← Array.toArray_toList (xs := cs), this]]
set_option maxRecDepth 100000 in
/-- A slice of frames. -/
theorem open_frames {H : Type} {enc : TypeId × Value → H} {w : World} {base : Nat} {spare : Nat → Bool} {held : Bool} {t : TypeId} {v : Value} {d : DataW H} {ps : List MemPlace} {r : Reach} {b0 : Nat}
    (ht : Tryd.prog.underlying t = some (.slice 26))
    (hv : Value.okWide Tryd.prog w r b0 t v) (h : DataW.Trod enc Tryd.prog w base spare held t v d ps) (hlt : ∀ x ∈ ps, x.block < w.heap.size) :
    ∃ A c es, v = .slice A es.length c ∧ (∀ e ∈ es, FV.f e |>.Ok) ∧ LiesAll w w.heap.size es ∧ RdF w w.heap.size A es ∧ es.length ≤ c ∧ c ≤ maxLen := by
  have hC : Tryd.prog.cellsOf 26 = 10 := by kernel_rfl
  obtain ⟨a0, len0, cap0, rfl⟩ := okWide_slice ht hv
  obtain ⟨fuel, hf⟩ := h
  rcases open_slice ht hf with ⟨hcs, _⟩ | ⟨a, len, cap, m, n, D, Pl, hcs, hb, hl, hm, hmm, hx, hi⟩
  · simp [Value.cells] at hcs
    obtain ⟨rfl, rfl, rfl⟩ := hcs
    exact ⟨none, 0, [], rfl, (fun _ h => by simp at h), (fun _ h => by simp at h), (fun h => absurd rfl h), by simp, by simp⟩
  · simp [Value.cells] at hcs
    obtain ⟨rfl, rfl, rfl⟩ := hcs
    have hlm : len0 ≤ m := by rw [hmm]; split <;> omega
    simp only [Prod.mk.injEq] at hx
    have each : ∀ i, i < len0 → ∃ e : FV, e.f.Ok ∧ Lies w w.heap.size e.f e.D e.dc e.S e.sc ∧ ∀ j u, e.cells[j]? = some u → w.cell? ((a.add (i * 10)).add j) = some u := by
      intro i hil
      obtain ⟨cs', hc, ht'⟩ := hi i (by omega)
      rw [hC] at hc
      obtain ⟨_, hcl, hat⟩ := World.cells?_some hc
      obtain ⟨e, he, ho, hl'⟩ := frame_of_trod ht' (fun x hx' => hlt x (by rw [hx.2]; refine List.mem_append_right _ (List.mem_flatMap.2 ⟨i, List.mem_range.2 (by omega), hx'⟩)))
      refine ⟨e, ho, hl', fun j u hu => ?_⟩
      rw [← he] at hu
      have hj : j < cs'.length := (List.getElem?_eq_some_iff.1 hu).1
      have := hat j (by omega)
      rw [this]
      exact hu
    obtain ⟨f, hfs⟩ : ∃ f : Nat → FV, ∀ i, i < len0 → (f i).f.Ok ∧ Lies w w.heap.size (f i).f (f i).D (f i).dc (f i).S (f i).sc ∧ ∀ j u, (f i).cells[j]? = some u → w.cell? ((a.add (i * 10)).add j) = some u := by
      refine ⟨fun i => if h : i < len0 then Classical.choose (each i h) else ⟨Wig.Fr.zero, none, 0, none, 0⟩, fun i hi => ?_⟩
      simp only [dif_pos hi]
      exact Classical.choose_spec (each i hi)
    obtain ⟨es, hes⟩ : ∃ es, es = (List.range len0).map f := ⟨_, rfl⟩
    have hlen : es.length = len0 := by rw [hes]; simp
    have hat : ∀ j p, es[j]? = some p → j < len0 ∧ p = f j := by
      intro j p hp
      have hj : j < len0 := by rcases Nat.lt_or_ge j len0 with h | h; exact h; rw [List.getElem?_eq_none (by omega)] at hp; cases hp
      rw [hes] at hp
      simp [hj] at hp
      exact ⟨hj, hp.symm⟩
    refine ⟨some a, cap0, es, by rw [hlen], fun e he => ?_, fun e he => ?_, fun hn => ?_, by omega, hm⟩
    · obtain ⟨j, hj⟩ := List.getElem?_of_mem he
      obtain ⟨h1, rfl⟩ := hat j e hj
      exact (hfs j h1).1
    · obtain ⟨j, hj⟩ := List.getElem?_of_mem he
      obtain ⟨h1, rfl⟩ := hat j e hj
      exact (hfs j h1).2.1
    · have hpos : 0 < len0 := by rw [← hlen]; exact List.length_pos_iff.2 hn
      obtain ⟨b, off, spot⟩ := a
      have hspot : spot = none := by simpa [Addr.add] using World.cell?_spot ((hfs 0 hpos).2.2 0 _ rfl)
      subst hspot
      refine ⟨b, off, rfl, ?_, fun j e he => ?_⟩
      · refine hlt (.cell b off) ?_
        rw [hx.2, hC]
        exact List.mem_append_left _ (MemPlace.mem_row.2 ⟨0, by omega, by simp⟩)
      · obtain ⟨h1, rfl⟩ := hat j e he
        have h := (hfs j h1).2.2
        have g : ∀ i u, (f j).cells[i]? = some u → w.cell? ⟨b, off + j * 10 + i, none⟩ = some u := by
          intro i u hu
          have := h i u hu
          rw [add_plain, add_plain] at this
          exact this
        exact ⟨g 0 _ rfl, g 1 _ rfl, g 2 _ rfl, g 3 _ rfl, g 4 _ rfl, g 5 _ rfl, g 6 _ rfl, g 7 _ rfl, g 8 _ rfl, g 9 _ rfl⟩
end Go.Proofs.YtogioabdijgglaaDoor
