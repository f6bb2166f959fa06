/-
  Parts of slices of spans as values; what slices.Grow of nothing and slices.Concat of spans return: a row of the call's own. Conditions: the lists read as spans.
-/
import Derived.Test.YtfibbohccaknjaaSpB
import Derived.Test.YtfibbohccaknjaaRgn
import Derived.Lib.AppendZeros
namespace Go.Proofs.Ytfibbohccaknjaa
open Go.ChangeShapes Go.WideShapes Go.ChangeAt Go.RowKit Go.Deep
set_option linter.unusedVariables false

/-- Where the part from f on lies. -/
def slA (A : Option Addr) (c f : Nat) : Option Addr := if c = f then A else A.map (·.add (f * 2))
theorem RdS.part {w : World} {B : Nat} {A : Option Addr} {l : List Wig.Spn} (h : RdS w B A l) {c f g : Nat} (hc : l.length ≤ c) : RdS w B (slA A c f) ((l.take g).drop f) := by
  intro hn
  have hf : f < l.length := by
    rcases Nat.lt_or_ge f l.length with h1 | h1
    · exact h1
    · exact absurd (List.drop_eq_nil_of_le (by rw [List.length_take]; omega)) hn
  obtain ⟨b, off, e, hb, hc'⟩ := h (by intro e; rw [e] at hf; simp at hf)
  refine ⟨b, off + f * 2, ?_, hb, fun j p hj => ?_⟩
  · unfold slA
    rw [if_neg (by omega), e]
    simp [add_plain]
  · rw [List.getElem?_drop, List.getElem?_take] at hj
    split at hj
    · have := hc' _ _ hj
      rw [show off + f * 2 + j * 2 = off + (f + j) * 2 by omega]
      exact this
    · cases hj
theorem RdS.from_ {w : World} {B : Nat} {A : Option Addr} {l : List Wig.Spn} (h : RdS w B A l) {c f : Nat} (hc : l.length ≤ c) : RdS w B (slA A c f) (l.drop f) := by
  have := h.part (f := f) (g := l.length) hc
  rwa [List.take_length] at this
theorem RdS.upto {w : World} {B : Nat} {A : Option Addr} {l : List Wig.Spn} (h : RdS w B A l) {c g : Nat} (hc : l.length ≤ c) : RdS w B (slA A c 0) (l.take g) := by
  have := h.part (f := 0) (g := g) hc
  rwa [List.drop_zero] at this

theorem span_cells : (sizeOf (Try.prog.elem 22)).run Try.prog = fun w => .ok 2 w := by
  funext w
  have h : Try.prog.elem 22 = 25 := by kernel_rfl
  rw [h]
  go_simp
theorem run_sl_lh {w : World} {a : Act} {o : Oper} {x lo hi : Operand} (ho : o.op = .slice 22 x (some lo) (some hi) none) {A : Option Addr} {n c f g : Nat} (hx : a.eval x = .slice A n c) (hlo : a.eval lo = .int .i64 (f : Int)) (hhi : a.eval hi = .int .i64 (g : Int))
    (hf : f ≤ g) (hg : g ≤ c) (m k : Nat) (hm : m = g - f) (hk : k = c - f) : (execOp a.eval o).run Try.prog w = .ok (.value (.slice (slA A c f) m k)) w := by
  have ht : Try.prog.underlying 22 = some (.slice (Try.prog.elem 22)) := by kernel_rfl
  unfold execOp
  simp only [ho, Option.map_some, Option.map_none, hx, hlo, hhi, Sem.run_bind, run_sliceAt_slice w _ _ _ _ _ ht, run_slice_lh w _ A n c ht .i64 .i64 (f : Int) (g : Int) (by omega) (by omega) (by omega), span_cells, Result.andThen_ok, Sem.run_pure]
  rw [hm, hk]
  rfl
theorem run_sl_l {w : World} {a : Act} {o : Oper} {x lo : Operand} (ho : o.op = .slice 22 x (some lo) none none) {A : Option Addr} {n c f : Nat} (hx : a.eval x = .slice A n c) (hlo : a.eval lo = .int .i64 (f : Int))
    (hf : f ≤ n) (m k : Nat) (hm : m = n - f) (hk : k = c - f) : (execOp a.eval o).run Try.prog w = .ok (.value (.slice (slA A c f) m k)) w := by
  have ht : Try.prog.underlying 22 = some (.slice (Try.prog.elem 22)) := by kernel_rfl
  unfold execOp
  simp only [ho, Option.map_some, Option.map_none, hx, hlo, Sem.run_bind, run_sliceAt_slice w _ _ _ _ _ ht, run_slice_l w _ A n c ht .i64 (f : Int) (by omega) (by omega), span_cells, Result.andThen_ok, Sem.run_pure]
  rw [hm, hk]
  rfl
theorem run_sl_h {w : World} {a : Act} {o : Oper} {x hi : Operand} (ho : o.op = .slice 22 x none (some hi) none) {A : Option Addr} {n c g : Nat} (hx : a.eval x = .slice A n c) (hhi : a.eval hi = .int .i64 (g : Int))
    (hg : g ≤ c) : (execOp a.eval o).run Try.prog w = .ok (.value (.slice (slA A c 0) g c)) w := by
  have ht : Try.prog.underlying 22 = some (.slice (Try.prog.elem 22)) := by kernel_rfl
  unfold execOp
  simp only [ho, Option.map_some, Option.map_none, hx, hhi, Sem.run_bind, run_sliceAt_slice w _ _ _ _ _ ht, run_slice_h w _ A n c ht .i64 (g : Int) (by omega) (by omega), span_cells, Result.andThen_ok, Sem.run_pure]
  rfl
/-- An operation whose run is known. -/
theorem wpList_run {P : Program} {w : World} {ops : Array Oper} {rest : List Oper} {o : Oper} {a : Act} {Q : Exit → Act → World → Prop} {v : Value} (hgd : o.guard = none) (hr : (execOp a.eval o).run P w = .ok (.value v) w)
    (h : wpList P ops Q rest (a.put o.dst v) w) : wpList P ops Q (o :: rest) a w :=
  wpList_plain hgd fun _ hK => by
    unfold Oper.wp
    rw [hr]
    exact hK _ _ h

theorem grow_any (m : Nat) (w : World) (hm : m ≤ 1000000) :
    Calls Try.prog 39 #[.slice none 0 0, .int .i64 (m : Int)] w fun e w' => ∃ v, e = .returned v ∧ OwnS w' w.heap.size v [] ∧ Below w.heap.size w w' := by
  obtain ⟨i0, hi, hz0, hz1, hz2⟩ := info_parts span_info
  have h1 : ¬ ((m : Int) < 0) := by omega
  by_cases h0 : m = 0
  · have h4 : decide ((0 : Int) < (m : Int)) = false := decide_eq_false (by omega)
    have h4' : decide (0 < m) = false := decide_eq_false (by omega)
    go_enter Try.func39, Try.ntmps39
    go_wp2_with fail
    go_ret
    exact ⟨_, rfl, World.ownsRow_nil _ _ _ _, Below.refl _ _⟩
  · have h4 : decide ((0 : Int) < (m : Int)) = true := decide_eq_true (by omega)
    have h4' : decide (0 < m) = true := decide_eq_true (by omega)
    obtain ⟨G, hG⟩ : ∃ G, G = grownCap w m 0 25 := ⟨_, rfl⟩
    have hG1 : m ≤ G := by rw [hG]; exact grownCap_ge w _ _ _
    have hG2 : G ≤ maxLen := by rw [hG]; exact grownCap_le_maxLen w _ _ _ (by unfold maxLen; omega)
    have hrz := fun ty => Go.Lib.run_append_nil_zeros (P := Try.prog) w 22 3 ty 25 i0 (.agg #[.int .u64 0, .int .u64 0]) .i64 .i64 Try.underlying22 Try.underlying3 hi hz0 m (by omega) (by omega) (by omega) (by rw [hz2]; omega)
    rw [← hG] at hrz
    obtain ⟨cs, hcs⟩ : ∃ cs, cs = Builtin.zeroCells (Value.agg #[.int .u64 0, .int .u64 0]).cells m ++ Builtin.zeroCells (Value.agg #[.int .u64 0, .int .u64 0]).cells (G - m) := ⟨_, rfl⟩
    have hsz : cs.size = G * 2 := by
      rw [hcs, Array.size_append, size_zeroCells, size_zeroCells]
      have : (Value.agg #[.int .u64 0, .int .u64 0]).cells.size = 2 := by decide
      rw [this]; omega
    rw [← hcs] at hrz
    have hG63 : G ≤ 9223372036854775807 := by unfold maxLen at hG2; omega
    have R1 := Lib.hid (show OwnS (w.drew.alloc (.cells cs 25)) w.heap.size (.slice (some ⟨w.heap.size, 0, none⟩) 0 G) [] from
      ⟨rfl, .inr ⟨w.heap.size, G, cs, rfl, Nat.le_refl _, by show (w.heap.push _)[w.heap.size]? = _; simp, Nat.zero_le _, hG2, hsz, rfl⟩⟩)
    have R2 := Lib.hid (show Below w.heap.size w (w.drew.alloc (.cells cs 25)) from (Below.refl _ _).drew.alloc (Nat.le_refl _) _)
    have HRZ := Lib.hid hrz
    clear hG hG2 hrz hcs hsz
    go_enter Try.func39, Try.ntmps39
    go_wp2_with (at_builtin; refine Go.Lib.wpList_append_run _ rfl _ _ _ _ rfl _ _ rfl rfl _ _ (HRZ.out _) ?_)
    go_ret
    exact ⟨_, rfl, R1.out, R2.out⟩

/-- A slice of spans: where it lies, its room, what it reads as. -/
structure Pt where
  A : Option Addr
  c : Nat
  l : List Wig.Spn
def joinP (ps : List Pt) : List Wig.Spn := ps.flatMap (·.l)
theorem joinP_next {ps : List Pt} {k : Nat} {p : Pt} (h : ps[k]? = some p) : joinP (ps.take (k + 1)) = joinP (ps.take k) ++ p.l := by
  unfold joinP
  rw [Wig.take_next h, List.flatMap_append]; simp
/-- The slices of spans in a row's cells. -/
def RdP (w : World) (B b : Nat) (ps : List Pt) : Prop := ∀ j p, ps[j]? = some p → w.cell? ⟨b, j, none⟩ = some (.slice p.A p.l.length p.c) ∧ RdS w B p.A p.l
theorem RdP.below {w w' : World} {B b : Nat} {ps : List Pt} (h : RdP w B b ps) (hb : b < B) (k : Below B w w') : RdP w' B b ps := fun j p hp => ⟨(k.cell hb).trans (h j p hp).1, (h j p hp).2.below k⟩
def SuRel (ps : List Pt) (w : World) (s i : Value) (wr : World) : Prop := ∃ k : Nat, k ≤ ps.length ∧ s = .int .i64 ((joinP (ps.take k)).length : Int) ∧ i = .int .i64 (k : Int) ∧ w = wr
def CoRel (ps : List Pt) (w : World) (v i : Value) (wr : World) : Prop := ∃ k : Nat, k ≤ ps.length ∧ OwnS wr w.heap.size v (joinP (ps.take k)) ∧ i = .int .i64 (k : Int) ∧ Below w.heap.size w wr
theorem joinP_le (ps : List Pt) (k : Nat) : (joinP (ps.take k)).length ≤ (joinP ps).length := by
  have : joinP ps = joinP (ps.take k) ++ joinP (ps.drop k) := by unfold joinP; rw [← List.flatMap_append, List.take_append_drop]
  rw [this, List.length_append]; omega
set_option maxHeartbeats 1000000 in
theorem concat_any (ps : List Pt) (b n : Nat) (w : World) (hn : n = ps.length) (hm : n ≤ 10) (hs : (joinP ps).length ≤ 100000) (hb : b < w.heap.size) (hr : RdP w w.heap.size b ps) :
    Calls Try.prog 32 #[.slice (some ⟨b, 0, none⟩) n n] w fun e w' => ∃ v, e = .returned v ∧ OwnS w' w.heap.size v (joinP ps) ∧ Below w.heap.size w w' := by
  have HR := Lib.hid hr
  have HN := Lib.hid hn
  have HS := Lib.hid hs
  have HB := Lib.hid hb
  clear hr hn hs hb
  go_enter Try.func32, Try.ntmps32
  go_wp2_with fail
  go_loopw [3, 11] (fun s i wr => SuRel ps w s i wr) (fun _ i _ => n - (intOf i).toNat)
  case atStart => exact ⟨0, Nat.zero_le _, rfl, rfl, rfl⟩
  case round =>
    obtain ⟨k, hk, rfl, rfl, rfl⟩ := hrel
    rw [← HN.out] at hk
    obtain ⟨s, hss⟩ : ∃ s, s = (joinP (ps.take k)).length := ⟨_, rfl⟩
    have hs1 : s ≤ 100000 := by have := joinP_le ps k; have := HS.out; omega
    rw [← hss]
    by_cases hlt : k < n
    · obtain ⟨p, hp⟩ : ∃ p, ps[k]? = some p := ⟨_, List.getElem?_eq_getElem (by have := HN.out; omega)⟩
      have c0 := (HR.out k p hp).1
      obtain ⟨m, hm2⟩ : ∃ m, m = p.l.length := ⟨_, rfl⟩
      rw [← hm2] at c0
      have hjn := joinP_next hp
      have hle := joinP_le ps (k + 1)
      have R := Lib.hid (show s + m = (joinP (ps.take (k + 1))).length by rw [hjn, List.length_append, hss, hm2])
      have hs2 : s + m ≤ 100000 := by have := R.out; have := HS.out; omega
      have i0 : (0 : Int) ≤ (k : Int) := by omega
      have i1 : (k : Int) < (n : Int) := by omega
      have e0 : (0 : Nat) + k = k := Nat.zero_add k
      have t0 : decide ((s : Int) + (m : Int) < 0) = false := decide_eq_false (by omega)
      have t1 : ¬ ((s : Int) + (m : Int) < 0) := by omega
      clear hss hp hm2 hjn hle
      go_wp2_with fail
      go_roundw
      case rel => exact ⟨k + 1, by have := HN.out; omega, by rw [← R.out]; simp, rfl, rfl⟩
      case measure => simp [intOf]; omega
    · have hkn : k = n := by omega
      have C := Lib.hid (grow_any s w (by omega))
      clear hss hk hlt
      subst hkn
      go_wp2_with fail
      refine (C.out).mono ?_
      rintro e w1 ⟨v1, rfl, hown, hb1⟩
      have HO := Lib.hid hown
      have HB1 := Lib.hid hb1
      clear hown hb1
      go_wp2_with fail
      go_loopw [6, 27] (fun v i wr => CoRel ps w v i wr) (fun _ i _ => k - (intOf i).toNat)
      case atStart => exact ⟨0, Nat.zero_le _, HO.out, rfl, HB1.out⟩
      case round =>
        obtain ⟨j, hj, hown, rfl, hbel⟩ := hrel
        rw [← HN.out] at hj
        have KO := Lib.hid hown
        have KB := Lib.hid hbel
        by_cases hlt : j < k
        · obtain ⟨p, hp⟩ : ∃ p, ps[j]? = some p := ⟨_, List.getElem?_eq_getElem (by have := HN.out; omega)⟩
          have hrd := (HR.out.below HB.out hbel) j p hp
          have c0 := hrd.1
          have RD := Lib.hid hrd.2
          obtain ⟨m, hm2⟩ : ∃ m, m = p.l.length := ⟨_, rfl⟩
          rw [← hm2] at c0
          have HM := Lib.hid hm2
          have hjn := Lib.hid (joinP_next hp)
          have hle := Lib.hid (joinP_le ps (j + 1))
          have i0 : (0 : Int) ≤ (j : Int) := by omega
          have i1 : (j : Int) < (k : Int) := by omega
          have e0 : (0 : Nat) + j = j := Nat.zero_add j
          clear hp hm2 hown hbel hrd
          go_wp2_with (at_builtin; refine wpList_append_spans rfl _ _ rfl w.heap.size _ (joinP (ps.take j)) p.l rfl KO.out w.heap.size p.A p.c m HM.out.symm rfl RD.out ?c1 KB.out.size ?_)
          case c1 => have h1 := congrArg List.length hjn.out; rw [List.length_append] at h1; have := hle.out; have := HS.out; have := HM.out; omega
          intro v' w2 h1 h2
          have R1 := Lib.hid (show OwnS w2 w.heap.size v' (joinP (ps.take (j + 1))) by rw [hjn.out]; exact h1)
          have R2 := Lib.hid (KB.out.grown h2 KB.out.size (fun q hq => (KO.out.block q hq).1))
          clear h1 h2
          go_wp2_with fail
          go_roundw
          case rel => exact ⟨j + 1, by have := HN.out; omega, R1.out, rfl, R2.out⟩
          case measure => simp [intOf]; omega
        · have hjk : j = k := by omega
          have R1 := Lib.hid (show OwnS wr w.heap.size u6 (joinP ps) by rw [hjk, HN.out, List.take_length] at hown; exact hown)
          clear hown hbel hj hlt
          subst hjk
          go_wp2_with fail
          go_ret
          exact ⟨_, rfl, R1.out, KB.out⟩

/-- Three slices laid in a new row, as a call with three of them lays it, behind a draw. -/
theorem cat3 (w : World) (b : Nat) (A1 A2 A3 : Option Addr) (c1 c2 c3 n1 n2 n3 : Nat) (l1 l2 l3 : List Wig.Spn) (t : TypeId) (hb : b = w.heap.size) (h1 : n1 = l1.length) (h2 : n2 = l2.length) (h3 : n3 = l3.length) (hs : n1 + n2 + n3 ≤ 100000)
    (r1 : RdS w w.heap.size A1 l1) (r2 : RdS w w.heap.size A2 l2) (r3 : RdS w w.heap.size A3 l3) :
    Calls Try.prog 32 #[.slice (some ⟨b, 0, none⟩) 3 3] (w.alloc (.cells #[.slice A1 n1 c1, .slice A2 n2 c2, .slice A3 n3 c3] t)).drew fun e w' =>
      ∃ v, e = .returned v ∧ OwnS w' w.heap.size v (l1 ++ l2 ++ l3) ∧ Below w.heap.size w w' := by
  have hB : Below w.heap.size w (w.alloc (.cells #[.slice A1 n1 c1, .slice A2 n2 c2, .slice A3 n3 c3] t)).drew := ((Below.refl _ _).alloc (Nat.le_refl _) _).drew
  have e : joinP [⟨A1, c1, l1⟩, ⟨A2, c2, l2⟩, ⟨A3, c3, l3⟩] = l1 ++ l2 ++ l3 := by simp [joinP]
  have hz : (w.alloc (.cells #[.slice A1 n1 c1, .slice A2 n2 c2, .slice A3 n3 c3] t)).drew.heap.size = w.heap.size + 1 := by show (w.alloc _).heap.size = _; simp
  refine (concat_any [⟨A1, c1, l1⟩, ⟨A2, c2, l2⟩, ⟨A3, c3, l3⟩] b 3 _ rfl (by omega) (by rw [e, List.length_append, List.length_append]; omega) (by rw [hz]; omega) ?_).mono ?_
  · intro j p hp
    have cell : ∀ j, (w.alloc (.cells #[.slice A1 n1 c1, .slice A2 n2 c2, .slice A3 n3 c3] t)).drew.cell? ⟨b, j, none⟩ = (#[Value.slice A1 n1 c1, .slice A2 n2 c2, .slice A3 n3 c3] : Array Value)[j]? := fun j => by
      show (w.alloc _).cell? _ = _
      rw [World.cell?_alloc_at _ _ _ _ hb]
    match j, hp with
    | 0, hp =>
      simp at hp; subst hp
      exact ⟨by rw [cell, ← h1]; rfl, (r1.below hB).wide hB.size⟩
    | 1, hp =>
      simp at hp; subst hp
      exact ⟨by rw [cell, ← h2]; rfl, (r2.below hB).wide hB.size⟩
    | 2, hp =>
      simp at hp; subst hp
      exact ⟨by rw [cell, ← h3]; rfl, (r3.below hB).wide hB.size⟩
    | (j + 3), hp => simp at hp
  · rintro x w' ⟨v, rfl, hown, hb'⟩
    rw [e] at hown
    exact ⟨v, rfl, hown.base_le hB.size, hB.trans (hb'.mono hB.size)⟩
end Go.Proofs.Ytfibbohccaknjaa
