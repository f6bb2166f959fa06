/-
  What the reader of package frame does with spans. Condition: the table of sizes holds what its text lays; at most 100000 bytes.
-/
import Derived.Test.YtogioabdijgglaaDoorRdB
import Derived.Test.YtogioabdijgglaaDoorRev
import Derived.Test.YtogioabdijgglaaDoorFrmN
namespace Wig
theorem rdMany_next {n : Nat} {first : Bool} {at_ : Nat} {out : List Spn} {xs : List Nat} {t : Nat} {r : List Nat} (h : rdTop first at_ xs = some (t, r)) : rdMany (n + 1) first at_ out xs = pbind num1 (fun l => pbind (low t (l + 1)) fun u => rdMany n false u ((u, t) :: out)) r := by
  rw [rdMany, pbind_of h]
theorem rdMany_stop {n : Nat} {first : Bool} {at_ : Nat} {out : List Spn} {xs : List Nat} (h : rdTop first at_ xs = none) : rdMany (n + 1) first at_ out xs = none := by
  rw [rdMany, pbind_none h]
theorem rdTop_first (at_ : Nat) (xs : List Nat) : rdTop true at_ xs = some (at_, xs) := rfl
theorem rdTop_none {at_ : Nat} {xs : List Nat} (h : num1 xs = none) : rdTop false at_ xs = none := by
  unfold rdTop
  exact pbind_none h
theorem rdTop_low {at_ g : Nat} {xs r : List Nat} (h : num1 xs = some (g, r)) (hl : at_ < g + 1) : rdTop false at_ xs = none := by
  unfold rdTop low
  simp only [Bool.false_eq_true, if_false]
  rw [pbind_of h, if_pos hl]
  rfl
theorem rdTop_some {at_ g : Nat} {xs r : List Nat} (h : num1 xs = some (g, r)) (hl : ¬ at_ < g + 1) : rdTop false at_ xs = some (at_ - (g + 1), r) := by
  unfold rdTop
  simp only [Bool.false_eq_true, if_false]
  rw [pbind_of h, low_of (by omega)]
theorem rdLen_low {t l : Nat} {r r2 : List Nat} {G : Nat → Prs (List Spn)} (h : num1 r = some (l, r2)) (hl : t < l + 1) : pbind num1 (fun l => pbind (low t (l + 1)) G) r = none := by
  rw [pbind_of h]
  refine pbind_none ?_
  unfold low
  rw [if_pos hl]
  rfl
theorem rdLen_some {t l : Nat} {r r2 : List Nat} {G : Nat → Prs (List Spn)} (h : num1 r = some (l, r2)) (hl : ¬ t < l + 1) : pbind num1 (fun l => pbind (low t (l + 1)) G) r = G (t - (l + 1)) r2 := by
  rw [pbind_of h, pbind_of (low_of (by omega) _)]
end Wig
namespace Go.Proofs.YtogioabdijgglaaDoor
open Go.ChangeShapes Go.WideShapes Go.ChangeAt Go.RowKit Go.Deep
set_option linter.unusedVariables false

theorem span_info : (Tryd.prog.info? 42).map (fun i => (i.zero, i.size, i.bytes)) = some (some (.agg #[.int .u64 0, .int .u64 0]), 2, 16) := by kernel_rfl
theorem cell_span_new (w : World) (p : Wig.Spn) : ∀ j u, (two p)[j]? = some u → (w.alloc (.cells #[.int .u64 (p.1 : Int), .int .u64 (p.2 : Int)] 42)).cell? ((⟨w.heap.size, 0, none⟩ : Addr).add j) = some u := by
  intro j u hj
  rw [add_plain, Nat.zero_add, World.cell?_alloc_at _ _ _ _ rfl]
  simpa [two] using hj
theorem one_span (p : Wig.Spn) : ∀ u ∈ two p, u.oneCell' = true := by
  intro u hu
  simp only [two, List.mem_cons, List.not_mem_nil, or_false] at hu
  rcases hu with rfl | rfl <;> rfl
section
variable {g off : Nat} {w wr w' : World}
theorem OwnS.one {base : Nat} {v : Value} {L : List Wig.Spn} (h : OwnS w base v L) (ho : One g off w w') (hg : g < base) : OwnS w' base v L := by
  refine ⟨h.1, ?_⟩
  rcases h.2 with hn | ⟨q, cap, cur, rfl, hq, hh, rest⟩
  · exact .inl hn
  · exact .inr ⟨q, cap, cur, rfl, hq, by rw [ho.but.block q (by have := (Array.getElem?_eq_some_iff.1 hh).1; omega) (by omega)]; exact hh, rest⟩
theorem One.grown {row : Option Nat} (h : One g off w wr) (hg : wr.grownBy w' row) (hr : ∀ k, row = some k → w.heap.size ≤ k) (hgw : g < w.heap.size) : One g off w w' := by
  have hs := h.but.size
  have e : w'.heap[g]? = wr.heap[g]? := hg.block g (by omega) (fun e => by have := hr g e.symm; omega)
  refine ⟨⟨hg.os.trans h.but.os, hg.tape.trans h.but.tape, hg.output.trans h.but.output, Nat.le_trans hs hg.size, fun k hk hn => ?_⟩, fun j hj => ?_, fun j => ?_⟩
  · rw [hg.block k (by omega) (fun e => by have := hr k e.symm; omega)]
    exact h.but.block k hk hn
  · exact (World.cell?_of_block (w := wr) e).trans (h.cells j hj)
  · exact (World.frozen?_of_block (w := wr) e).trans (h.froz j)
theorem One.low (h : One g off w wr) (hb : Below w.heap.size wr w') (hgw : g < w.heap.size) : One g off w w' := by
  have hs := h.but.size
  refine ⟨⟨hb.os.trans h.but.os, hb.tape.trans h.but.tape, hb.output.trans h.but.output, Nat.le_trans hs hb.size, fun k hk hn => ?_⟩, fun j hj => ?_, fun j => ?_⟩
  · rw [hb.block k hk]
    exact h.but.block k hk hn
  · exact (hb.cell hgw).trans (h.cells j hj)
  · exact (hb.frozen hgw).trans (h.froz j)
end

/-- What the reader of spans answers, and what it leaves. -/
def SpRes (B g : Nat) (w : World) (res : Option (List Wig.Spn × List Nat)) (e : Ending) (w' : World) : Prop := match res with
  | none => e = gaveUp ∧ One g 0 w w'
  | some (s, r) => ∃ v, e = .returned v ∧ OwnS w' w.heap.size v s ∧ s.length ≤ 100000 ∧ ∃ u, w'.cell? ⟨g, 0, none⟩ = some u ∧ Bs w' B u r ∧ One g 0 w w'
theorem spRes_none {B g : Nat} {w w' : World} {res : Option (List Wig.Spn × List Nat)} (h : res = none) (ho : One g 0 w w') : SpRes B g w res gaveUp w' := by
  rw [h]
  exact ⟨rfl, ho⟩
/-- At a round's head. -/
def SpRel (B g n : Nat) (w : World) (res : Option (List Wig.Spn × List Nat)) (vo va vi : Value) (wr : World) : Prop :=
  ∃ k at_ out r u, vi = .int .u64 ((k : Nat) : Int) ∧ k ≤ n ∧ va = .int .u64 ((at_ : Nat) : Int) ∧ at_ ≤ 4611686018427387904 ∧ OwnS wr w.heap.size vo out.reverse ∧ wr.cell? ⟨g, 0, none⟩ = some u ∧ Bs wr B u r ∧ One g 0 w wr ∧ Wig.Bytes r ∧
    Wig.rdMany (n - k) (decide (k = 0)) at_ out r = res ∧ out.length + r.length ≤ 100000

set_option maxHeartbeats 4000000 in
theorem spans_any (g : Nat) (u : Value) (B : Nat) (xs : List Nat) (w : World) (hx : Wig.Bytes xs) (h5 : xs.length ≤ 100000) (hu : Bs w B u xs) (hc : w.cell? ⟨g, 0, none⟩ = some u) (hz : w.frozen? ⟨g, 0, none⟩ = false) (hB : B ≤ w.heap.size) (hg : B ≤ g) (hgw : g < w.heap.size) (hg2 : 2 ≤ g) (hT : Tab w) :
    Calls Tryd.prog 49 #[.pointer (some ⟨g, 0, none⟩)] w (SpRes B g w (Wig.rdSpans xs)) := by
  obtain ⟨res, hres⟩ : ∃ res, res = Wig.rdSpans xs := ⟨_, rfl⟩
  rw [← hres]
  unfold Wig.rdSpans at hres
  obtain ⟨i0, hi, hz0, hz1, hz2⟩ := info_parts span_info
  have C := Lib.hid (number_step g 0 u B xs w hx hu hc hz hB hg hT)
  have HH := Lib.hid (And.intro hB (And.intro hg (And.intro hgw hg2)))
  -- a number's reader in a world that is a step further
  have NS := Lib.hid (fun (wr : World) (u : Value) (r : List Nat) (ho : One g 0 w wr) (hx : Wig.Bytes r) (hu : Bs wr B u r) (hc : wr.cell? ⟨g, 0, none⟩ = some u) => number_step g 0 u B r wr hx hu hc ((ho.froz 0).trans hz) (Nat.le_trans hB ho.but.size) hg (hT.but ho.but hg2))
  have LO := Lib.hid below_any
  unfold NumStep at C
  cases hn : Wig.num1 xs with
  | none =>
    rw [hn] at C
    rw [Wig.pbind_none hn] at hres
    have HR := Lib.hid hres
    clear hres
    clear hn hx hu hc hz hT h5 hB hg hgw hg2
    go_enter Tryd.func49, Tryd.ntmps49
    go_wp2_with fail
    refine (C.out).mono ?_
    rintro e w1 ⟨rfl, ho⟩
    have R := Lib.hid (spRes_none (B := B) HR.out ho)
    clear ho
    unfold gaveUp
    go_wp2_with fail
    exact ⟨rfl, R.out⟩
  | some q =>
    obtain ⟨n, r1⟩ := q
    rw [hn] at C
    rw [Wig.pbind_of hn] at hres
    have hf := Wig.num1_facts hx hn
    have hx1 : Wig.Bytes r1 := by
      obtain ⟨p1, hp1, _⟩ := Wig.num1_local xs n r1 hx hn
      rw [hp1] at hx
      exact hx.right
    have h51 : r1.length ≤ 100000 := by omega
    have hn62 : n < 4611686018427387904 := hf.1
    clear hn hx hu hc hz hT h5 hB hg hgw hg2 hf
    go_enter Tryd.func49, Tryd.ntmps49
    go_wp2_with fail
    refine (C.out).mono ?_
    rintro e w1 ⟨rfl, u1, hc1, hu1, ho1⟩
    have D := Lib.hid (NS.out w1 u1 r1 ho1 hx1 hu1 hc1)
    unfold NumStep at D
    cases hn1 : Wig.num1 r1 with
    | none =>
      rw [hn1] at D
      rw [Wig.pbind_none hn1] at hres
      have HO := Lib.hid ho1
      have HR := Lib.hid hres
      clear hres hn1 ho1 hc1 hu1 hx1 hn62 h51
      go_wp2_with fail
      refine (D.out).mono ?_
      rintro e w2 ⟨rfl, ho⟩
      have R := Lib.hid (spRes_none (B := B) HR.out (HO.out.trans ho))
      clear ho
      unfold gaveUp
      go_wp2_with fail
      exact ⟨rfl, R.out⟩
    | some q =>
      obtain ⟨t0, r2⟩ := q
      rw [hn1] at D
      rw [Wig.pbind_of hn1] at hres
      have hf := Wig.num1_facts hx1 hn1
      have hx2 : Wig.Bytes r2 := by
        obtain ⟨p2, hp2, _⟩ := Wig.num1_local r1 t0 r2 hx1 hn1
        rw [hp2] at hx1
        exact hx1.right
      have h52 : r2.length ≤ 100000 := by omega
      have tlt : t0 < 4611686018427387904 := hf.1
      have wr0 : IntKind.u64.wrap ((t0 : Int) + 1) = ((t0 + 1 : Nat) : Int) := by rw [IntKind.wrap_u64]; omega
      have HO := Lib.hid ho1
      have HX := Lib.hid (And.intro hx2 (And.intro h52 (And.intro tlt hn62)))
      have HE := Lib.hid hres
      clear hn1 ho1 hc1 hu1 hx1 h51 hf hx2 h52 tlt hres hn62
      go_wp2_with fail
      refine (D.out).mono ?_
      rintro e w2 ⟨rfl, u2, hc2, hu2, ho2⟩
      have A0 := Lib.hid (show SpRel B g n w res (.slice none 0 0) (.int .u64 ((t0 + 1 : Nat) : Int)) (.int .u64 0) w2 from
        ⟨0, t0 + 1, [], r2, u2, rfl, Nat.zero_le _, rfl, by have := HX.out.2.2.1; omega, World.ownsRow_nil _ _ _ _, hc2, hu2, HO.out.trans ho2, HX.out.1, by rw [Nat.sub_zero]; exact HE.out.symm, by have := HX.out.2.1; simp; omega⟩)
      have HN := fun _ : Unit => HX.out.2.2.2
      clear hc2 hu2 ho2 HO HX HE D C
      go_wp2_with fail
      go_loopw [3, 5, 18] (fun vo va vi wr => SpRel B g n w res vo va vi wr) (fun _ _ vi _ => n - (intOf vi).toNat)
      case atStart => exact A0.out
      case round =>
        obtain ⟨k, at_, out, r, u, rfl, hk, rfl, hat, hown, hcu, hbs, hone, hbx, heq, hlen⟩ := hrel
        have HA := fun _ : Unit => (And.intro hat (And.intro hlen hbx))
        have KO := Lib.hid hown
        have K1 := Lib.hid hone
        have KC := Lib.hid (And.intro hcu hbs)
        have n62 : n < 4611686018427387904 := HN ()
        clear A0
        by_cases hlt : k < n
        · obtain ⟨m, hm⟩ : ∃ m, n - k = m + 1 := ⟨n - k - 1, by omega⟩
          have t1 : decide (k < n) = true := decide_eq_true hlt
          have wk : IntKind.u64.wrap ((k : Int) + 1) = ((k + 1 : Nat) : Int) := by rw [IntKind.wrap_u64]; omega
          have hm' : n - (k + 1) = m := by omega
          rw [hm] at heq
          have HM := Lib.hid hm'
          by_cases hk0 : k = 0
          · have heq2 : Wig.pbind Wig.num1 (fun l => Wig.pbind (Wig.low at_ (l + 1)) fun u => Wig.rdMany m false u ((u, at_) :: out)) r = res := by
              rw [← heq, decide_eq_true hk0]
              exact (Wig.rdMany_next (Wig.rdTop_first _ _)).symm
            have t2 : decide ((0 : Int) < (k : Int)) = false := decide_eq_false (by omega)
            have t3 : decide (0 < k) = false := decide_eq_false (by omega)
            obtain ⟨top, htop⟩ : ∃ top, top = at_ := ⟨_, rfl⟩
            rw [← htop] at heq2 hat ⊢
            have HT := fun _ : Unit => hat
            have HE := Lib.hid heq2
            have HL := fun _ : Unit => hlen
            have HX := Lib.hid hbx
            have D := Lib.hid (NS.out wr u r hone hbx hbs hcu)
            have HK := Lib.hid (And.intro hlt hk)
            clear hm hm' heq heq2 hk0 hat hlen hbx hown hcu hbs hone hk HA htop hlt n62
            go_wp2_with fail
            unfold NumStep at D
            cases hn4 : Wig.num1 r with
            | none =>
              rw [hn4] at D
              have heq3 := HE.out
              rw [Wig.pbind_none hn4] at heq3
              have HR := Lib.hid heq3.symm
              clear hn4 heq3
              refine (D.out).mono ?_
              rintro e w5 ⟨rfl, ho⟩
              have R := Lib.hid (spRes_none (B := B) HR.out (K1.out.trans ho))
              clear ho
              unfold gaveUp
              go_wp2_with fail
              exact ⟨rfl, R.out⟩
            | some q =>
              obtain ⟨l, r5⟩ := q
              rw [hn4] at D
              have hx5 := HX.out
              have hf := Wig.num1_facts hx5 hn4
              have hx6 : Wig.Bytes r5 := by
                obtain ⟨p5, hp5, _⟩ := Wig.num1_local r l r5 hx5 hn4
                rw [hp5] at hx5
                exact hx5.right
              have h50 := HL ()
              have top62 := HT ()
              have l62 := hf.1
              have wl : IntKind.u64.wrap ((l : Int) + 1) = ((l + 1 : Nat) : Int) := by rw [IntKind.wrap_u64]; omega
              by_cases hlo2 : top < l + 1
              · have heq3 := HE.out
                rw [Wig.rdLen_low hn4 hlo2] at heq3
                have HR := Lib.hid heq3.symm
                clear heq3
                have L2 := Lib.hid (fun w => below_any top (l + 1) w (by omega) (by omega))
                simp only [if_pos hlo2] at L2
                clear hn4 hx5 hf hx6 h50 top62 l62 hlo2
                refine (D.out).mono ?_
                rintro e w5 ⟨rfl, q5, hc5, hu5, ho5⟩
                have R := Lib.hid (spRes_none (B := B) HR.out (K1.out.trans ho5))
                clear hc5 hu5 ho5
                go_wp2_with fail
                refine (L2.out _).mono ?_
                rintro e w6 ⟨rfl, rfl⟩
                unfold gaveUp
                go_wp2_with fail
                exact ⟨rfl, R.out⟩
              · have heq3 := HE.out
                rw [Wig.rdLen_some hn4 hlo2] at heq3
                have L2 := Lib.hid (fun w => below_any top (l + 1) w (by omega) (by omega))
                simp only [if_neg hlo2] at L2
                obtain ⟨un, hun⟩ : ∃ un, un = top - (l + 1) := ⟨_, rfl⟩
                rw [← hun] at heq3 L2
                have HE3 := Lib.hid heq3
                have HX6 := Lib.hid hx6
                have HL6 := fun _ : Unit => (show ((un, top) :: out).length + r5.length ≤ 100000 by simp only [List.length_cons]; omega)
                have HU := fun _ : Unit => (show un ≤ 4611686018427387904 by omega)
                have HLO := fun _ : Unit => (show out.length ≤ 100000 by omega)
                clear hn4 hx5 hf hx6 h50 top62 l62 hlo2 heq3 hun HE HT HX HL
                refine (D.out).mono ?_
                rintro e w5 ⟨rfl, q5, hc5, hu5, ho5⟩
                have KO5 := Lib.hid (KO.out.one ho5 HH.out.2.2.1)
                have K5 := Lib.hid (K1.out.trans ho5)
                have KC5 := Lib.hid (And.intro hc5 hu5)
                clear hc5 hu5 ho5 KO K1 D
                go_wp2_with fail
                refine (L2.out _).mono ?_
                rintro e w6 ⟨rfl, rfl⟩
                clear L2
                go_wp2_with (at_builtin; refine wpList_append_own _ rfl _ _ 24 rfl w.heap.size 42 i0 (.agg #[.int .u64 0, .int .u64 0]) 2 16 Tryd.underlying24 hi hz0 hz1 hz2 rfl (by decide) _ _ _ rfl (World.ownsRow.alloc KO5.out _) ⟨w5.heap.size, 0, none⟩ 1 1 (two (un, top)) rfl rfl ?c1 ?c2 ?c3 ?c4 ?c5 ?_)
                case c1 => exact cell_span_new w5 (un, top)
                case c2 => exact one_span (un, top)
                case c3 => rw [List.length_reverse]; have := HLO (); unfold maxLen; omega
                case c4 => rw [List.length_reverse]; have := HLO (); omega
                case c5 => have := K5.out.but.size; simp; omega
                intro v' w7 hown7 hgr7 _
                have hgw := HH.out.2.2.1
                have o6 : One g 0 w (w5.alloc (.cells #[.int .u64 (un : Int), .int .u64 (top : Int)] 42)) := K5.out.low ((Below.refl w.heap.size w5).alloc K5.out.but.size _) hgw
                have hrow := fun q hq => (KO5.out.block q hq).1
                have o7 : One g 0 w w7 := o6.grown hgr7 hrow hgw
                have hb7 : Below w.heap.size w5 w7 := ((Below.refl w.heap.size w5).alloc K5.out.but.size _).grown hgr7 (by have := K5.out.but.size; simp; omega) hrow
                have R : SpRel B g n w res v' (.int .u64 (un : Int)) (.int .u64 ((k + 1 : Nat) : Int)) w7 := by
                  refine ⟨k + 1, un, (un, top) :: out, r5, q5, rfl, HK.out.1, rfl, HU (), ?_, (hb7.cell hgw).trans KC5.out.1, KC5.out.2.keeps (hb7.mono HH.out.1), o7, HX6.out, ?_, HL6 ()⟩
                  · unfold OwnS
                    rw [List.reverse_cons, flat_app, flat_one, List.length_append, List.length_reverse]
                    exact hown7
                  · rw [HM.out, decide_eq_false (Nat.succ_ne_zero k)]
                    exact HE3.out
                have R' := Lib.hid R
                have MK := Lib.hid (show n - (k + 1) < n - k by have := HK.out; omega)
                clear hown7 hgr7 o6 hrow o7 hb7 R
                go_wp2_with fail
                go_roundw
                case rel => exact R'.out
                case measure => have := MK.out; simp [intOf]; omega
          · have e0 : decide (k = 0) = false := decide_eq_false hk0
            rw [e0] at heq
            have t2 : decide ((0 : Int) < (k : Int)) = true := decide_eq_true (by omega)
            have t3 : decide (0 < k) = true := decide_eq_true (by omega)
            have D0 := Lib.hid (NS.out wr u r hone hbx hbs hcu)
            have HK := Lib.hid (And.intro hlt hk)
            unfold NumStep at D0
            cases hn2 : Wig.num1 r with
            | none =>
              rw [hn2] at D0
              rw [Wig.rdMany_stop (Wig.rdTop_none hn2)] at heq
              have HR := Lib.hid heq.symm
              clear heq hm hm' hk0 hat hlen hbx hown hcu hbs hone hk HA hn2 n62 e0 hlt
              go_wp2_with fail
              refine (D0.out).mono ?_
              rintro e w3 ⟨rfl, ho⟩
              have R := Lib.hid (spRes_none (B := B) HR.out (K1.out.trans ho))
              clear ho
              unfold gaveUp
              go_wp2_with fail
              exact ⟨rfl, R.out⟩
            | some q =>
              obtain ⟨gp, r3⟩ := q
              rw [hn2] at D0
              have hf := Wig.num1_facts hbx hn2
              have hx3 : Wig.Bytes r3 := by
                obtain ⟨p3, hp3, _⟩ := Wig.num1_local r gp r3 hbx hn2
                rw [hp3] at hbx
                exact hbx.right
              have wg : IntKind.u64.wrap ((gp : Int) + 1) = ((gp + 1 : Nat) : Int) := by rw [IntKind.wrap_u64]; omega
              by_cases hlo : at_ < gp + 1
              · rw [Wig.rdMany_stop (Wig.rdTop_low hn2 hlo)] at heq
                have HR := Lib.hid heq.symm
                have L0 := Lib.hid (fun w => below_any at_ (gp + 1) w (by omega) (by omega))
                simp only [if_pos hlo] at L0
                clear hm hm' hk0 hat hlen hbx hown hcu hbs hone hk HA hn2 n62 e0 hf hx3 hlo hlt heq
                go_wp2_with fail
                refine (D0.out).mono ?_
                rintro e w3 ⟨rfl, q3, hc3, hu3, ho3⟩
                have R := Lib.hid (spRes_none (B := B) HR.out (K1.out.trans ho3))
                clear hc3 hu3 ho3
                go_wp2_with fail
                refine (L0.out _).mono ?_
                rintro e w4 ⟨rfl, rfl⟩
                unfold gaveUp
                go_wp2_with fail
                exact ⟨rfl, R.out⟩
              · have heq2 : Wig.pbind Wig.num1 (fun l => Wig.pbind (Wig.low (at_ - (gp + 1)) (l + 1)) fun u => Wig.rdMany m false u ((u, at_ - (gp + 1)) :: out)) r3 = res := by
                  rw [← heq]
                  exact (Wig.rdMany_next (Wig.rdTop_some hn2 hlo)).symm
                have L0 := Lib.hid (fun w => below_any at_ (gp + 1) w (by omega) (by omega))
                simp only [if_neg hlo] at L0
                obtain ⟨top, htop⟩ : ∃ top, top = at_ - (gp + 1) := ⟨_, rfl⟩
                rw [← htop] at heq2 L0
                have HT := fun _ : Unit => (show top ≤ 4611686018427387904 by omega)
                have HE := Lib.hid heq2
                have HL := fun _ : Unit => (show out.length + r3.length ≤ 100000 by omega)
                have HX := Lib.hid hx3
                have KO0 := KO
                have K0 := K1
                clear KO K1 KC hm hm' hk0 heq heq2 hat hlen hbx hown hcu hbs hone hk HA hn2 n62 e0 hf hx3 hlo htop hlt
                go_wp2_with fail
                refine (D0.out).mono ?_
                rintro e w3 ⟨rfl, q3, hc3, hu3, ho3⟩
                have KO := Lib.hid (KO0.out.one ho3 HH.out.2.2.1)
                have K1 := Lib.hid (K0.out.trans ho3)
                have D := Lib.hid (NS.out w3 q3 r3 K1.out HX.out hu3 hc3)
                clear hc3 hu3 ho3 D0 KO0 K0
                go_wp2_with fail
                refine (L0.out _).mono ?_
                rintro e w4 ⟨rfl, rfl⟩
                clear L0
                go_wp2_with fail
                unfold NumStep at D
                cases hn4 : Wig.num1 r3 with
                | none =>
                  rw [hn4] at D
                  have heq3 := HE.out
                  rw [Wig.pbind_none hn4] at heq3
                  have HR := Lib.hid heq3.symm
                  clear hn4 heq3
                  refine (D.out).mono ?_
                  rintro e w5 ⟨rfl, ho⟩
                  have R := Lib.hid (spRes_none (B := B) HR.out (K1.out.trans ho))
                  clear ho
                  unfold gaveUp
                  go_wp2_with fail
                  exact ⟨rfl, R.out⟩
                | some q =>
                  obtain ⟨l, r5⟩ := q
                  rw [hn4] at D
                  have hx5 := HX.out
                  have hf := Wig.num1_facts hx5 hn4
                  have hx6 : Wig.Bytes r5 := by
                    obtain ⟨p5, hp5, _⟩ := Wig.num1_local r3 l r5 hx5 hn4
                    rw [hp5] at hx5
                    exact hx5.right
                  have h50 := HL ()
                  have top62 := HT ()
                  have l62 := hf.1
                  have wl : IntKind.u64.wrap ((l : Int) + 1) = ((l + 1 : Nat) : Int) := by rw [IntKind.wrap_u64]; omega
                  by_cases hlo2 : top < l + 1
                  · have heq3 := HE.out
                    rw [Wig.rdLen_low hn4 hlo2] at heq3
                    have HR := Lib.hid heq3.symm
                    clear heq3
                    have L2 := Lib.hid (fun w => below_any top (l + 1) w (by omega) (by omega))
                    simp only [if_pos hlo2] at L2
                    clear hn4 hx5 hf hx6 h50 top62 l62 hlo2
                    refine (D.out).mono ?_
                    rintro e w5 ⟨rfl, q5, hc5, hu5, ho5⟩
                    have R := Lib.hid (spRes_none (B := B) HR.out (K1.out.trans ho5))
                    clear hc5 hu5 ho5
                    go_wp2_with fail
                    refine (L2.out _).mono ?_
                    rintro e w6 ⟨rfl, rfl⟩
                    unfold gaveUp
                    go_wp2_with fail
                    exact ⟨rfl, R.out⟩
                  · have heq3 := HE.out
                    rw [Wig.rdLen_some hn4 hlo2] at heq3
                    have L2 := Lib.hid (fun w => below_any top (l + 1) w (by omega) (by omega))
                    simp only [if_neg hlo2] at L2
                    obtain ⟨un, hun⟩ : ∃ un, un = top - (l + 1) := ⟨_, rfl⟩
                    rw [← hun] at heq3 L2
                    have HE3 := Lib.hid heq3
                    have HX6 := Lib.hid hx6
                    have HL6 := fun _ : Unit => (show ((un, top) :: out).length + r5.length ≤ 100000 by simp only [List.length_cons]; omega)
                    have HU := fun _ : Unit => (show un ≤ 4611686018427387904 by omega)
                    have HLO := fun _ : Unit => (show out.length ≤ 100000 by omega)
                    clear hn4 hx5 hf hx6 h50 top62 l62 hlo2 heq3 hun HE HT HX HL
                    refine (D.out).mono ?_
                    rintro e w5 ⟨rfl, q5, hc5, hu5, ho5⟩
                    have KO5 := Lib.hid (KO.out.one ho5 HH.out.2.2.1)
                    have K5 := Lib.hid (K1.out.trans ho5)
                    have KC5 := Lib.hid (And.intro hc5 hu5)
                    clear hc5 hu5 ho5 KO K1 D
                    go_wp2_with fail
                    refine (L2.out _).mono ?_
                    rintro e w6 ⟨rfl, rfl⟩
                    clear L2
                    go_wp2_with (at_builtin; refine wpList_append_own _ rfl _ _ 24 rfl w.heap.size 42 i0 (.agg #[.int .u64 0, .int .u64 0]) 2 16 Tryd.underlying24 hi hz0 hz1 hz2 rfl (by decide) _ _ _ rfl (World.ownsRow.alloc KO5.out _) ⟨w5.heap.size, 0, none⟩ 1 1 (two (un, top)) rfl rfl ?c1 ?c2 ?c3 ?c4 ?c5 ?_)
                    case c1 => exact cell_span_new w5 (un, top)
                    case c2 => exact one_span (un, top)
                    case c3 => rw [List.length_reverse]; have := HLO (); unfold maxLen; omega
                    case c4 => rw [List.length_reverse]; have := HLO (); omega
                    case c5 => have := K5.out.but.size; simp; omega
                    intro v' w7 hown7 hgr7 _
                    have hgw := HH.out.2.2.1
                    have o6 : One g 0 w (w5.alloc (.cells #[.int .u64 (un : Int), .int .u64 (top : Int)] 42)) := K5.out.low ((Below.refl w.heap.size w5).alloc K5.out.but.size _) hgw
                    have hrow := fun q hq => (KO5.out.block q hq).1
                    have o7 : One g 0 w w7 := o6.grown hgr7 hrow hgw
                    have hb7 : Below w.heap.size w5 w7 := ((Below.refl w.heap.size w5).alloc K5.out.but.size _).grown hgr7 (by have := K5.out.but.size; simp; omega) hrow
                    have R : SpRel B g n w res v' (.int .u64 (un : Int)) (.int .u64 ((k + 1 : Nat) : Int)) w7 := by
                      refine ⟨k + 1, un, (un, top) :: out, r5, q5, rfl, HK.out.1, rfl, HU (), ?_, (hb7.cell hgw).trans KC5.out.1, KC5.out.2.keeps (hb7.mono HH.out.1), o7, HX6.out, ?_, HL6 ()⟩
                      · unfold OwnS
                        rw [List.reverse_cons, flat_app, flat_one, List.length_append, List.length_reverse]
                        exact hown7
                      · rw [HM.out, decide_eq_false (Nat.succ_ne_zero k)]
                        exact HE3.out
                    have R' := Lib.hid R
                    have MK := Lib.hid (show n - (k + 1) < n - k by have := HK.out; omega)
                    clear hown7 hgr7 o6 hrow o7 hb7 R
                    go_wp2_with fail
                    go_roundw
                    case rel => exact R'.out
                    case measure => have := MK.out; simp [intOf]; omega
        · have t1 : decide (k < n) = false := decide_eq_false hlt
          obtain rfl : k = n := by omega
          rw [Nat.sub_self] at heq
          have V := Lib.hid (reverse_any u3 out.reverse wr w.heap.size hown hone.but.size (by rw [List.length_reverse]; omega))
          rw [List.reverse_reverse] at V
          have fin : ∀ w', OwnS w' w.heap.size u3 out → Below w.heap.size wr w' → SpRes B g w res (.returned u3) w' := by
            intro w' h1 h2
            rw [← heq]
            have o2 := K1.out.low h2 HH.out.2.2.1
            have hgw := HH.out.2.2.1
            exact ⟨u3, rfl, h1, by omega, u, (h2.cell hgw).trans KC.out.1, KC.out.2.keeps (h2.mono HH.out.1), o2⟩
          have F := Lib.hid fin
          clear heq hat hlen hbx hown hcu hbs hone hk HA n62 hlt fin
          go_wp2_with fail
          refine (V.out).mono ?_
          rintro e w' ⟨rfl, h1, h2⟩
          have R := Lib.hid (F.out w' h1 h2)
          clear h1 h2 F
          go_wp2_with fail
          go_ret
          exact R.out
end Go.Proofs.YtogioabdijgglaaDoor
