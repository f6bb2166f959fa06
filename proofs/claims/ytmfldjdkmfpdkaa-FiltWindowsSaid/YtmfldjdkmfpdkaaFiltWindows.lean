/-
  FiltWindows: of samples that are put in by their time the best one is the greatest, or the least, of all those within the window of the last one, whatever the times, the values and the window. No condition.
-/
import Derived.Test.YtmfldjdkmfpdkaaFiltW
import Derived.Test.YtmfldjdkmfpdkaaFiltX
import Derived.Test.YtmfldjdkmfpdkaaOpen
import Derived.Deep.AppendLies
namespace Go.Proofs.Ytmfldjdkmfpdkaa.filtWindows
open Go.ChangeShapes Go.WideShapes Go.ChangeAt Go.RowKit Go.Deep
set_option linter.unusedVariables false

theorem cell_two_at {w : World} {p : Wig.Smp} {H : Nat} (hH : w.heap.size = H) : ∀ j u, (two p)[j]? = some u → (w.alloc (.cells #[.int .u64 (p.1 : Int), .int .u64 (p.2 : Int)] 25)).cell? ((⟨H, 0, none⟩ : Addr).add j) = some u := by
  subst hH; exact cell_two_new w p

/-- What holds at the head of each round: all samples so far, the two lists that were pushed onto, and where they lie. -/
def Rel (win : Nat) (w : World) (n1 n2 : Nat) (v8 v9 v10 v11 v12 : Value) (wr : World) : Prop :=
  ∃ (k now : Nat) (all hi lo : List Wig.Smp), k ≤ n1 ∧ k ≤ n2 ∧ v12 = .int .i64 (k : Int) ∧ v11 = .int .u64 (now : Int) ∧ now ≤ k * 65535 ∧ all.length = k ∧ hi.length ≤ k ∧ lo.length ≤ k ∧ Wig.Fits all ∧ Wig.Fits hi ∧ Wig.Fits lo ∧
    Wig.Holds true win all hi now ∧ Wig.Holds false win all lo now ∧ Own wr w.heap.size v8 all ∧ Own wr w.heap.size v9 hi ∧ Own wr w.heap.size v10 lo ∧
    (v9.ownBlock = none ∨ v9.ownBlock ≠ v8.ownBlock) ∧ (v10.ownBlock = none ∨ v10.ownBlock ≠ v8.ownBlock) ∧ Below w.heap.size w wr

/-- What the append of the round's sample leaves of the two other rows and of all else. -/
theorem after_append {base : Nat} {w wr wc : World} {v8 v9 : Value} {hi : List Wig.Smp} {o o' : Obj} {g8 n cap : Nat} (hw : Below base w wr) (hbs : base ≤ wr.heap.size) (h8 : ∀ q, v8.ownBlock = some q → base ≤ q ∧ q < wr.heap.size) (h9 : Own wr base v9 hi)
    (hne : v9.ownBlock = none ∨ v9.ownBlock ≠ v8.ownBlock) (hg : ((wr.alloc o).alloc o').grownBy wc v8.ownBlock) (hat : v8.ownBlock = some g8 ∨ g8 = wr.heap.size + 1 + 1) :
    Own wc base v9 hi ∧ (v9.ownBlock = none ∨ v9.ownBlock ≠ (Value.slice (some ⟨g8, 0, none⟩) n cap).ownBlock) ∧ Below base w wc := by
  refine ⟨World.ownsRow.kept (World.ownsRow.alloc (World.ownsRow.alloc h9 o) o') hg hne, ?_, ((hw.alloc hbs o).alloc (by simp; omega) o').grown hg (by simp; omega) (fun q hq => (h8 q hq).1)⟩
  show v9.ownBlock = none ∨ v9.ownBlock ≠ some g8
  rcases hat with hat | hat
  · rcases hne with h | h
    · exact .inl h
    · exact .inr (by rw [← hat]; exact h)
  · right
    intro e
    have := (h9.block g8 e).2
    omega

theorem box_after {wr wc : World} {v8 : Value} {o' : Obj} {p0 p1 : Nat} (h8 : ∀ q, v8.ownBlock = some q → q < wr.heap.size) (hg : ((wr.alloc (.cells #[.int .u64 (p0 : Int), .int .u64 (p1 : Int)] 25)).alloc o').grownBy wc v8.ownBlock) :
    wc.cell? ⟨wr.heap.size, 0, none⟩ = some (.int .u64 (p0 : Int)) ∧ wc.cell? ⟨wr.heap.size, 1, none⟩ = some (.int .u64 (p1 : Int)) ∧ wr.heap.size < wc.heap.size := by
  have hne : some wr.heap.size ≠ v8.ownBlock := fun e => by have := h8 _ e.symm; omega
  refine ⟨?_, ?_, by have := hg.size; simp at this; omega⟩
  · refine hg.cell (a := ⟨wr.heap.size, 0, none⟩) ?_ hne
    rw [World.cell?_alloc_past _ _ _ (by simp), World.cell?_alloc_at _ _ _ _ rfl]; rfl
  · refine hg.cell (a := ⟨wr.heap.size, 1, none⟩) ?_ hne
    rw [World.cell?_alloc_past _ _ _ (by simp), World.cell?_alloc_at _ _ _ _ rfl]; rfl

/-- A list that a push left lies apart from all that lay there before. -/
theorem apart_new {w w' : World} {v : Value} {ss : List Wig.Smp} {g n cap : Nat} (h : Own w' w.heap.size v ss) (hg : g < w.heap.size) : v.ownBlock = none ∨ v.ownBlock ≠ (Value.slice (some ⟨g, 0, none⟩) n cap).ownBlock := by
  right
  show v.ownBlock ≠ some g
  intro e
  have := (h.block g e).1
  omega

theorem own_cells {w : World} {base g n c j : Nat} {ss : List Wig.Smp} {p : Wig.Smp} (h : Own w base (.slice (some ⟨g, 0, none⟩) n c) ss) (hp : ss[j]? = some p) :
    w.cell? ⟨g, j * 2, none⟩ = some (.int .u64 (p.1 : Int)) ∧ w.cell? ⟨g, j * 2 + 1, none⟩ = some (.int .u64 (p.2 : Int)) := by
  obtain ⟨g', c', e, _, _, hc, _⟩ := h.form (by intro e; subst e; simp at hp)
  have hg : g = g' := by
    injection e with e
    injection e with e
    injection e
  subst hg
  exact hc j p hp

/-- What holds of the greatest and the least value at the head of each inner round. -/
def Rel2 (win now n : Nat) (all : List Wig.Smp) (a b i : Value) : Prop :=
  ∃ j m l : Nat, j ≤ n ∧ i = .int .i64 (j : Int) ∧ a = .int .u64 (m : Int) ∧ b = .int .u64 (l : Int) ∧ Wig.Most true win now all (all.take j) m ∧ Wig.Most false win now all (all.take j) l

set_option maxHeartbeats 8000000 in
set_option maxRecDepth 1000000 in
theorem walk (A0 : Option Addr) (c0 : Nat) (xs : List Nat) (A1 : Option Addr) (c1 : Nat) (vs : List Nat) (win : Nat) (hx : ∀ x ∈ xs, x < 65536) (hl0 : xs.length ≤ maxLen) (hv : ∀ x ∈ vs, x < 18446744073709551616) (hl1 : vs.length ≤ maxLen)
    (hw : win < 18446744073709551616) (w : World) (hr0 : RdN .u16 w w.heap.size A0 xs) (hr1 : RdN .u64 w w.heap.size A1 vs) :
    Calls Try.prog 4 #[.slice A0 xs.length c0, .slice A1 vs.length c1, .int .u64 (win : Int)] w fun e w' => e = .returned (.bool true) ∧ Below w.heap.size w w' := by
  obtain ⟨i0, hi, hz0, hz1, hz2⟩ := info_parts samp_info
  obtain ⟨n1, hn1⟩ : ∃ n1, n1 = xs.length := ⟨_, rfl⟩
  obtain ⟨n2, hn2⟩ : ∃ n2, n2 = vs.length := ⟨_, rfl⟩
  rw [← hn1, ← hn2]
  rw [← hn2] at hl1
  have hl2 : n2 ≤ 9223372036854775807 := by unfold maxLen at hl1; omega
  have HX := Lib.hid hx
  have HV := Lib.hid hv
  have HW := Lib.hid hw
  have HN1 := Lib.hid hn1
  have HN2 := Lib.hid hn2
  have HR0 := Lib.hid hr0
  have HR1 := Lib.hid hr1
  have C0 := Lib.hid (fun w => awake_any w)
  by_cases h100 : n1 ≤ 100
  · clear hx hv hw hn1 hn2 hr0 hr1 hl0 hl1
    go_enter Try.func4, Try.ntmps4
    go_wp2_with fail
    refine (C0.out _).mono ?_
    rintro e w1 ⟨rfl, hb1⟩
    have B1 := Lib.hid hb1
    clear hb1
    go_wp2_with fail
    go_loopw [8, 9, 10, 11, 12] (fun v8 v9 v10 v11 v12 wr => Rel win w n1 n2 v8 v9 v10 v11 v12 wr)
      (fun _ _ _ _ i _ => n1 - (intOf i).toNat)
    case atStart => exact ⟨0, 0, [], [], [], by omega, by omega, rfl, rfl, by omega, rfl, by simp, by simp, fun _ h => (by cases h), fun _ h => (by cases h), fun _ h => (by cases h),
      Wig.holds_nil _ _, Wig.holds_nil _ _, World.ownsRow_nil _ _ _ _, World.ownsRow_nil _ _ _ _, World.ownsRow_nil _ _ _ _, .inl rfl, .inl rfl, B1.out⟩
    case round =>
      obtain ⟨k, now, all, hi_, lo, hk1, hk2, rfl, rfl, hnow, hal, hhl, hll, fa, fh, fl, IH, IL, o8, o9, o10, ne9, ne10, hbel⟩ := hrel
      have KB := Lib.hid hbel
      have KBS := Lib.hid (show w.heap.size ≤ wr.heap.size from hbel.size)
      have K8 := Lib.hid o8
      have K9 := Lib.hid o9
      have K10 := Lib.hid o10
      have N9 := Lib.hid ne9
      have N10 := Lib.hid ne10
      have FA := Lib.hid fa
      have FH := Lib.hid fh
      have FL := Lib.hid fl
      have JH := Lib.hid IH
      have JL := Lib.hid IL
      have HAL := Lib.hid hal
      have HHL := Lib.hid hhl
      have HLL := Lib.hid hll
      clear hbel o8 o9 o10 ne9 ne10 fa fh fl IH IL hal hhl hll
      by_cases h1 : k < n1
      · by_cases h2 : k < n2
        · obtain ⟨x, hxk⟩ : ∃ x, xs[k]? = some x := ⟨_, List.getElem?_eq_getElem (by have := HN1.out; omega)⟩
          obtain ⟨v, hvk⟩ : ∃ v, vs[k]? = some v := ⟨_, List.getElem?_eq_getElem (by have := HN2.out; omega)⟩
          have bx := HX.out x (List.mem_of_getElem? hxk)
          have bv := HV.out v (List.mem_of_getElem? hvk)
          obtain ⟨b0, off0, rfl, hb0, hc0⟩ := (HR0.out.below KB.out).at_ hxk
          obtain ⟨b1, off1, rfl, hb1, hc1⟩ := (HR1.out.below KB.out).at_ hvk
          have HVK := Lib.hid hvk
          have HB1 := Lib.hid hb1
          obtain ⟨now', hnow'⟩ : ∃ now', now' = now + x := ⟨_, rfl⟩
          have bn : now' ≤ (k + 1) * 65535 := by omega
          have mw : IntKind.u64.wrap ((now : Int) + (x : Int)) = (now' : Int) := by
            rw [IntKind.wrap_u64, hnow']; omega
          have mx : IntKind.u64.wrap (x : Int) = (x : Int) := by rw [IntKind.wrap_u64]; omega
          have j0 : (0 : Int) ≤ (k : Int) := by omega
          have j1 : (k : Int) < (n1 : Int) := by omega
          have j2 : (k : Int) < (n2 : Int) := by omega
          have NN := Lib.hid (show now ≤ now' by omega)
          have BN := Lib.hid bn
          have BV := Lib.hid bv
          have BN64 := Lib.hid (show now' < 18446744073709551616 by omega)
          have k8k : wr.ownsRow w.heap.size 25 2 u8 k (flat all) := by
            have := K8.out
            unfold Own at this
            rwa [HAL.out] at this
          have K8k := Lib.hid k8k
          clear hxk hvk hb0 hb1 bx bv hnow' bn hnow k8k
          go_wp2_with (at_builtin; refine wpList_append_lies _ rfl _ _ 22 rfl w.heap.size 25 i0 (.agg #[.int .u64 0, .int .u64 0]) 2 16 Try.underlying22 hi hz0 hz1 hz2 rfl (by decide) _ _ _ rfl (World.ownsRow.alloc (World.ownsRow.alloc K8k.out _) _) ⟨wr.heap.size + 1, 0, none⟩ 1 1 (two (now', v)) rfl rfl ?d1 (one_two (now', v)) (by decide) ?d2 ?d3 ?d4 (wr.heap.size + 1 + 1) ?d5 ?_)
          case d1 => exact cell_two_at (p := (now', v)) (by simp)
          case d2 => unfold maxLen; omega
          case d3 => omega
          case d4 => have := KBS.out; simp; omega
          case d5 => simp
          intro g8 cap8 wc hown8 hg8 hat8 hlt8
          obtain ⟨o9, a9, hbc⟩ := after_append (n := k + 1) (cap := cap8) KB.out KBS.out K8.out.block K9.out N9.out hg8 hat8
          obtain ⟨o10, a10, _⟩ := after_append (n := k + 1) (cap := cap8) KB.out KBS.out K8.out.block K10.out N10.out hg8 hat8
          obtain ⟨q0, q1, hq⟩ := box_after (fun q hq => (K8.out.block q hq).2) hg8
          obtain ⟨all', ha'⟩ : ∃ all', all' = all ++ [(now', v)] := ⟨_, rfl⟩
          have la : all'.length = k + 1 := by rw [ha', List.length_append, HAL.out]; rfl
          have o8 : Own wc w.heap.size (.slice (some ⟨g8, 0, none⟩) (k + 1) cap8) all' := by
            unfold Own
            rw [la, ha', flat_app, flat_one]
            exact hown8
          have fa' : Wig.Fits all' := by
            intro p hp
            rw [ha'] at hp
            rcases List.mem_append.1 hp with hp | hp
            · exact FA.out p hp
            · rw [List.mem_singleton.1 hp]; exact ⟨BN64.out, BV.out⟩
          have min_ : (now', v) ∈ all' := by rw [ha']; exact List.mem_append_right _ (List.mem_singleton.2 rfl)
          obtain ⟨hi', hhi'⟩ : ∃ hi', hi' = Wig.pushed true win (now', v) hi_ := ⟨_, rfl⟩
          obtain ⟨lo', hlo'⟩ : ∃ lo', lo' = Wig.pushed false win (now', v) lo := ⟨_, rfl⟩
          have ih' : Wig.Holds true win all' hi' now' := by rw [ha', hhi']; exact Wig.holds_push JH.out NN.out BN64.out
          have il' : Wig.Holds false win all' lo' now' := by rw [ha', hlo']; exact Wig.holds_push JL.out NN.out BN64.out
          obtain ⟨m9, hm9⟩ : ∃ m9, m9 = hi_.length := ⟨_, rfl⟩
          obtain ⟨m10, hm10⟩ : ∃ m10, m10 = lo.length := ⟨_, rfl⟩
          obtain ⟨n9, hn9⟩ : ∃ n9, n9 = hi'.length := ⟨_, rfl⟩
          obtain ⟨n10, hn10⟩ : ∃ n10, n10 = lo'.length := ⟨_, rfl⟩
          have ln9 : n9 ≤ k + 1 := by have := Wig.pushed_le true win (now', v) hi_; have := HHL.out; rw [hn9, hhi']; omega
          have ln10 : n10 ≤ k + 1 := by have := Wig.pushed_le false win (now', v) lo; have := HLL.out; rw [hn10, hlo']; omega
          have fh' : Wig.Fits hi' := by rw [hhi']; exact Wig.pushed_fits FH.out ⟨BN64.out, BV.out⟩
          have fl' : Wig.Fits lo' := by rw [hlo']; exact Wig.pushed_fits FL.out ⟨BN64.out, BV.out⟩
          obtain ⟨A9, c9, e9, _, r9, _⟩ := o9.rd
          obtain ⟨A10, c10, e10, _, _, _⟩ := o10.rd
          rw [← hm9] at e9
          rw [← hm10] at e10
          have CP := Lib.hid (pushMax_gives win now' v hi_ hi' m9 n9 A9 c9 wc hm9.symm hn9.symm (by have := HHL.out; omega) FH.out r9 HW.out BN64.out BV.out hhi'.symm)
          have CQ := Lib.hid (fun A c w' h => pushMin_gives win now' v lo lo' m10 n10 A c w' hm10.symm hn10.symm (by have := HLL.out; omega) FL.out h HW.out BN64.out BV.out hlo'.symm)
          have O8 := Lib.hid o8
          have O10 := Lib.hid o10
          have S8 := Lib.hid (show g8 < wc.heap.size from hlt8)
          have QS := Lib.hid hq
          have KBc := Lib.hid hbc
          have LA := Lib.hid la
          have FA' := Lib.hid fa'
          have MIN := Lib.hid min_
          have IH' := Lib.hid ih'
          have IL' := Lib.hid il'
          have FH' := Lib.hid fh'
          have FL' := Lib.hid fl'
          have HN9 := Lib.hid hn9
          have HN10 := Lib.hid hn10
          have LN9 := Lib.hid ln9
          have LN10 := Lib.hid ln10
          subst e9
          subst e10
          clear hown8 hg8 hat8 hlt8 o9 a9 hbc o10 a10 ha' la o8 fa' min_ hhi' hlo' ih' il' hm9 hm10 hn9 hn10 ln9 ln10 fh' fl' r9 hq K8 K9 K10 N9 N10 K8k
          go_wp2_with fail
          refine CP.out.mono ?_
          rintro e wd ⟨B9, d9, rfl, r9, hbd, o9⟩
          have O8d := Lib.hid (O8.out.below hbd (Nat.le_refl _))
          have O10d := Lib.hid (O10.out.below hbd (Nat.le_refl _))
          have O9d := Lib.hid (o9.base_le (base' := w.heap.size) (by have := KBS.out; have := QS.out; omega))
          have N9d := Lib.hid (apart_new (n := k + 1) (cap := cap8) o9 S8.out)
          replace q0 := (hbd.cell (p := ⟨wr.heap.size, 0, none⟩) QS.out).trans q0
          replace q1 := (hbd.cell (p := ⟨wr.heap.size, 1, none⟩) QS.out).trans q1
          have QSd := Lib.hid (Nat.lt_of_lt_of_le QS.out hbd.size)
          have S8d := Lib.hid (Nat.lt_of_lt_of_le S8.out hbd.size)
          have KBd := Lib.hid (KBc.out.trans (hbd.mono (by have := KBS.out; have := QS.out; omega)))
          have R9d := Lib.hid r9
          clear hbd o9 r9 CP
          obtain ⟨A10', c10', e10', _, r10, _⟩ := O10d.out.rd
          have e10a : A10 = A10' := by injection e10'
          rw [← e10a] at r10
          have R10d := Lib.hid r10
          clear r10 e10a e10'
          go_wp2_with fail
          refine (CQ.out _ _ _ R10d.out).mono ?_
          rintro e we ⟨B10, d10, rfl, r10, hbe, o10⟩
          have O8e := Lib.hid (O8d.out.below hbe (Nat.le_refl _))
          have O9e := Lib.hid (O9d.out.below hbe (Nat.le_refl _))
          have O10e := Lib.hid (o10.base_le (base' := w.heap.size) (by have := KBS.out; have := QSd.out; omega))
          have N10e := Lib.hid (apart_new (n := k + 1) (cap := cap8) o10 S8d.out)
          have KBe := Lib.hid (KBd.out.trans (hbe.mono (by have := KBS.out; have := QSd.out; omega)))
          have R9e := Lib.hid ((R9d.out.below hbe).wide hbe.size)
          have R10e := Lib.hid r10
          have hc1' := (KBe.out.cell (p := ⟨b1, off1 + k, none⟩) HB1.out).trans ((KB.out.cell (p := ⟨b1, off1 + k, none⟩) HB1.out).symm.trans hc1)
          clear hbe o10 r10 CQ q0 q1
          go_wp2_with fail
          have BM1 := Lib.hid (fun m h => best_lit hi' n9 m B9 d9 we HN9.out.symm (by have := LN9.out; omega) h R9e.out)
          have BM2 := Lib.hid (fun m h => best_lit lo' n10 m B10 d10 we HN10.out.symm (by have := LN10.out; omega) h R10e.out)
          go_loopw [14, 15, 16] (fun a b i w' => Rel2 win now' (k + 1) all' a b i ∧ w' = we)
            (fun _ _ i _ => k + 1 - (intOf i).toNat)
          case atStart => exact ⟨⟨0, v, v, by omega, rfl, rfl, rfl, Wig.most_start MIN.out BN64.out, Wig.most_start MIN.out BN64.out⟩, rfl⟩
          case round =>
            obtain ⟨⟨j, m, l, hj, rfl, rfl, rfl, hm, hl⟩, rfl⟩ := hrel
            have HM := Lib.hid hm
            have HL := Lib.hid hl
            clear hm hl
            by_cases hlt : j < k + 1
            · obtain ⟨p, hp⟩ : ∃ p, all'[j]? = some p := ⟨_, List.getElem?_eq_getElem (by have := LA.out; omega)⟩
              obtain ⟨hp0, hp1⟩ := own_cells O8e.out hp
              have hpf := FA'.out p (List.mem_of_getElem? hp)
              have HPM := Lib.hid (List.mem_of_getElem? hp)
              have HP := Lib.hid hp
              obtain ⟨p0, p1⟩ := p
              obtain ⟨a, ha⟩ : ∃ a, a = Wig.fadd p0 win := ⟨_, rfl⟩
              have C1 := Lib.hid (fun w => radd_any p0 win w hpf.1 HW.out)
              rw [← ha] at C1
              have HA := Lib.hid ha
              clear hp hpf ha
              have z0 : (0 : Int) ≤ (j : Int) := by omega
              have z1 : (j : Int) < (k : Int) + 1 := by omega
              by_cases hin : now' ≤ a
              · obtain ⟨m2, hm2⟩ : ∃ m2, m2 = max m p1 := ⟨_, rfl⟩
                obtain ⟨l2, hl2'⟩ : ∃ l2, l2 = min l p1 := ⟨_, rfl⟩
                have x1 : max (m : Int) (p1 : Int) = (m2 : Int) := by rw [hm2]; omega
                have x2 : min (l : Int) (p1 : Int) = (l2 : Int) := by rw [hl2']; omega
                have HM2 := Lib.hid hm2
                have HL2 := Lib.hid hl2'
                clear hm2 hl2'
                go_wp2_with fail
                refine (C1.out _).mono ?_
                rintro e wz ⟨rfl, rfl⟩
                go_wp2_with fail
                go_roundw
                case rel =>
                  refine ⟨⟨j + 1, m2, l2, by omega, rfl, (by rw [HM2.out]; congr 1; split <;> omega), (by rw [HL2.out]; congr 1; split <;> omega), ?_, ?_⟩, trivial⟩
                  · rw [Wig.take_more _ _ _ HP.out, HM2.out]
                    exact Wig.most_max HM.out HPM.out (by rw [← HA.out]; exact hin)
                  · rw [Wig.take_more _ _ _ HP.out, HL2.out]
                    exact Wig.most_min HL.out HPM.out (by rw [← HA.out]; exact hin)
                case measure => simp [intOf]; omega
              · have hd : decide (now' ≤ a) = false := decide_eq_false hin
                go_wp2_with fail
                refine (C1.out _).mono ?_
                rintro e wz ⟨rfl, rfl⟩
                go_wp2_with fail
                go_roundw
                case rel =>
                  refine ⟨⟨j + 1, m, l, by omega, rfl, rfl, rfl, ?_, ?_⟩, trivial⟩
                  · rw [Wig.take_more _ _ _ HP.out]
                    exact Wig.most_out HM.out (by rw [← HA.out]; exact hin)
                  · rw [Wig.take_more _ _ _ HP.out]
                    exact Wig.most_out HL.out (by rw [← HA.out]; exact hin)
                case measure => simp [intOf]; omega
            · have hjk : j = k + 1 := by omega
              have hall : all'.take j = all' := by rw [hjk, ← LA.out]; exact List.take_length
              have bm1 := BM1.out m (Wig.best_most IH'.out (by have := HM.out; rwa [hall] at this))
              have bm2 := BM2.out l (Wig.best_most IL'.out (by have := HL.out; rwa [hall] at this))
              have D1 := Lib.hid bm1
              have D2 := Lib.hid bm2
              clear hall bm1 bm2 hjk
              have hd : decide (j < k + 1) = false := decide_eq_false hlt
              go_wp2_with fail
              refine D1.out.mono ?_
              rintro e wz ⟨rfl, rfl⟩
              go_wp2_with fail
              refine D2.out.mono ?_
              rintro e wz ⟨rfl, rfl⟩
              go_wp2_with fail
              go_roundw
              case rel =>
                exact ⟨k + 1, now', all', hi', lo', by omega, by omega, rfl, rfl, BN.out, LA.out, by rw [← HN9.out]; exact LN9.out, by rw [← HN10.out]; exact LN10.out, FA'.out, FH'.out, FL'.out, IH'.out, IL'.out, O8e.out, O9e.out, O10e.out, N9d.out, N10e.out, KBe.out⟩
              case measure => simp [intOf]; omega
        · have hkn : k = n2 := by omega
          have hd : decide (k < n1) = true := decide_eq_true h1
          have hd2 : decide (k < n2) = false := decide_eq_false h2
          go_wp2_with fail
          go_ret
          exact ⟨rfl, KB.out⟩
      · have hd : decide (k < n1) = false := decide_eq_false h1
        go_wp2_with fail
        go_ret
        exact ⟨rfl, KB.out⟩
  · have h100' : decide ((100 : Int) < (n1 : Int)) = true := decide_eq_true (by omega)
    have hl0' : n1 ≤ 9223372036854775807 := by rw [← hn1] at hl0; unfold maxLen at hl0; omega
    clear hx hv hw hn1 hn2 hr0 hr1 hl0 hl1 h100
    go_enter Try.func4, Try.ntmps4
    go_wp2_with fail
    refine (C0.out _).mono ?_
    rintro e w1 ⟨rfl, hb1⟩
    have B1 := Lib.hid hb1
    clear hb1
    go_wp2_with fail
    go_ret
    exact ⟨rfl, B1.out⟩

set_option maxRecDepth 100000 in
theorem lifted (os : Os) (started : os.Started) (H : Type) (enc : TypeId × Value → H) :
    ReturnsInHanded {} Try.checked os 4 .any (Rows.filtWindowsSpec.pre6 enc Try.prog Try.f4 Rows.filtWindowsRow.domain false) (Rows.filtWindowsSpec.post enc Try.prog Try.f4 false true false false) := by
  refine returnsInHanded_of_change (C := Try.checked) own started (by kernel_rfl) Try.func4
    (ChangeSpec.witness6 (enc := enc) (C := Try.checked) false ⟨#[], #[.slice none 0 0, .slice none 0 0, .int .u64 0], []⟩ 8 (by kernel_rfl) (by kernel_rfl) (by kernel_rfl) (by kernel_rfl)) ?_
  intro W base args ds gs before hval0 hW hcnd _
  have hval : ∀ (j : Nat) t v, Try.f4.params[j]? = some t → args[j]? = some v → Value.okWide Try.prog W .any base t v := hval0
  have hW' := hW
  obtain ⟨p, q, hA0, hV, rfl, hfz, hnd⟩ := hW
  have hA : DataW.TrodAll enc Try.prog W 0 (fun _ => true) true Try.f4.params.toList args.toList ds p := hA0
  obtain ⟨rfl, rfl⟩ := trodVars_none hV
  simp only [List.append_nil] at hW'
  have hlow : ∀ x ∈ p, x.block < W.heap.size := fun x hx => hW'.lt x hx
  have hA2 := hA
  rw [Try.params4] at hval hA2
  obtain ⟨v0, vs0, d0, ds0, p0, q0, hargs, rfl, rfl, h0, r0⟩ := trodAll_cons hA2
  obtain ⟨v1, vs1, d1, ds1, p1, q1, rfl, rfl, rfl, h1, r1⟩ := trodAll_cons r0
  obtain ⟨v2, vs2, d2, ds2, p2, q2, rfl, rfl, rfl, h2, r2⟩ := trodAll_cons r1
  obtain ⟨rfl, rfl, rfl⟩ := trodAll_nil r2
  obtain rfl : args = #[v0, v1, v2] := by cases args; simp_all
  obtain ⟨A0, c0, xs0, rfl, hx0, hr0, hl0⟩ := open_nats 65536 Try.underlying31 Try.underlying33 (by kernel_rfl) (by intro x h; simp [Lit.wf, IntKind.min, IntKind.max, IntKind.signed, IntKind.bits] at h; omega) (hval 0 31 v0 rfl rfl) h0 (fun x hx => hlow x (by simp [hx]))
  obtain ⟨A1, c1, xs1, rfl, hx1, hr1, hl1⟩ := open_nats 18446744073709551616 Try.underlying32 Try.underlying23 (by kernel_rfl) (by intro x h; simp [Lit.wf, IntKind.min, IntKind.max, IntKind.signed, IntKind.bits] at h; omega) (hval 1 32 v1 rfl rfl) h1 (fun x hx => hlow x (by simp [hx]))
  obtain ⟨n2, rfl, hn2⟩ := open_u64 Try.underlying23 (hval 2 23 v2 rfl rfl) h2
  refine (walk A0 c0 xs0 A1 c1 xs1 n2 hx0 hl0 hx1 hl1 hn2 W hr0 hr1).mono fun e W' ⟨he, hg⟩ => ?_
  subst he
  exact ⟨_, rfl, law_true laid_out (by kernel_rfl) rfl Try.underlying4 (by kernel_rfl) hW' hA rfl rfl rfl hg⟩

theorem over : Rows.filtWindowsRow.holds Try.pinned (OpenSpec.ofChange Rows.filtWindowsSpec) :=
  OpenClaim.holds_of_wide 4 Try.f4 rfl rfl rfl rfl rfl rfl rfl ⟨rfl, rfl, rfl, rfl, rfl⟩ rfl rfl rfl rfl rfl (by kernel_rfl) Try.func4 (by kernel_rfl)
    (of_decide_eq_true (by kernel_rfl)) (by unfold Func.isWrapper; first | (rw [if_pos (by decide +kernel)]; kernel_rfl) | (rw [if_neg (by decide +kernel)]; exact ⟨rfl, rfl⟩))
    (fun os started H enc _ => lifted os started H enc)

/-- The statement. -/
theorem proved : Rows.FiltWindowsSaid := over
end Go.Proofs.Ytmfldjdkmfpdkaa.filtWindows
