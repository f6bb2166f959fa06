/-
  What package span's copied, lay and met return: spans in memory of the call's own; which spans meet one. Conditions: the lists read as spans of 64 bits; met: of a set's own spans, and a span with a number.
-/
import Derived.Test.YtfibbohccaknjaaSpA
import Derived.Deep.CutRange
import Derived.Deep.DeepCutAuto
namespace Go.Proofs.Ytfibbohccaknjaa
open Go.ChangeShapes Go.WideShapes Go.ChangeAt Go.RowKit Go.Deep
set_option linter.unusedVariables false

theorem cell_two_new (w : World) (p : Wig.Spn) : ∀ j u, (two p)[j]? = some u → (w.alloc (.cells #[.int .u64 (p.1 : Int), .int .u64 (p.2 : Int)] 25)).cell? ((⟨w.heap.size, 0, none⟩ : Addr).add j) = some u := by
  intro j u hj
  rw [add_plain, Nat.zero_add, World.cell?_alloc_at _ _ _ _ rfl]
  simpa [two] using hj
theorem one_two (p : Wig.Spn) : ∀ u ∈ two p, u.oneCell' = true := by
  intro u hu
  simp only [two, List.mem_cons, List.not_mem_nil, or_false] at hu
  rcases hu with rfl | rfl <;> rfl
theorem append_nil_run {P : Program} {w : World} {base : Nat} {t ty e : TypeId} {i : TypeInfo} {size : Nat} (ht : P.underlying t = some (.slice e)) (hi : P.info? e = some i) {v : Value} {n : Nat} {xs : List Value}
    (hown : w.ownsRow base e size v n xs) (c : Nat) : (Builtin.append_ #[t, t] ty #[v, .slice none 0 c]).run P w = .ok v w := by
  have same : Builtin.append_ #[t, t] ty #[v, .slice none 0 c] = Builtin.append_ #[t, t] ty #[v, .slice none 0 0] := by
    unfold Builtin.append_
    rfl
  rw [same]
  exact run_append_owned_none (P := P) (w := w) base t ty e i size ht hi v n xs hown

/-- All of a list of spans appended to a row of the call's own, the source nil, empty or not. -/
theorem wpList_append_spans {w : World} {ops : Array Oper} {rest : List Oper} {o : Oper} {a : Act} {Q : Exit → Act → World → Prop} (hgd : o.guard = none) (s x : Operand)
    (ho : o.op = .call { callee := .builtin .append, args := #[s, x], argTypes := #[22, 22] })
    (base : Nat) (v : Value) (xs ss : List Wig.Spn) (hs : a.eval s = v) (hown : OwnS w base v xs) (B : Nat) (A : Option Addr) (c n : Nat) (hn : ss.length = n) (hx : a.eval x = .slice A n c) (hr : RdS w B A ss)
    (h63 : xs.length + n ≤ 1000000) (hbase : base ≤ w.heap.size)
    (h : ∀ v' w', OwnS w' base v' (xs ++ ss) → w.grownBy w' v.ownBlock → wpList Try.prog ops Q rest (a.put o.dst v') w') : wpList Try.prog ops Q (o :: rest) a w := by
  subst hn
  obtain ⟨i0, hi, hz0, hz1, hz2⟩ := info_parts span_info
  cases A with
  | none =>
    have hnil : ss = [] := by
      rcases ss with _ | ⟨p, ss⟩
      · rfl
      · obtain ⟨b, off, e, _⟩ := hr (by simp)
        cases e
    subst hnil
    refine wpList_plain hgd fun K hK => ?_
    have hrun := append_nil_run (ty := o.type) Try.underlying22 hi hown c
    unfold Oper.wp
    simp only [List.length_nil] at hx
    simp [execOp, ho, resolve, invoke, builtin, hs, hx, hrun, Result.andThen]
    exact hK _ _ (h v w (by simpa using hown) (World.grownBy.refl w _))
  | some ad =>
    refine wpList_append_own _ hgd s x _ ho base 25 i0 (.agg #[.int .u64 0, .int .u64 0]) 2 16 Try.underlying22 hi hz0 hz1 hz2 rfl (by decide) v xs.length (flat xs) hs hown ad ss.length c (flat ss) hx (flat_length ss) hr.flat_ (flat_one_cell ss)
      (by unfold maxLen; omega) (by omega) hbase ?_
    intro v' w' h1 h2 _
    refine h v' w' ?_ h2
    unfold OwnS
    rw [List.length_append, flat_app]
    exact h1

theorem copied_any (l : List Wig.Spn) (A : Option Addr) (n c : Nat) (w : World) (hn : n = l.length) (hm : n ≤ 100000) (hr : RdS w w.heap.size A l) :
    Calls Try.prog 30 #[.slice A n c] w fun e w' => ∃ v, e = .returned v ∧ OwnS w' w.heap.size v l ∧ Below w.heap.size w w' := by
  have HR := Lib.hid hr
  have HN := Lib.hid hn
  clear hr hn
  go_enter Try.func30, Try.ntmps30
  go_wp2_with (at_builtin; refine wpList_append_spans rfl _ _ rfl w.heap.size _ [] l rfl (World.ownsRow_nil _ _ _ _) w.heap.size A c n HN.out.symm rfl HR.out ?c1 (Nat.le_refl _) ?_)
  case c1 => simp; omega
  intro v' w' h1 h2
  have R1 := Lib.hid h1
  have R2 := Lib.hid ((Below.refl w.heap.size w).grown h2 (Nat.le_refl _) (fun _ h => by cases h))
  clear h1 h2
  go_wp2_with fail
  go_ret
  exact ⟨v', rfl, R1.out, R2.out⟩

/-- Below the heap's size nothing has turned but, it may be, one row. -/
def Kept (row : Option Nat) (w w' : World) : Prop := ∀ k, k < w.heap.size → row ≠ some k → w'.heap[k]? = w.heap[k]?
theorem Kept.cell {row : Option Nat} {w w' : World} (h : Kept row w w') {p : Addr} (hp : p.block < w.heap.size) (hr : row ≠ some p.block) : w'.cell? p = w.cell? p := World.cell?_of_block (w := w) (h p.block hp hr)
theorem Kept.of_below {w w' : World} {row : Option Nat} (h : Below w.heap.size w w') : Kept row w w' := fun k hk _ => h.block k hk
theorem Kept.trans {row : Option Nat} {a b c : World} (h : Kept row a b) (k : Kept row b c) (hs : a.heap.size ≤ b.heap.size) : Kept row a c := fun i hi hr => (k i (by omega) hr).trans (h i hi hr)
theorem Kept.grown {row : Option Nat} {a b : World} (h : a.grownBy b row) : Kept row a b := fun k hk hr => h.block k hk (Ne.symm hr)

/-- A row of the call's own, or nothing yet; what is laid behind it. -/
theorem lay_any (v : Value) (l : List Wig.Spn) (p0 p1 base : Nat) (w : World) (hm : l.length ≤ 100000) (ho : OwnS w base v l) (hb : base ≤ w.heap.size) :
    Calls Try.prog 34 #[v, .agg #[.int .u64 (p0 : Int), .int .u64 (p1 : Int)]] w fun e w' => ∃ v', e = .returned v' ∧ OwnS w' base v' (l ++ Wig.slay (p0, p1)) ∧ Below base w w' ∧ Kept v.ownBlock w w' := by
  obtain ⟨i0, hi, hz0, hz1, hz2⟩ := info_parts span_info
  obtain ⟨w1, hw1⟩ : ∃ w1, w1 = w.alloc (.cells #[.int .u64 (p0 : Int), .int .u64 (p1 : Int)] 25) := ⟨_, rfl⟩
  have hsz : w1.heap.size = w.heap.size + 1 := by rw [hw1]; simp
  have k0 : w1.cell? ⟨w.heap.size, 0, none⟩ = some (.int .u64 (p0 : Int)) := by rw [hw1]; exact (new_sp w p0 p1).1
  have k1 : w1.cell? ⟨w.heap.size, 1, none⟩ = some (.int .u64 (p1 : Int)) := by rw [hw1]; exact (new_sp w p0 p1).2
  have hB1 : Below w.heap.size w w1 := by rw [hw1]; exact (Below.refl _ _).alloc (Nat.le_refl _) _
  have HB1 := Lib.hid hB1
  have K0 := Lib.hid k0
  have K1 := Lib.hid k1
  have KS := Lib.hid hsz
  have HO := Lib.hid (ho.below hB1 (Nat.le_refl _))
  have HM := Lib.hid hm
  have HB := Lib.hid hb
  have KW := Lib.hid hw1
  obtain ⟨A, c, hv, -, -, -⟩ := ho.rd
  subst hv
  by_cases he : p1 ≤ p0
  · have CE := Lib.hid (fun w => empty_any p0 p1 true w (decide_eq_true he))
    have R := Lib.hid (show Wig.slay (p0, p1) = [] from Wig.lay_no he)
    clear ho hm hb he hsz hB1
    go_enter Try.func34, Try.ntmps34
    go_wp2_with fail
    rw [← hw1]
    go_wp2_with fail
    refine (CE.out _).mono ?_
    rintro e w2 ⟨rfl, hb2⟩
    have R2 := Lib.hid ((HB1.out.mono HB.out).trans (hb2.mono (by have := KS.out; have := HB.out; omega)))
    have R1 := Lib.hid (HO.out.below hb2 (Nat.le_refl _))
    have K2 := Lib.hid (show Kept (Value.slice A l.length c).ownBlock w w2 from (Kept.of_below HB1.out).trans (Kept.of_below hb2) HB1.out.size)
    clear hb2
    go_wp2_with fail
    go_ret
    exact ⟨_, rfl, by rw [R.out, List.append_nil]; exact R1.out, R2.out, K2.out⟩
  · have CE := Lib.hid (fun w => empty_any p0 p1 false w (decide_eq_false he))
    have R := Lib.hid (show Wig.slay (p0, p1) = [(p0, p1)] from Wig.lay_yes (by simp only; omega))
    clear ho hm hb he hsz hB1
    go_enter Try.func34, Try.ntmps34
    go_wp2_with fail
    rw [← hw1]
    go_wp2_with fail
    refine (CE.out _).mono ?_
    rintro e w2 ⟨rfl, hb2⟩
    have m0 : w2.cell? ⟨w.heap.size, 0, none⟩ = some (.int .u64 (p0 : Int)) := (hb2.cell (by have := KS.out; simp; omega)).trans K0.out
    have m1 : w2.cell? ⟨w.heap.size, 1, none⟩ = some (.int .u64 (p1 : Int)) := (hb2.cell (by have := KS.out; simp; omega)).trans K1.out
    have R2 := Lib.hid ((HB1.out.mono HB.out).trans (hb2.mono (by have := KS.out; have := HB.out; omega)))
    have R1 := Lib.hid (HO.out.below hb2 (Nat.le_refl _))
    have S2 := Lib.hid (show w.heap.size ≤ w2.heap.size by have := KS.out; have := hb2.size; omega)
    have K2 := Lib.hid (show Kept (Value.slice A l.length c).ownBlock w w2 from (Kept.of_below HB1.out).trans (Kept.of_below hb2) HB1.out.size)
    clear hb2 k0 k1
    go_wp2_with (at_builtin; refine wpList_append_own _ rfl _ _ 22 rfl base 25 i0 (.agg #[.int .u64 0, .int .u64 0]) 2 16 Try.underlying22 hi hz0 hz1 hz2 rfl (by decide) _ _ _ rfl (World.ownsRow.alloc (w := w2) R1.out _) ⟨w2.heap.size, 0, none⟩ 1 1 (two (p0, p1)) rfl rfl ?c1 ?c2 ?c3 ?c4 ?c5 ?_)
    case c1 => exact cell_two_new w2 (p0, p1)
    case c2 => exact one_two (p0, p1)
    case c3 => have := HM.out; unfold maxLen; omega
    case c4 => have := HM.out; omega
    case c5 => have := HB.out; have := S2.out; simp; omega
    intro v' w3 hown' hgrow _
    have T1 := Lib.hid hown'
    have T2 := Lib.hid ((R2.out.alloc (by have := HB.out; have := S2.out; omega) (.cells #[.int .u64 (p0 : Int), .int .u64 (p1 : Int)] 25)).grown hgrow (by have := HB.out; have := S2.out; simp; omega) (fun q hq => (R1.out.block q hq).1))
    have T3 := Lib.hid (show Kept (Value.slice A l.length c).ownBlock w w3 from (K2.out.trans (Kept.of_below ((Below.refl _ _).alloc (Nat.le_refl _) (.cells #[.int .u64 (p0 : Int), .int .u64 (p1 : Int)] 25))) S2.out).trans (Kept.grown hgrow) (by have := S2.out; simp; omega))
    clear hown' hgrow
    go_wp2_with fail
    go_ret
    refine ⟨v', rfl, ?_, T2.out, T3.out⟩
    unfold OwnS
    rw [R.out, flat_app, flat_one, List.length_append]
    exact T1.out

/-! met. -/
theorem ahead_any (p0 p1 s0 b : Nat) (r : Bool) (w : World) (h : w.cell? ⟨b, 0, none⟩ = some (.int .u64 (s0 : Int))) (hr : decide (p1 < s0) = r) :
    Calls Try.prog 37 #[.agg #[.int .u64 (p0 : Int), .int .u64 (p1 : Int)], .pointer (some ⟨b, 0, none⟩)] w fun e w' => e = .returned (.bool r) ∧ Below w.heap.size w w' := by
  subst hr
  have lb := World.block_lt_of_cell? w _ h
  simp only at lb
  have B := Lib.hid ((Below.refl w.heap.size w).alloc (Nat.le_refl _) (.cells #[.int .u64 (p0 : Int), .int .u64 (p1 : Int)] 25))
  have k : (w.alloc (.cells #[.int .u64 (p0 : Int), .int .u64 (p1 : Int)] 25)).cell? ⟨b, 0, none⟩ = some (.int .u64 (s0 : Int)) := by rw [World.cell?_alloc_past _ _ _ lb]; exact h
  clear h lb
  go_enter Try.func37, Try.ntmps37
  go_wp2_with fail
  go_ret
  exact ⟨ret_bool (by simp), B.out⟩
theorem past_any (p0 p1 s1 b : Nat) (r : Bool) (w : World) (h : w.cell? ⟨b, 1, none⟩ = some (.int .u64 (s1 : Int))) (hr : decide (s1 < p0) = r) :
    Calls Try.prog 38 #[.agg #[.int .u64 (p0 : Int), .int .u64 (p1 : Int)], .pointer (some ⟨b, 0, none⟩)] w fun e w' => e = .returned (.bool r) ∧ Below w.heap.size w w' := by
  subst hr
  have lb := World.block_lt_of_cell? w _ h
  simp only at lb
  have B := Lib.hid ((Below.refl w.heap.size w).alloc (Nat.le_refl _) (.cells #[.int .u64 (p0 : Int), .int .u64 (p1 : Int)] 25))
  have k : (w.alloc (.cells #[.int .u64 (p0 : Int), .int .u64 (p1 : Int)] 25)).cell? ⟨b, 1, none⟩ = some (.int .u64 (s1 : Int)) := by rw [World.cell?_alloc_past _ _ _ lb]; exact h
  clear h lb
  go_enter Try.func38, Try.ntmps38
  go_wp2_with fail
  go_ret
  exact ⟨ret_bool (by simp), B.out⟩

def MeRel (f g n : Nat) (w : World) (vf vt i : Value) (wr : World) : Prop := ∃ k m : Nat, k ≤ n ∧ k ≤ g ∧ m = min k f ∧ vf = .int .i64 (m : Int) ∧ vt = .int .i64 (k : Int) ∧ i = .int .i64 (k : Int) ∧ Below w.heap.size w wr
set_option maxHeartbeats 2000000 in
theorem met_any (l : List Wig.Spn) (s0 s1 : Nat) (A : Option Addr) (n c f g : Nat) (w : World) (hn : n = l.length) (hm : n ≤ 100000) (hr : RdS w w.heap.size A l) (ho : Wig.SOwn l) (hs : s0 < s1) (hf : f = Wig.nfrom l (s0, s1)) (hg : g = Wig.nto l (s0, s1)) :
    Calls Try.prog 31 #[.slice A n c, .agg #[.int .u64 (s0 : Int), .int .u64 (s1 : Int)]] w fun e w' => e = .returned (.tuple #[.int .i64 (f : Int), .int .i64 (g : Int)]) ∧ Below w.heap.size w w' := by
  have hmf : ∀ (fn : Fn) (first cap : Array Value) (w : World), (Instr.makeFunc fn first cap).run Try.prog w = .ok (.func fn first cap) w := fun _ _ _ _ => rfl
  obtain ⟨w1, hw1⟩ : ∃ w1, w1 = w.alloc (.cells #[.int .u64 (s0 : Int), .int .u64 (s1 : Int)] 25) := ⟨_, rfl⟩
  have hsz : w1.heap.size = w.heap.size + 1 := by rw [hw1]; simp
  have k0 : w1.cell? ⟨w.heap.size, 0, none⟩ = some (.int .u64 (s0 : Int)) := by rw [hw1]; exact (new_sp w s0 s1).1
  have k1 : w1.cell? ⟨w.heap.size, 1, none⟩ = some (.int .u64 (s1 : Int)) := by rw [hw1]; exact (new_sp w s0 s1).2
  have hB1 : Below w.heap.size w w1 := by rw [hw1]; exact (Below.refl _ _).alloc (Nat.le_refl _) _
  have hfg : f ≤ g := by rw [hf, hg]; exact Wig.from_le ho hs
  have hgn : g ≤ n := by rw [hg, hn]; exact Wig.to_le _ _
  have HFG := Lib.hid (And.intro hfg hgn)
  have K0 := Lib.hid k0
  have K1 := Lib.hid k1
  have KS := Lib.hid hsz
  have HB1 := Lib.hid hB1
  have HR := Lib.hid ((hr.below hB1).wide (B' := w1.heap.size) (by omega))
  have HN := Lib.hid hn
  have FI := Lib.hid (fun k p hp => (Wig.from_iff (s := (s0, s1)) (k := k) (p := p) ho hp))
  have TI := Lib.hid (fun k p hp => (Wig.to_iff (s := (s0, s1)) (k := k) (p := p) ho hp))
  rw [← hf] at FI
  rw [← hg] at TI
  clear hr hn ho hs hf hg hfg hgn hsz k0 k1 hB1
  go_enter Try.func31, Try.ntmps31
  go_wp2_with fail
  rw [← hw1]
  clear hw1
  go_step3
  go_wp2_with fail
  go_step3
  go_wp2_with fail
  go_loopw [4, 5, 14] (fun vf vt i wr => MeRel f g n w1 vf vt i wr) (fun _ _ i _ => n - (intOf i).toNat)
  case atStart => exact ⟨0, 0, Nat.zero_le _, Nat.zero_le _, by simp, rfl, rfl, rfl, Below.refl _ _⟩
  case round =>
    obtain ⟨k, m, hk, hkg, hm2, rfl, rfl, rfl, hbel⟩ := hrel
    have KB := Lib.hid hbel
    have hmk : m ≤ 100000 := by omega
    by_cases hlt : k < n
    · obtain ⟨⟨p0, p1⟩, hp⟩ : ∃ p, l[k]? = some p := ⟨_, List.getElem?_eq_getElem (by have := HN.out; omega)⟩
      obtain ⟨b, off, rfl, _, c0, c1⟩ := (HR.out.below hbel).at_ hp
      simp only [] at c0 c1
      have i0 : (0 : Int) ≤ (k : Int) := by omega
      have i1 : (k : Int) < (n : Int) := by omega
      have fi : p1 < s0 ↔ k < f := FI.out k _ hp
      have ti : p0 ≤ s1 ↔ k < g := TI.out k _ hp
      have hfg := HFG.out.1
      have B2 := Lib.hid (KB.out.alloc KB.out.size (.cells #[.int .u64 (p0 : Int), .int .u64 (p1 : Int)] 25))
      have CA : ∀ r, decide (p1 < s0) = r → ∀ w', Below w1.heap.size w1 w' → Calls Try.prog 37 #[.agg #[.int .u64 (p0 : Int), .int .u64 (p1 : Int)], .pointer (some ⟨w.heap.size, 0, none⟩)] w' fun e w'' => e = .returned (.bool r) ∧ Below w'.heap.size w' w'' :=
        fun r hr w' hb => ahead_any p0 p1 s0 w.heap.size r w' ((hb.cell (by have := KS.out; simp; omega)).trans K0.out) hr
      have CP : ∀ r, decide (s1 < p0) = r → ∀ w', Below w1.heap.size w1 w' → Calls Try.prog 38 #[.agg #[.int .u64 (p0 : Int), .int .u64 (p1 : Int)], .pointer (some ⟨w.heap.size, 0, none⟩)] w' fun e w'' => e = .returned (.bool r) ∧ Below w'.heap.size w' w'' :=
        fun r hr w' hb => past_any p0 p1 s1 w.heap.size r w' ((hb.cell (by have := KS.out; simp; omega)).trans K1.out) hr
      obtain ⟨wb, hwb⟩ : ∃ wb, wb = wr.alloc (.cells #[.int .u64 (p0 : Int), .int .u64 (p1 : Int)] 25) := ⟨_, rfl⟩
      rw [← hwb] at B2
      have M0 := Lib.hid (show wb.cell? ⟨wr.heap.size, 0, none⟩ = some (.int .u64 (p0 : Int)) by rw [hwb]; exact (new_sp wr p0 p1).1)
      have M1 := Lib.hid (show wb.cell? ⟨wr.heap.size, 1, none⟩ = some (.int .u64 (p1 : Int)) by rw [hwb]; exact (new_sp wr p0 p1).2)
      have MS := Lib.hid (show wr.heap.size < wb.heap.size by rw [hwb]; simp)
      by_cases h1 : p1 < s0
      · have C1 := Lib.hid (CA true (decide_eq_true h1) wb B2.out)
        have R := Lib.hid (show m + 1 = min (k + 1) f by have := fi.1 h1; omega)
        have R2 := Lib.hid (show k + 1 ≤ g by have := fi.1 h1; omega)
        have m0 := M0.out
        have m1 := M1.out
        clear CA CP hp fi ti hfg h1 hbel hkg hm2
        go_wp2_with fail
        rw [← hwb]
        clear hwb
        go_wp2_with fail
        refine (C1.out).mono ?_
        rintro e w2 ⟨rfl, hb2⟩
        have R3 := Lib.hid (B2.out.trans (hb2.mono B2.out.size))
        clear hb2
        go_wp2_with fail
        go_roundw
        case rel => exact ⟨k + 1, m + 1, hlt, R2.out, R.out, rfl, rfl, rfl, R3.out⟩
        case measure => simp [intOf]; omega
      · have C1 := Lib.hid (CA false (decide_eq_false h1) wb B2.out)
        by_cases h2 : s1 < p0
        · have R := Lib.hid (show m = f ∧ k = g by have := ti; have := fi; omega)
          have C2 := Lib.hid (fun w' (h : Below wb.heap.size wb w') => CP true (decide_eq_true h2) w' (B2.out.trans (h.mono B2.out.size)))
          have m0 := M0.out
          have m1 := M1.out
          clear CA CP hp fi ti hfg h1 h2 hbel hkg hm2
          go_wp2_with fail
          rw [← hwb]
          clear hwb
          go_wp2_with fail
          refine (C1.out).mono ?_
          rintro e w2 ⟨rfl, hb2⟩
          have q0 := (hb2.cell (p := ⟨wr.heap.size, 0, none⟩) MS.out).trans m0
          have q1 := (hb2.cell (p := ⟨wr.heap.size, 1, none⟩) MS.out).trans m1
          have C3 := Lib.hid (C2.out w2 hb2)
          have R3 := Lib.hid (B2.out.trans (hb2.mono B2.out.size))
          clear hb2 m0 m1
          go_wp2_with fail
          refine (C3.out).mono ?_
          rintro e w3 ⟨rfl, hb3⟩
          have R4 := Lib.hid (HB1.out.trans ((R3.out.trans (hb3.mono R3.out.size)).mono (by have := KS.out; omega)))
          clear hb3 q0 q1
          go_wp2_with fail
          (try rw [Exit.noGoto_ret])
          go_ret2
          exact ⟨by rw [R.out.1, R.out.2]; rfl, R4.out⟩
        · have R := Lib.hid (show m = min (k + 1) f ∧ k + 1 ≤ g by have := ti; have := fi; omega)
          have C2 := Lib.hid (fun w' (h : Below wb.heap.size wb w') => CP false (decide_eq_false h2) w' (B2.out.trans (h.mono B2.out.size)))
          have m0 := M0.out
          have m1 := M1.out
          clear CA CP hp fi ti hfg h1 h2 hbel hkg hm2
          go_wp2_with fail
          rw [← hwb]
          clear hwb
          go_wp2_with fail
          refine (C1.out).mono ?_
          rintro e w2 ⟨rfl, hb2⟩
          have q0 := (hb2.cell (p := ⟨wr.heap.size, 0, none⟩) MS.out).trans m0
          have q1 := (hb2.cell (p := ⟨wr.heap.size, 1, none⟩) MS.out).trans m1
          have C3 := Lib.hid (C2.out w2 hb2)
          have R3 := Lib.hid (B2.out.trans (hb2.mono B2.out.size))
          clear hb2 m0 m1
          go_wp2_with fail
          refine (C3.out).mono ?_
          rintro e w3 ⟨rfl, hb3⟩
          have R4 := Lib.hid (R3.out.trans (hb3.mono R3.out.size))
          clear hb3 q0 q1
          go_wp2_with fail
          go_roundw
          case rel => exact ⟨k + 1, m, hlt, R.out.2, R.out.1, rfl, rfl, rfl, R4.out⟩
          case measure => simp [intOf]; omega
    · have R := Lib.hid (show m = f ∧ k = g by have := HFG.out; omega)
      have hkn : k = n := by omega
      have R4 := Lib.hid (HB1.out.trans (hbel.mono (by have := KS.out; omega)))
      subst hkn
      clear hbel hkg hm2
      go_wp2_with fail
      (try rw [Exit.noGoto_ret])
      go_ret2
      exact ⟨by rw [R.out.1, R.out.2]; rfl, R4.out⟩
end Go.Proofs.Ytfibbohccaknjaa
