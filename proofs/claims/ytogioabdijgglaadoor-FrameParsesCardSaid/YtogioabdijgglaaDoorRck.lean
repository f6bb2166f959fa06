/-
  What the document's Check of layer 5 returns. No condition.
-/
import Derived.Test.YtogioabdijgglaaDoorRsp
import Derived.Test.YtogioabdijgglaaDoorRfd
namespace Go.Proofs.YtogioabdijgglaaDoor
open Go.ChangeShapes Go.WideShapes Go.ChangeAt Go.RowKit Go.Deep
set_option linter.unusedVariables false

/-- The six answers and the six numbers lie in blocks of their own. -/
def Sixes (w : World) (b3 b5 : Nat) (has : List Nat) (f : Wig.Fr) : Prop :=
  ∀ k, k < 6 → w.cell? ⟨b3, k, none⟩ = some (.bool (has.contains k)) ∧ w.cell? ⟨b5, k, none⟩ = some (.int .u64 ((f.get k : Nat) : Int))
theorem six_at (has : List Nat) {k : Nat} (hk : k < 6) : (six has)[k]? = some (.bool (has.contains k)) := by
  have : k = 0 ∨ k = 1 ∨ k = 2 ∨ k = 3 ∨ k = 4 ∨ k = 5 := by omega
  rcases this with rfl | rfl | rfl | rfl | rfl | rfl <;> rfl
def sixn (f : Wig.Fr) : Array Value := #[.int .u64 (f.id : Int), .int .u64 (f.off : Int), .int .u64 (f.max : Int), .int .u64 (f.code : Int), .int .u64 (f.delay : Int), .int .u64 (f.ce : Int)]
theorem sixn_at (f : Wig.Fr) {k : Nat} (hk : k < 6) : (sixn f)[k]? = some (.int .u64 ((f.get k : Nat) : Int)) := by
  have : k = 0 ∨ k = 1 ∨ k = 2 ∨ k = 3 ∨ k = 4 ∨ k = 5 := by omega
  rcases this with rfl | rfl | rfl | rfl | rfl | rfl <;> rfl
theorem sixes_lit (w : World) (has : List Nat) (f : Wig.Fr) (t u : TypeId) : Sixes ((w.alloc (.cells (six has) t)).alloc (.cells (sixn f) u)) w.heap.size (w.heap.size + 1) has f := fun k hk => by
  constructor
  · rw [World.cell?_alloc_past _ _ _ (show w.heap.size < (w.alloc (.cells (six has) t)).heap.size by simp), cell_of_row _ _ _ (six has) t (0, 0) (heap_alloc_new w _), six_at has hk]
  · rw [show w.heap.size + 1 = (w.alloc (.cells (six has) t)).heap.size by simp, cell_of_row _ _ _ (sixn f) u (0, 0) (heap_alloc_new _ _), sixn_at f hk]

set_option maxHeartbeats 4000000 in
theorem rcheck_none (v : Value) (f : Wig.Fr) (w : World) (hv : Fv w w.heap.size v f) (hf : Wig.flds (Wig.knat f.kind) = none) :
    Calls Tryd.prog 10 #[v] w fun e w' => e = .returned (.int .i64 50) ∧ Below w.heap.size w w' := by
  obtain ⟨D, dc, S, sc, rfl, hl⟩ := hv
  have hbel : Below w.heap.size w (w.alloc (.cells (farr f D dc S sc) 26)) := (Below.refl _ _).alloc (Nat.le_refl _) _
  obtain ⟨wn, hwn⟩ : ∃ wn, wn = w.alloc (.cells (farr f D dc S sc) 26) := ⟨_, rfl⟩
  rw [← hwn] at hbel
  have C := rfields_none f.kind wn hf
  rw [show six [] = #[.bool false, .bool false, .bool false, .bool false, .bool false, .bool false] from rfl] at C
  have C0 := Lib.hid C
  have HB := Lib.hid hbel
  clear hl hf hbel C
  simp only [farr] at hwn ⊢
  go_enter Tryd.func10, Tryd.ntmps10
  go_wp2_with fail
  rw [← hwn]
  clear hwn
  refine (C0.out).mono ?_
  rintro e w1 ⟨rfl, hb1⟩
  have B1 := Lib.hid (fun o => ((below_trans' HB.out hb1).alloc (below_trans' HB.out hb1).size o))
  clear hb1
  go_wp2_with fail
  go_ret
  exact ⟨rfl, B1.out _⟩

set_option maxHeartbeats 4000000 in
theorem rcheck_some (v : Value) (f : Wig.Fr) (has : List Nat) (w : World) (hv : Fv w w.heap.size v f) (ho : f.Ok) (hf : Wig.flds (Wig.knat f.kind) = some has) :
    Calls Tryd.prog 10 #[v] w fun e w' => e = .returned (.int .i64 ((Wig.ferr f : Nat) : Int)) ∧ Below w.heap.size w w' := by
  obtain ⟨D, dc, S, sc, rfl, hl⟩ := hv
  have hat := at_box w f D dc S sc 26
  have hbel : Below w.heap.size w (w.alloc (.cells (farr f D dc S sc) 26)) := (Below.refl _ _).alloc (Nat.le_refl _) _
  obtain ⟨wn, hwn⟩ : ∃ wn, wn = w.alloc (.cells (farr f D dc S sc) 26) := ⟨_, rfl⟩
  rw [← hwn] at hat hbel
  have hsz : wn.heap.size = w.heap.size + 1 := by rw [hwn]; simp
  have hk : f.kind = ((Wig.knat f.kind : Nat) : Int) := Wig.knat_of ho.kind (Wig.flds_le hf)
  have C := rfields_some (Wig.knat f.kind) has wn hf
  rw [← hk] at C
  unfold six at C
  obtain ⟨p0, q0⟩ : ∃ p, p = has.contains 0 := ⟨_, rfl⟩
  obtain ⟨p1, q1⟩ : ∃ p, p = has.contains 1 := ⟨_, rfl⟩
  obtain ⟨p2, q2⟩ : ∃ p, p = has.contains 2 := ⟨_, rfl⟩
  obtain ⟨p3, q3⟩ : ∃ p, p = has.contains 3 := ⟨_, rfl⟩
  obtain ⟨p4, q4⟩ : ∃ p, p = has.contains 4 := ⟨_, rfl⟩
  obtain ⟨p5, q5⟩ : ∃ p, p = has.contains 5 := ⟨_, rfl⟩
  rw [← q0, ← q1, ← q2, ← q3, ← q4, ← q5] at C
  have C0 := Lib.hid C
  have Q0 := Lib.hid q0
  have Q1 := Lib.hid q1
  have Q2 := Lib.hid q2
  have Q3 := Lib.hid q3
  have Q4 := Lib.hid q4
  have Q5 := Lib.hid q5
  clear q0 q1 q2 q3 q4 q5
  have HB := Lib.hid hbel
  have HA := Lib.hid hat
  have HL := Lib.hid (hl.step hbel)
  have HO := Lib.hid (And.intro ho hsz)
  have HF := Lib.hid hf
  clear hl hf hbel hat hk C ho hsz
  simp only [farr] at hwn ⊢
  go_enter Tryd.func10, Tryd.ntmps10
  go_wp2_with fail
  rw [← hwn]
  clear hwn
  refine (C0.out).mono ?_
  rintro e w1 ⟨rfl, hb1⟩
  obtain ⟨k0, k1, k2, k3, k4, k5, k6, k7, k8, k9, -⟩ := at_ten (HA.out.below hb1) (by have := HO.out.2; have := hb1.size; omega) ((Below.refl w1.heap.size w1).alloc (Nat.le_refl _) (.cells #[.bool p0, .bool p1, .bool p2, .bool p3, .bool p4, .bool p5] 57))
  have hsx := sixes_lit w1 has f 57 60
  have hb3 : Below w1.heap.size w1 ((w1.alloc (.cells (six has) 57)).alloc (.cells (sixn f) 60)) := ((Below.refl _ _).alloc (Nat.le_refl _) _).alloc (by simp) _
  unfold six sixn at hsx hb3
  rw [← Q0.out, ← Q1.out, ← Q2.out, ← Q3.out, ← Q4.out, ← Q5.out] at hsx hb3
  have HSX := Lib.hid hsx
  have HB3 := Lib.hid hb3
  have B1 := Lib.hid hb1
  clear hb1 C0 hsx hb3
  go_wp2_with fail
  obtain ⟨w3, hw3⟩ : ∃ w3, w3 = (w1.alloc (.cells #[.bool p0, .bool p1, .bool p2, .bool p3, .bool p4, .bool p5] 57)).alloc (.cells #[.int .u64 (f.id : Int), .int .u64 (f.off : Int), .int .u64 (f.max : Int), .int .u64 (f.code : Int), .int .u64 (f.delay : Int), .int .u64 (f.ce : Int)] 60) := ⟨_, rfl⟩
  rw [← hw3] at HSX HB3 ⊢
  clear hw3 k0 k1 k2 k3 k4 k5 k6 k7 k8 k9
  have hw1s := HB3.out.size
  go_loop [6] (fun i => NumRel f has i) (fun i => 6 - (intOf i).toNat)
  case atStart => exact ⟨0, by omega, rfl, fun j hj => absurd hj (Nat.not_lt_zero _)⟩
  case round =>
    obtain ⟨k, hk, rfl, hall⟩ := hrel
    have KALL := Lib.hid hall
    clear hall
    by_cases hlt : k < 6
    · obtain ⟨cb, cv⟩ := HSX.out k hlt
      obtain ⟨hbk, hbke⟩ : ∃ b, b = has.contains k := ⟨_, rfl⟩
      obtain ⟨v, hve⟩ : ∃ v, v = f.get k := ⟨_, rfl⟩
      rw [← hbke] at cb
      rw [← hve] at cv
      have i0 : (0 : Int) ≤ (k : Int) := by omega
      have i1 : (k : Int) < 6 := by omega
      have HK6 := Lib.hid hlt
      have hnf : Wig.numFit f has k = (decide (v ≤ 4611686018427387903) && (decide (v = 0) || hbk)) := by unfold Wig.numFit; rw [hve, hbke]
      have hno : Wig.numFit f has k = false → Wig.ferr f = 50 := fun h => ferr_no (by rw [fine_some HF.out, numsFit_false hlt h]; rfl)
      have HST := Lib.hid (fun h => num_step hlt KALL.out h)
      have BE := Lib.hid (below_trans' (below_trans' HB.out B1.out) HB3.out)
      by_cases g1 : 4611686018427387903 < v
      · have R := Lib.hid (hno (by rw [hnf, decide_eq_false (by omega)]; rfl))
        have t1 : decide ((4611686018427387903 : Int) < (v : Int)) = true := decide_eq_true (by omega)
        clear hk hlt hbke hve hnf hno g1
        go_wp2_with fail
        go_ret
        exact ⟨by rw [R.out]; rfl, BE.out⟩
      · have t1 : decide ((4611686018427387903 : Int) < (v : Int)) = false := decide_eq_false (by omega)
        cases hbk with
        | true =>
          have R := Lib.hid (HST.out (by rw [hnf, decide_eq_true (by omega), Bool.or_true]; rfl))
          clear hk hlt hbke hve hnf hno g1
          go_wp2_with fail
          go_round
          case rel => exact R.out
          case measure => have := HK6.out; simp [intOf]; omega
        | false =>
          by_cases g2 : v = 0
          · have R := Lib.hid (HST.out (by rw [hnf, decide_eq_true (by omega), decide_eq_true g2]; rfl))
            have t2 : ((v : Int) != 0) = false := by rw [g2]; rfl
            have t3 : ((v : Int) == 0) = true := by rw [g2]; rfl
            clear hk hlt hbke hve hnf hno g1 g2
            go_wp2_with fail
            go_round
            case rel => exact R.out
            case measure => have := HK6.out; simp [intOf]; omega
          · have R := Lib.hid (hno (by rw [hnf, decide_eq_false g2, Bool.or_false, Bool.and_false]))
            have t3 : ((v : Int) == 0) = false := by simp; omega
            have t2 : ((v : Int) != 0) = true := by rw [bne, t3]; rfl
            clear hk hlt hbke hve hnf hno g1 g2
            go_wp2_with fail
            go_ret
            exact ⟨by rw [R.out]; rfl, BE.out⟩
    · obtain rfl : k = 6 := by omega
      have hnums := numsFit_true (f := f) (has := has) fun j hj => KALL.out j hj
      have hfin := fine_some (f := f) (has := has) HF.out
      rw [hnums, Bool.true_and] at hfin
      obtain ⟨sl, hsl⟩ : ∃ n, n = f.spans.length := ⟨_, rfl⟩
      obtain ⟨dl, hdl⟩ : ∃ n, n = f.data.length := ⟨_, rfl⟩
      obtain ⟨g, hg⟩ : ∃ g, g = Wig.spFit f.spans := ⟨_, rfl⟩
      obtain ⟨fin, hfn⟩ : ∃ b, b = f.fin := ⟨_, rfl⟩
      have off := (KALL.out 1 (by omega))
      have hoff : f.off ≤ 4611686018427387903 := by
        have h := Bool.and_eq_true_iff.1 off
        exact of_decide_eq_true h.1
      obtain ⟨r, hr⟩ : ∃ r, r = 4611686018427387903 - dl := ⟨_, rfl⟩
      have hdm : dl ≤ maxLen := by rw [hdl]; exact Nat.le_trans HL.out.dl HL.out.dm
      have hb13 := below_trans' B1.out HB3.out
      have w13 : wn.heap.size ≤ w3.heap.size := hb13.size
      obtain ⟨k0, k1, k2, k3, k4, k5, k6, k7, k8, k9, -⟩ := at_ten (HA.out.below hb13) (by have := HO.out.2; omega) (Below.refl w3.heap.size w3)
      have HA3 := Lib.hid (HA.out.below hb13)
      have C2 := rspans_any S sl sc f.spans w3 hsl (by rw [hsl]; exact Nat.le_trans HL.out.sl HL.out.sm) (HL.out.step hb13).sr
      rw [← hg] at C2
      rw [← hsl] at k9
      have C2' := Lib.hid C2
      obtain ⟨kk, hkk⟩ : ∃ k, k = Wig.knat f.kind := ⟨_, rfl⟩
      have hki : f.kind = (kk : Int) := by rw [hkk]; exact Wig.knat_of HO.out.1.kind (Wig.flds_le HF.out)
      have hkf : Wig.flds kk = some has := by rw [hkk]; exact HF.out
      have hgl : g = true → 0 < sl := fun h => by
        rw [hg] at h
        unfold Wig.spFit at h
        simp only [Bool.and_eq_true, decide_eq_true_eq] at h
        omega
      have hq1 : has.contains 6 = true → (f.kind == 14) = false ∧ has.contains 7 = false := fun h => by
        rw [hki]
        rcases Wig.flds_cases hkf with ⟨rfl, rfl⟩ | ⟨rfl, rfl⟩ | ⟨rfl, rfl⟩ | ⟨rfl, rfl⟩ | ⟨rfl, rfl⟩ | ⟨rfl, rfl⟩ | ⟨rfl, rfl⟩ | ⟨rfl, rfl⟩ | ⟨rfl, rfl⟩ | ⟨rfl, rfl⟩ | ⟨rfl, rfl⟩ | ⟨rfl, rfl⟩ | ⟨rfl, rfl⟩ | ⟨rfl, rfl⟩ | ⟨rfl, rfl⟩ <;> first | exact ⟨rfl, rfl⟩ | cases h
      have hq2 : ((f.kind == 2) = true ∧ has.contains 6 = true) ∨ ((f.kind == 2) = false ∧ (f.kind == 3) = true ∧ has.contains 6 = true) ∨ ((f.kind == 2) = false ∧ (f.kind == 3) = false ∧ has.contains 6 = false) := by
        rw [hki]
        rcases Wig.flds_cases hkf with ⟨rfl, rfl⟩ | ⟨rfl, rfl⟩ | ⟨rfl, rfl⟩ | ⟨rfl, rfl⟩ | ⟨rfl, rfl⟩ | ⟨rfl, rfl⟩ | ⟨rfl, rfl⟩ | ⟨rfl, rfl⟩ | ⟨rfl, rfl⟩ | ⟨rfl, rfl⟩ | ⟨rfl, rfl⟩ | ⟨rfl, rfl⟩ | ⟨rfl, rfl⟩ | ⟨rfl, rfl⟩ | ⟨rfl, rfl⟩ <;> decide
      have hq3 : ((f.kind == 14) = true ∧ has.contains 7 = true) ∨ ((f.kind == 14) = false ∧ has.contains 7 = false) := by
        rw [hki]
        rcases Wig.flds_cases hkf with ⟨rfl, rfl⟩ | ⟨rfl, rfl⟩ | ⟨rfl, rfl⟩ | ⟨rfl, rfl⟩ | ⟨rfl, rfl⟩ | ⟨rfl, rfl⟩ | ⟨rfl, rfl⟩ | ⟨rfl, rfl⟩ | ⟨rfl, rfl⟩ | ⟨rfl, rfl⟩ | ⟨rfl, rfl⟩ | ⟨rfl, rfl⟩ | ⟨rfl, rfl⟩ | ⟨rfl, rfl⟩ | ⟨rfl, rfl⟩ <;> decide
      have hsf : ∀ b, has.contains 6 = b → Wig.spansFit f.spans (has.contains 6) = if b then g else decide (sl = 0) := fun b hb => by rw [hb, hsl, hg]; cases b <;> rfl
      have hdf : ∀ b, has.contains 7 = b → Wig.dataFit f (has.contains 7) = if b then (decide (dl ≤ 1200) && decide (f.off + dl ≤ 4611686018427387903)) else (decide (dl = 0) && !fin) := fun b hb => by rw [hb, hdl, hfn]; cases b <;> rfl
      have no : ∀ (a b : Bool), Wig.spansFit f.spans (has.contains 6) = a → Wig.dataFit f (has.contains 7) = b → (a && b) = false → Wig.ferr f = 50 := fun a b h1 h2 h3 => ferr_no (by rw [hfin, h1, h2, h3])
      have yes : Wig.spansFit f.spans (has.contains 6) = true → Wig.dataFit f (has.contains 7) = true → Wig.ferr f = 0 := fun h1 h2 => ferr_ok (by rw [hfin, h1, h2]; rfl)
      have e1 : IntKind.u64.wrap (dl : Int) = (dl : Int) := by rw [IntKind.wrap_u64]; unfold maxLen at hdm; omega
      have Tfins : has.contains 7 = false → Wig.spansFit f.spans (has.contains 6) = true → ((fin = true ∧ Wig.ferr f = 50) ∨ (fin = false ∧ (((decide ((0 : Int) < (dl : Int)) = true ∧ decide (0 < dl) = true) ∧ Wig.ferr f = 50) ∨ ((decide ((0 : Int) < (dl : Int)) = false ∧ decide (0 < dl) = false ∧ decide ((1200 : Int) < (dl : Int)) = false ∧ IntKind.u64.wrap (4611686018427387903 - (dl : Int)) = (r : Int) ∧ decide (r < f.off) = false) ∧ Wig.ferr f = 0)))) := fun h7 hs => by
        have hd := hdf false h7
        simp only [Bool.false_eq_true, if_false] at hd
        cases fin with
        | true => exact .inl ⟨rfl, no _ _ hs (hd.trans (Bool.and_false _)) rfl⟩
        | false =>
          refine .inr ⟨rfl, ?_⟩
          by_cases h : dl = 0
          · exact .inr ⟨⟨decide_eq_false (by omega), decide_eq_false (by omega), decide_eq_false (by omega), by rw [IntKind.wrap_u64]; omega, decide_eq_false (by omega)⟩, yes hs (by rw [hd, decide_eq_true h]; rfl)⟩
          · exact .inl ⟨⟨decide_eq_true (by omega), decide_eq_true (by omega)⟩, no _ _ hs (hd.trans (by rw [decide_eq_false h]; rfl)) rfl⟩
      have Tack : has.contains 6 = true → ((g = false ∧ Wig.ferr f = 50) ∨ (g = true ∧ (f.kind != 14) = true ∧ ((fin = true ∧ Wig.ferr f = 50) ∨ (fin = false ∧ (((decide ((0 : Int) < (dl : Int)) = true ∧ decide (0 < dl) = true) ∧ Wig.ferr f = 50) ∨ ((decide ((0 : Int) < (dl : Int)) = false ∧ decide (0 < dl) = false ∧ decide ((1200 : Int) < (dl : Int)) = false ∧ IntKind.u64.wrap (4611686018427387903 - (dl : Int)) = (r : Int) ∧ decide (r < f.off) = false) ∧ Wig.ferr f = 0)))))) := fun h6 => by
        have hs := hsf true h6
        simp only [if_true] at hs
        obtain ⟨n1, n2⟩ := hq1 h6
        have n3 : (f.kind != 14) = true := by rw [bne, n1]; rfl
        cases g with
        | false => exact .inl ⟨rfl, no _ _ hs rfl rfl⟩
        | true => exact .inr ⟨rfl, n3, Tfins n2 hs⟩
      have Tk : has.contains 7 = true → (f.kind == 14) = true → Wig.spansFit f.spans (has.contains 6) = true → ((f.kind != 14) = false ∧ ((decide ((1200 : Int) < (dl : Int)) = true ∧ Wig.ferr f = 50) ∨ (decide ((1200 : Int) < (dl : Int)) = false ∧ IntKind.u64.wrap (4611686018427387903 - (dl : Int)) = (r : Int) ∧ ((decide (r < f.off) = true ∧ Wig.ferr f = 50) ∨ (decide (r < f.off) = false ∧ Wig.ferr f = 0))))) := fun h7 n1 hs => by
        have n3 : (f.kind != 14) = false := by rw [bne, n1]; rfl
        have hd := hdf true h7
        simp only [if_true] at hd
        refine ⟨n3, ?_⟩
        by_cases h : 1200 < dl
        · exact .inl ⟨decide_eq_true (by omega), no _ _ hs (hd.trans (by rw [decide_eq_false (by omega)]; rfl)) rfl⟩
        · refine .inr ⟨decide_eq_false (by omega), by rw [IntKind.wrap_u64]; omega, ?_⟩
          by_cases h' : r < f.off
          · exact .inl ⟨decide_eq_true h', no _ _ hs (hd.trans (by rw [decide_eq_false (show ¬ f.off + dl ≤ 4611686018427387903 by omega), Bool.and_false])) rfl⟩
          · exact .inr ⟨decide_eq_false h', yes hs (by rw [hd, decide_eq_true (by omega), decide_eq_true (by omega)]; rfl)⟩
      have T3 : has.contains 6 = false → ((g = true ∧ Wig.ferr f = 50) ∨ (g = false ∧ (((decide ((0 : Int) < (sl : Int)) = true ∧ decide (0 < sl) = true) ∧ Wig.ferr f = 50) ∨ ((decide ((0 : Int) < (sl : Int)) = false ∧ decide (0 < sl) = false) ∧ (((f.kind != 14) = true ∧ ((fin = true ∧ Wig.ferr f = 50) ∨ (fin = false ∧ (((decide ((0 : Int) < (dl : Int)) = true ∧ decide (0 < dl) = true) ∧ Wig.ferr f = 50) ∨ ((decide ((0 : Int) < (dl : Int)) = false ∧ decide (0 < dl) = false ∧ decide ((1200 : Int) < (dl : Int)) = false ∧ IntKind.u64.wrap (4611686018427387903 - (dl : Int)) = (r : Int) ∧ decide (r < f.off) = false) ∧ Wig.ferr f = 0))))) ∨ ((f.kind != 14) = false ∧ ((decide ((1200 : Int) < (dl : Int)) = true ∧ Wig.ferr f = 50) ∨ (decide ((1200 : Int) < (dl : Int)) = false ∧ IntKind.u64.wrap (4611686018427387903 - (dl : Int)) = (r : Int) ∧ ((decide (r < f.off) = true ∧ Wig.ferr f = 50) ∨ (decide (r < f.off) = false ∧ Wig.ferr f = 0)))))))))) := fun h6 => by
        have hs := hsf false h6
        simp only [Bool.false_eq_true, if_false] at hs
        cases g with
        | true => have := hgl rfl; exact .inl ⟨rfl, no _ _ hs rfl (by rw [decide_eq_false (by omega)]; rfl)⟩
        | false =>
          refine .inr ⟨rfl, ?_⟩
          by_cases h : sl = 0
          · rw [decide_eq_true h] at hs
            refine .inr ⟨⟨decide_eq_false (by omega), decide_eq_false (by omega)⟩, ?_⟩
            rcases hq3 with ⟨n1, h7⟩ | ⟨n1, h7⟩
            · exact .inr (Tk h7 n1 hs)
            · exact .inl ⟨by rw [bne, n1]; rfl, Tfins h7 hs⟩
          · rw [decide_eq_false h] at hs
            exact .inl ⟨⟨decide_eq_true (by omega), decide_eq_true (by omega)⟩, no _ _ hs rfl rfl⟩
      have T : ((f.kind == 2) = true ∧ ((g = false ∧ Wig.ferr f = 50) ∨ (g = true ∧ (f.kind != 14) = true ∧ ((fin = true ∧ Wig.ferr f = 50) ∨ (fin = false ∧ (((decide ((0 : Int) < (dl : Int)) = true ∧ decide (0 < dl) = true) ∧ Wig.ferr f = 50) ∨ ((decide ((0 : Int) < (dl : Int)) = false ∧ decide (0 < dl) = false ∧ decide ((1200 : Int) < (dl : Int)) = false ∧ IntKind.u64.wrap (4611686018427387903 - (dl : Int)) = (r : Int) ∧ decide (r < f.off) = false) ∧ Wig.ferr f = 0))))))) ∨ (((f.kind == 2) = false ∧ (f.kind == 3) = true) ∧ ((g = false ∧ Wig.ferr f = 50) ∨ (g = true ∧ (f.kind != 14) = true ∧ ((fin = true ∧ Wig.ferr f = 50) ∨ (fin = false ∧ (((decide ((0 : Int) < (dl : Int)) = true ∧ decide (0 < dl) = true) ∧ Wig.ferr f = 50) ∨ ((decide ((0 : Int) < (dl : Int)) = false ∧ decide (0 < dl) = false ∧ decide ((1200 : Int) < (dl : Int)) = false ∧ IntKind.u64.wrap (4611686018427387903 - (dl : Int)) = (r : Int) ∧ decide (r < f.off) = false) ∧ Wig.ferr f = 0))))))) ∨ (((f.kind == 2) = false ∧ (f.kind == 3) = false) ∧ ((g = true ∧ Wig.ferr f = 50) ∨ (g = false ∧ (((decide ((0 : Int) < (sl : Int)) = true ∧ decide (0 < sl) = true) ∧ Wig.ferr f = 50) ∨ ((decide ((0 : Int) < (sl : Int)) = false ∧ decide (0 < sl) = false) ∧ (((f.kind != 14) = true ∧ ((fin = true ∧ Wig.ferr f = 50) ∨ (fin = false ∧ (((decide ((0 : Int) < (dl : Int)) = true ∧ decide (0 < dl) = true) ∧ Wig.ferr f = 50) ∨ ((decide ((0 : Int) < (dl : Int)) = false ∧ decide (0 < dl) = false ∧ decide ((1200 : Int) < (dl : Int)) = false ∧ IntKind.u64.wrap (4611686018427387903 - (dl : Int)) = (r : Int) ∧ decide (r < f.off) = false) ∧ Wig.ferr f = 0))))) ∨ ((f.kind != 14) = false ∧ ((decide ((1200 : Int) < (dl : Int)) = true ∧ Wig.ferr f = 50) ∨ (decide ((1200 : Int) < (dl : Int)) = false ∧ IntKind.u64.wrap (4611686018427387903 - (dl : Int)) = (r : Int) ∧ ((decide (r < f.off) = true ∧ Wig.ferr f = 50) ∨ (decide (r < f.off) = false ∧ Wig.ferr f = 0))))))))))) := by
        rcases hq2 with ⟨a1, h6⟩ | ⟨a1, a2, h6⟩ | ⟨a1, a2, h6⟩
        · exact .inl ⟨a1, Tack h6⟩
        · exact .inr (.inl ⟨⟨a1, a2⟩, Tack h6⟩)
        · exact .inr (.inr ⟨⟨a1, a2⟩, T3 h6⟩)
      rw [← hfn] at k7
      rw [← hdl] at k8
      have HL3 := Lib.hid (And.intro hdl (And.intro hsl hfn))
      have LT := Lib.hid (show w.heap.size < w3.heap.size by have := HO.out.2; omega)
      have BE := Lib.hid (below_trans' HB.out hb13)
      clear hk hlt hnums hfin hg hsl hdl hfn off hoff hr hdm hb13 w13 C2 hkk hki hkf hgl hq1 hq2 hq3 hsf hdf no yes Tfins Tack Tk T3 hw1s
      rcases T with ⟨ta, ⟨rfl, R⟩ | ⟨rfl, tb, ⟨rfl, R⟩ | ⟨rfl, ⟨⟨tc, td⟩, R⟩ | ⟨⟨tc, td, te, tf, tg⟩, R⟩⟩⟩⟩ | ⟨⟨ta, ta2⟩, ⟨rfl, R⟩ | ⟨rfl, tb, ⟨rfl, R⟩ | ⟨rfl, ⟨⟨tc, td⟩, R⟩ | ⟨⟨tc, td, te, tf, tg⟩, R⟩⟩⟩⟩ | ⟨⟨ta, ta2⟩, ⟨rfl, R⟩ | ⟨rfl, ⟨⟨tc, td⟩, R⟩ | ⟨⟨tc, td⟩, ⟨tb, ⟨rfl, R⟩ | ⟨rfl, ⟨⟨te, tf⟩, R⟩ | ⟨⟨te, tf, tg, th, ti⟩, R⟩⟩⟩ | ⟨tb, ⟨te, R⟩ | ⟨te, tf, ⟨tg, R⟩ | ⟨tg, R⟩⟩⟩⟩⟩⟩
      all_goals
        have R' := Lib.hid R
        clear R
        go_wp2_with fail
        refine (C2'.out).mono ?_
        rintro e w4 ⟨rfl, hb4⟩
        have j0 := (hb4.cell (p := ⟨w.heap.size, 0, none⟩) LT.out).trans k0
        have j2 := (hb4.cell (p := ⟨w.heap.size, 2, none⟩) LT.out).trans k2
        have j7 := (hb4.cell (p := ⟨w.heap.size, 7, none⟩) LT.out).trans k7
        have j8 := (hb4.cell (p := ⟨w.heap.size, 8, none⟩) LT.out).trans k8
        have j9 := (hb4.cell (p := ⟨w.heap.size, 9, none⟩) LT.out).trans k9
        have BF := Lib.hid (below_trans' BE.out hb4)
        clear hb4 k0 k1 k2 k3 k4 k5 k6 k7 k8 k9
        go_wp2_with fail
        go_ret
        exact ⟨by rw [R'.out]; rfl, BF.out⟩
end Go.Proofs.YtogioabdijgglaaDoor
