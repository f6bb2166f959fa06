/-
  FiltPushes: any list of at most three hundred samples with a sample more is what the document says, of the greatest and of the least, and so is the best one. No condition.
-/
import Derived.Test.YtmfldjdkmfpdkaaFiltW
import Derived.Test.YtmfldjdkmfpdkaaOpen
import Derived.Deep.RegionHeld3
import Derived.Deep.DrawnRows
import Derived.Deep.CutRange
import Derived.Deep.DeepCutAuto
namespace Go.Proofs.Ytmfldjdkmfpdkaa.filtPushes
open Go.ChangeShapes Go.WideShapes Go.ChangeAt Go.RowKit Go.Deep
set_option linter.unusedVariables false
attribute [local go_sem ↓] Go.wp_at_zero Go.wp_at_succ

theorem box_at {w1 w' : World} {b : Nat} {s0 s1 : Nat} (hb : b < w1.heap.size) (k0 : w1.cell? ⟨b, 0, none⟩ = some (.int .u64 (s0 : Int))) (k1 : w1.cell? ⟨b, 1, none⟩ = some (.int .u64 (s1 : Int)))
    (h : Below w1.heap.size w1 w') : w'.cell? ⟨b, 0, none⟩ = some (.int .u64 (s0 : Int)) ∧ w'.cell? ⟨b, 1, none⟩ = some (.int .u64 (s1 : Int)) ∧ Below w1.heap.size w1 w' :=
  ⟨(h.cell hb).trans k0, (h.cell hb).trans k1, h⟩

theorem held_below {X Y : Prop} {B : Nat} {w1 w' : World} (h : X ∧ Y ∧ Below B w1 w') : Below B w1 w' := h.2.2
theorem rd_step {w1 w' : World} {A : Option Addr} {ss : List Wig.Smp} (h : Rd w1 w1.heap.size A ss) (hb : Below w1.heap.size w1 w') : Rd w' w'.heap.size A ss := (h.below hb).wide hb.size
theorem rd_stays {w1 : World} {A : Option Addr} {ss : List Wig.Smp} (h : Rd w1 w1.heap.size A ss) : ∀ w', Below w1.heap.size w1 w' → Rd w' w'.heap.size A ss := fun _ hb => rd_step h hb

set_option maxHeartbeats 2000000 in
theorem walk (A : Option Addr) (c : Nat) (ss : List Wig.Smp) (win s0 s1 : Nat) (hf : Wig.Fits ss) (hl : ss.length ≤ maxLen) (hw : win < 18446744073709551616) (hs0 : s0 < 18446744073709551616) (hs1 : s1 < 18446744073709551616)
    (w : World) (hr : Rd w w.heap.size A ss) :
    Calls Try.prog 3 #[.slice A ss.length c, .int .u64 (win : Int), .agg #[.int .u64 (s0 : Int), .int .u64 (s1 : Int)]] w fun e w' => e = .returned (.bool true) ∧ Below w.heap.size w w' := by
  obtain ⟨n, hn⟩ : ∃ n, n = ss.length := ⟨_, rfl⟩
  rw [← hn] at hl ⊢
  obtain ⟨wb, hwb⟩ : ∃ wb, wb = w.alloc (.cells #[.int .u64 (s0 : Int), .int .u64 (s1 : Int)] 25) := ⟨_, rfl⟩
  have hB1 : Below w.heap.size w wb := by rw [hwb]; exact (Below.refl _ _).alloc (Nat.le_refl _) _
  have hsz : wb.heap.size = w.heap.size + 1 := by rw [hwb]; simp
  have k0 : wb.cell? ⟨w.heap.size, 0, none⟩ = some (.int .u64 (s0 : Int)) := by rw [hwb, World.cell?_alloc_at _ _ _ _ rfl]; rfl
  have k1 : wb.cell? ⟨w.heap.size, 1, none⟩ = some (.int .u64 (s1 : Int)) := by rw [hwb, World.cell?_alloc_at _ _ _ _ rfl]; rfl
  have HR := Lib.hid ((hr.below hB1).wide (B' := wb.heap.size) (by omega))
  have C0 := Lib.hid (fun w => awake_any w)
  have KW := Lib.hid hwb
  have KS := Lib.hid hsz
  have KB1 := Lib.hid hB1
  have K0 := Lib.hid k0
  have K1 := Lib.hid k1
  by_cases h300 : n ≤ 300
  · obtain ⟨r1, hr1⟩ : ∃ r1, r1 = Wig.pushed true win (s0, s1) ss := ⟨_, rfl⟩
    obtain ⟨r2, hr2⟩ : ∃ r2, r2 = Wig.pushed false win (s0, s1) ss := ⟨_, rfl⟩
    obtain ⟨m1, hm1⟩ : ∃ m1, m1 = r1.length := ⟨_, rfl⟩
    obtain ⟨m2, hm2⟩ : ∃ m2, m2 = r2.length := ⟨_, rfl⟩
    have b1 : m1 ≤ 301 := by have := Wig.pushed_le true win (s0, s1) ss; rw [← hr1] at this; omega
    have b2 : m2 ≤ 301 := by have := Wig.pushed_le false win (s0, s1) ss; rw [← hr2] at this; omega
    have CA := Lib.hid (fun w' h => pushMax_gives win s0 s1 ss r1 n m1 A c w' hn.symm hm1.symm (by omega) hf h hw hs0 hs1 hr1.symm)
    have CB := Lib.hid (fun w' h => rpushMax_gives win s0 s1 ss r1 n m1 A c w' hn.symm hm1.symm (by omega) hf h hw hs0 hs1 hr1.symm)
    have CC := Lib.hid (fun A B c d w' => same_lit r1 r1 m1 m1 A B c d w' rfl hm1.symm hm1.symm (by omega))
    have CD := Lib.hid (fun w' h => pushMin_gives win s0 s1 ss r2 n m2 A c w' hn.symm hm2.symm (by omega) hf h hw hs0 hs1 hr2.symm)
    have CE := Lib.hid (fun w' h => rpushMin_gives win s0 s1 ss r2 n m2 A c w' hn.symm hm2.symm (by omega) hf h hw hs0 hs1 hr2.symm)
    have CF := Lib.hid (fun A B c d w' => same_lit r2 r2 m2 m2 A B c d w' rfl hm2.symm hm2.symm (by omega))
    obtain ⟨b, hb⟩ : ∃ b, b = Wig.best ss := ⟨_, rfl⟩
    have CG := Lib.hid (fun w' h => best_lit ss n b A c w' hn.symm (by omega) hb.symm h)
    have CH := Lib.hid (fun w' h => rbest_lit ss n b A c w' hn.symm (by omega) hb.symm h)
    clear hb hr1 hr2 hm1 hm2 b1 b2 hf hl hw hs0 hs1 hr hn hB1 hsz k0 k1
    go_enter Try.func3, Try.ntmps3
    go_wp2_with fail
    rw [← hwb]
    clear hwb
    refine (C0.out _).mono ?_
    rintro e w1 ⟨rfl, hb1⟩
    have B1 := Lib.hid hb1
    have Q0 := Lib.hid ((hb1.cell (by have := KS.out; simp; omega)).trans K0.out)
    have Q1 := Lib.hid ((hb1.cell (by have := KS.out; simp; omega)).trans K1.out)
    have QR := Lib.hid ((HR.out.below hb1).wide hb1.size)
    have QB := Lib.hid (show w.heap.size < w1.heap.size by have := KS.out; have := hb1.size; omega)
    clear hb1
    go_wp2_with fail
    go_region_held3 (fun w' => w'.cell? ⟨w.heap.size, 0, none⟩ = some (.int .u64 (s0 : Int)) ∧ w'.cell? ⟨w.heap.size, 1, none⟩ = some (.int .u64 (s1 : Int)) ∧ Below w1.heap.size w1 w')
      ((refine box_at QB.out Q0.out Q1.out ?_; first | exact (Below.refl _ _).drew | assumption | exact below_drewN' (by assumption) _))
      (first
        | (go_at_call 10; refine (CA.out _ ?_).mono ?_; (exact rd_step QR.out (held_below (by assumption))); rintro e wa ⟨Aa, ca, rfl, ha, hba, -⟩; have HA := Lib.hid (rd_stays ha); have HBA := Lib.hid hba; have hbn := below_trans' (a := w1) (held_below (by assumption)) hba; clear ha hba)
        | (go_at_call 11; refine (CB.out _ ?_).mono ?_; (exact rd_step QR.out (held_below (by assumption))); rintro e wq ⟨Aq, cq, rfl, hq, hbq, -⟩; have HQ := Lib.hid (rd_stays hq); have HBQ := Lib.hid hbq; have hbm := below_trans' (a := w1) (held_below (by assumption)) hbq; clear hq hbq)
        | (go_at_call 9; refine (CC.out _ _ _ _ _ ?_ ?_).mono ?_; (first | exact HA.out _ (Below.refl _ _) | exact HA.out _ HBQ.out); (first | exact HQ.out _ (Below.refl _ _) | exact HQ.out _ HBA.out); rintro e wz ⟨rfl, kz, rfl⟩))
    obtain ⟨w2, hw2⟩ : ∃ w2, w2 = wq.drewN kz := ⟨_, rfl⟩
    have E2 : Below w1.heap.size w1 w2 := by rw [hw2]; exact below_drewN' hbm _
    rw [← hw2]
    have B2 := Lib.hid E2
    clear hbn hbm hw2 E2
    go_wp2_with fail
    go_region_held3 (fun w' => w'.cell? ⟨w.heap.size, 0, none⟩ = some (.int .u64 (s0 : Int)) ∧ w'.cell? ⟨w.heap.size, 1, none⟩ = some (.int .u64 (s1 : Int)) ∧ Below w1.heap.size w1 w')
      ((refine box_at QB.out Q0.out Q1.out ?_; first | exact B2.out.drew | assumption | exact below_drewN' (by assumption) _))
      (first
        | (go_at_call 12; refine (CD.out _ ?_).mono ?_; (exact rd_step QR.out (held_below (by assumption))); rintro e wa ⟨Aa, ca, rfl, ha, hba, -⟩; have HA := Lib.hid (rd_stays ha); have HBA := Lib.hid hba; have hbn := below_trans' (a := w1) (held_below (by assumption)) hba; clear ha hba)
        | (go_at_call 13; refine (CE.out _ ?_).mono ?_; (exact rd_step QR.out (held_below (by assumption))); rintro e wq ⟨Aq, cq, rfl, hq, hbq, -⟩; have HQ := Lib.hid (rd_stays hq); have HBQ := Lib.hid hbq; have hbm := below_trans' (a := w1) (held_below (by assumption)) hbq; clear hq hbq)
        | (go_at_call 9; refine (CF.out _ _ _ _ _ ?_ ?_).mono ?_; (exact HA.out _ HBQ.out); (exact HQ.out _ (Below.refl _ _)); rintro e wz ⟨rfl, kz2, rfl⟩))
    obtain ⟨w3, hw3⟩ : ∃ w3, w3 = wq.drewN kz2 := ⟨_, rfl⟩
    have E3 : Below w1.heap.size w1 w3 := by rw [hw3]; exact below_drewN' hbm _
    rw [← hw3]
    have B3 := Lib.hid E3
    have QR3 := Lib.hid (rd_step QR.out E3)
    clear hbn hbm hw3 E3
    go_wp2_with fail
    refine (CG.out _ QR3.out).mono ?_
    rintro e wx ⟨rfl, rfl⟩
    go_wp2_with fail
    refine (CH.out _ QR3.out).mono ?_
    rintro e wx ⟨rfl, rfl⟩
    go_wp2_with fail
    go_ret
    refine ⟨rfl, KB1.out.trans (Below.mono (below_trans' B1.out B3.out) (by have := KS.out; omega))⟩
  · have h300' : decide ((300 : Int) < (n : Int)) = true := decide_eq_true (by omega)
    clear hf hl hw hs0 hs1 hr hn hB1 hsz k0 k1 h300
    go_enter Try.func3, Try.ntmps3
    go_wp2_with fail
    rw [← hwb]
    clear hwb
    refine (C0.out _).mono ?_
    rintro e w1 ⟨rfl, hb1⟩
    have B1 := Lib.hid hb1
    clear hb1
    go_wp2_with fail
    go_ret
    refine ⟨rfl, KB1.out.trans (B1.out.mono (by have := KS.out; omega))⟩

set_option maxRecDepth 100000 in
theorem lifted (os : Os) (started : os.Started) (H : Type) (enc : TypeId × Value → H) :
    ReturnsInHanded {} Try.checked os 3 .any (Rows.filtPushesSpec.pre6 enc Try.prog Try.f3 Rows.filtPushesRow.domain false) (Rows.filtPushesSpec.post enc Try.prog Try.f3 false true false false) := by
  refine returnsInHanded_of_change (C := Try.checked) own started (by kernel_rfl) Try.func3
    (ChangeSpec.witness6 (enc := enc) (C := Try.checked) false ⟨#[], #[.slice none 0 0, .int .u64 0, .agg #[.int .u64 0, .int .u64 0]], []⟩ 8 (by kernel_rfl) (by kernel_rfl) (by kernel_rfl) (by kernel_rfl)) ?_
  intro W base args ds gs before hval0 hW hcnd _
  have hval : ∀ (j : Nat) t v, Try.f3.params[j]? = some t → args[j]? = some v → Value.okWide Try.prog W .any base t v := hval0
  have hW' := hW
  obtain ⟨p, q, hA0, hV, rfl, hfz, hnd⟩ := hW
  have hA : DataW.TrodAll enc Try.prog W 0 (fun _ => true) true Try.f3.params.toList args.toList ds p := hA0
  obtain ⟨rfl, rfl⟩ := trodVars_none hV
  simp only [List.append_nil] at hW'
  have hlow : ∀ x ∈ p, x.block < W.heap.size := fun x hx => hW'.lt x hx
  have hA2 := hA
  rw [Try.params3] at hval hA2
  obtain ⟨v0, vs0, d0, ds0, p0, q0, hargs, rfl, rfl, h0, r0⟩ := trodAll_cons hA2
  obtain ⟨v1, vs1, d1, ds1, p1, q1, rfl, rfl, rfl, h1, r1⟩ := trodAll_cons r0
  obtain ⟨v2, vs2, d2, ds2, p2, q2, rfl, rfl, rfl, h2, r2⟩ := trodAll_cons r1
  obtain ⟨rfl, rfl, rfl⟩ := trodAll_nil r2
  obtain rfl : args = #[v0, v1, v2] := by cases args; simp_all
  obtain ⟨A0, c0, ss0, rfl, hf0, hr0, hl0⟩ := open_samples Try.underlying22 Try.underlying25 (by kernel_rfl) (by kernel_rfl) rfl rfl Try.underlying23 (hval 0 22 v0 rfl rfl) h0 (fun x hx => hlow x (by simp [hx]))
  obtain ⟨n1, rfl, hn1⟩ := open_u64 Try.underlying23 (hval 1 23 v1 rfl rfl) h1
  obtain ⟨a2, b2, rfl, ha2, hb2⟩ := open_two Try.underlying25 (by kernel_rfl) (by kernel_rfl) rfl rfl Try.underlying23 (hval 2 25 v2 rfl rfl) h2
  refine (walk A0 c0 ss0 n1 a2 b2 hf0 hl0 hn1 ha2 hb2 W hr0).mono fun e W' ⟨he, hg⟩ => ?_
  subst he
  exact ⟨_, rfl, law_true laid_out (by kernel_rfl) rfl Try.underlying4 (by kernel_rfl) hW' hA rfl rfl rfl hg⟩

theorem over : Rows.filtPushesRow.holds Try.pinned (OpenSpec.ofChange Rows.filtPushesSpec) :=
  OpenClaim.holds_of_wide 3 Try.f3 rfl rfl rfl rfl rfl rfl rfl ⟨rfl, rfl, rfl, rfl, rfl⟩ rfl rfl rfl rfl rfl (by kernel_rfl) Try.func3 (by kernel_rfl)
    (of_decide_eq_true (by kernel_rfl)) (by unfold Func.isWrapper; first | (rw [if_pos (by decide +kernel)]; kernel_rfl) | (rw [if_neg (by decide +kernel)]; exact ⟨rfl, rfl⟩))
    (fun os started H enc _ => lifted os started H enc)

/-- The statement. -/
theorem proved : Rows.FiltPushesSaid := over
end Go.Proofs.Ytmfldjdkmfpdkaa.filtPushes
