/-
  FiltMirror: the least values' list is the greatest ones', with all values turned about, whatever the list of at most three hundred samples. No condition.
-/
import Derived.Test.YtmfldjdkmfpdkaaFiltM
import Derived.Test.YtmfldjdkmfpdkaaOpen
namespace Wig
theorem stays_turned {win : Nat} {s p : Smp} (hs : s.2 < 18446744073709551616) (hp : p.2 < 18446744073709551616) : stays true win (turned s) (turned p) = stays false win s p := by
  have h : better true (turned p).2 (turned s).2 = better false p.2 s.2 := by
    show better true (18446744073709551615 - p.2) (18446744073709551615 - s.2) = better false p.2 s.2
    simp only [better, if_true, Bool.false_eq_true, if_false]
    exact decide_eq_decide.2 (by omega)
  unfold stays
  rw [h]
  rfl
theorem kept_turned {win : Nat} {s : Smp} {ss : List Smp} (hs : s.2 < 18446744073709551616) (hf : Fits ss) : kept true win (turned s) (ss.map turned) = (kept false win s ss).map turned := by
  unfold kept
  rw [List.filter_map]
  congr 1
  exact List.filter_congr (fun p hp => stays_turned hs (hf p hp).2)
theorem map_twice {ss : List Smp} (hf : Fits ss) : (ss.map turned).map turned = ss := by
  rw [List.map_map]
  conv => rhs; rw [← List.map_id ss]
  exact List.map_congr_left (fun p hp => turned_twice (hf p hp).2)
theorem mirror_pushed {win : Nat} {s : Smp} {ss : List Smp} (hs : s.1 < 18446744073709551616 ∧ s.2 < 18446744073709551616) (hf : Fits ss) : (pushed true win (turned s) (ss.map turned)).map turned = pushed false win s ss := by
  unfold pushed
  rw [kept_turned hs.2 hf, List.map_append, map_twice (kept_fits hf), List.map_singleton, turned_twice hs.2]
end Wig
namespace Go.Proofs.Ytmfldjdkmfpdkaa.filtMirror
open Go.ChangeShapes Go.WideShapes Go.ChangeAt Go.RowKit Go.Deep
set_option linter.unusedVariables false
attribute [local go_sem ↓] Go.wp_at_zero Go.wp_at_succ

theorem box_at {w1 w' : World} {b : Nat} {s0 s1 : Nat} (hb : b < w1.heap.size) (k0 : w1.cell? ⟨b, 0, none⟩ = some (.int .u64 (s0 : Int))) (k1 : w1.cell? ⟨b, 1, none⟩ = some (.int .u64 (s1 : Int)))
    (h : Below w1.heap.size w1 w') : w'.cell? ⟨b, 0, none⟩ = some (.int .u64 (s0 : Int)) ∧ w'.cell? ⟨b, 1, none⟩ = some (.int .u64 (s1 : Int)) ∧ Below w1.heap.size w1 w' :=
  ⟨(h.cell hb).trans k0, (h.cell hb).trans k1, h⟩
theorem held_below {X Y : Prop} {B : Nat} {w1 w' : World} (h : X ∧ Y ∧ Below B w1 w') : Below B w1 w' := h.2.2
theorem rd_step {w1 w' : World} {A : Option Addr} {ss : List Wig.Smp} (h : Rd w1 w1.heap.size A ss) (hb : Below w1.heap.size w1 w') : Rd w' w'.heap.size A ss := (h.below hb).wide hb.size

set_option maxHeartbeats 2000000 in
theorem walk (A : Option Addr) (c : Nat) (ss : List Wig.Smp) (win s0 s1 : Nat) (hf : Wig.Fits ss) (hl : ss.length ≤ maxLen) (hw : win < 18446744073709551616) (hs0 : s0 < 18446744073709551616) (hs1 : s1 < 18446744073709551616)
    (w : World) (hr : Rd w w.heap.size A ss) :
    Calls Try.prog 7 #[.slice A ss.length c, .int .u64 (win : Int), .agg #[.int .u64 (s0 : Int), .int .u64 (s1 : Int)]] w fun e w' => e = .returned (.bool true) ∧ Below w.heap.size w w' := by
  obtain ⟨n, hn⟩ : ∃ n, n = ss.length := ⟨_, rfl⟩
  rw [← hn] at hl ⊢
  obtain ⟨wb, hwb⟩ : ∃ wb, wb = w.alloc (.cells #[.int .u64 (s0 : Int), .int .u64 (s1 : Int)] 25) := ⟨_, rfl⟩
  have hB1 : Below w.heap.size w wb := by rw [hwb]; exact (Below.refl _ _).alloc (Nat.le_refl _) _
  have hsz : wb.heap.size = w.heap.size + 1 := by rw [hwb]; simp
  have k0 : wb.cell? ⟨w.heap.size, 0, none⟩ = some (.int .u64 (s0 : Int)) := by rw [hwb, World.cell?_alloc_at _ _ _ _ rfl]; rfl
  have k1 : wb.cell? ⟨w.heap.size, 1, none⟩ = some (.int .u64 (s1 : Int)) := by rw [hwb, World.cell?_alloc_at _ _ _ _ rfl]; rfl
  have HR := Lib.hid ((hr.below hB1).wide (B' := wb.heap.size) (by omega))
  have C0 := Lib.hid (fun w => awake_any w)
  have KS := Lib.hid hsz
  have KB1 := Lib.hid hB1
  have K0 := Lib.hid k0
  have K1 := Lib.hid k1
  by_cases h300 : n ≤ 300
  · obtain ⟨r2, hr2⟩ : ∃ r2, r2 = Wig.pushed false win (s0, s1) ss := ⟨_, rfl⟩
    obtain ⟨t1, ht1⟩ : ∃ t1, t1 = 18446744073709551615 - s1 := ⟨_, rfl⟩
    obtain ⟨mm, hmm⟩ : ∃ mm, mm = ss.map Wig.turned := ⟨_, rfl⟩
    obtain ⟨r1, hr1⟩ : ∃ r1, r1 = Wig.pushed true win (s0, t1) mm := ⟨_, rfl⟩
    obtain ⟨m1, hm1⟩ : ∃ m1, m1 = r1.length := ⟨_, rfl⟩
    obtain ⟨m2, hm2⟩ : ∃ m2, m2 = r2.length := ⟨_, rfl⟩
    have lm : mm.length = n := by rw [hmm, List.length_map, hn]
    have hturn : Wig.turned (s0, s1) = (s0, t1) := by simp only [Wig.turned, ht1]
    have hrr : r1.map Wig.turned = r2 := by rw [hr1, hr2, hmm, ← hturn]; exact Wig.mirror_pushed ⟨hs0, hs1⟩ hf
    have bt : t1 < 18446744073709551616 := by omega
    have fm : Wig.Fits mm := by rw [hmm]; exact Wig.turned_fits hf
    have f1 : Wig.Fits r1 := by rw [hr1]; exact Wig.pushed_fits fm ⟨hs0, bt⟩
    have b1 : m1 ≤ 301 := by have := Wig.pushed_le true win (s0, t1) mm; rw [← hr1] at this; omega
    have b2 : m2 ≤ 301 := by have := Wig.pushed_le false win (s0, s1) ss; rw [← hr2] at this; omega
    have e12 : m1 = m2 := by rw [hm1, hm2, ← hrr, List.length_map]
    have hx : bits .xor .u64 18446744073709551615 (s1 : Int) = (t1 : Int) := by rw [u64_not s1 hs1, ht1]
    have hx2 : bits .xor .u64 (if IntKind.u64.signed = true then -1 else IntKind.u64.max) (s1 : Int) = (t1 : Int) := hx
    have CB := Lib.hid (fun w' h => pushMin_gives win s0 s1 ss r2 n m2 A c w' hn.symm hm2.symm (by omega) hf h hw hs0 hs1 hr2.symm)
    have CM := Lib.hid (fun w' h => gives (F := 17) (args := #[.slice A n c]) hmm.symm lm (by rw [hn]; exact mirrored_any ss A c w' (by omega) hf h))
    have CA := Lib.hid (fun A c w' h => pushMax_gives win s0 t1 mm r1 n m1 A c w' lm hm1.symm (by omega) fm h hw hs0 bt hr1.symm)
    have CN := Lib.hid (fun A c w' h => gives (w := w') (F := 17) (args := #[.slice A m1 c]) hrr hm2.symm (by rw [hm1]; exact mirrored_any r1 A c w' (by omega) f1 h))
    have CF := Lib.hid (fun A B c d w' => same_lit r2 r2 m2 m2 A B c d w' rfl hm2.symm hm2.symm (by omega))
    clear hx hr1 hr2 hm1 hm2 b1 b2 f1 fm ht1 hmm lm hturn hrr bt e12 hf hl hw hs0 hs1 hr hn hB1 hsz k0 k1
    go_enter Try.func7, Try.ntmps7
    go_wp2_with fail
    rw [← hwb]
    clear hwb
    refine (C0.out _).mono ?_
    rintro e w1 ⟨rfl, hb1⟩
    have BB := Lib.hid hb1
    have q0 := (hb1.cell (p := ⟨w.heap.size, 0, none⟩) (by have := KS.out; simp; omega)).trans K0.out
    have q1 := (hb1.cell (p := ⟨w.heap.size, 1, none⟩) (by have := KS.out; simp; omega)).trans K1.out
    have QB := Lib.hid (show w.heap.size < w1.heap.size by have := KS.out; have := hb1.size; omega)
    have RL1 := Lib.hid ((HR.out.below hb1).wide hb1.size)
    clear hb1
    go_wp2_with fail
    refine (CB.out _ RL1.out).mono ?_
    rintro e w2 ⟨Ab, cb, rfl, hx, hbx, -⟩
    have RL2 := Lib.hid (rd_step RL1.out hbx)
    have RB2 := Lib.hid hx
    clear hx
    replace q0 := (hbx.cell (p := ⟨w.heap.size, 0, none⟩) QB.out).trans q0
    replace q1 := (hbx.cell (p := ⟨w.heap.size, 1, none⟩) QB.out).trans q1
    replace QB := Lib.hid (Nat.lt_of_lt_of_le QB.out hbx.size)
    replace BB := Lib.hid (below_trans' BB.out hbx)
    have Q0 := Lib.hid q0
    have Q1 := Lib.hid q1
    clear hbx q0 q1
    go_wp2_with fail
    go_region_held3 (fun w' => w'.cell? ⟨w.heap.size, 0, none⟩ = some (.int .u64 (s0 : Int)) ∧ w'.cell? ⟨w.heap.size, 1, none⟩ = some (.int .u64 (s1 : Int)) ∧ Below w2.heap.size w2 w')
      ((refine box_at QB.out Q0.out Q1.out ?_; first | exact (Below.refl _ _).drew | assumption | exact below_drewN' (by assumption) _))
      (first
        | (go_at_call 17; refine (CM.out _ ?_).mono ?_; (exact rd_step RL2.out (held_below (by assumption))); rintro e wa ⟨Aa, ca, rfl, ha, hba, -⟩; have HA := Lib.hid ha; have hbn := below_trans' (a := w2) (held_below (by assumption)) hba; clear ha hba)
        | (go_at_call 10; go_loud (refine (CA.out _ _ _ ?_).mono ?_); (exact HA.out); rintro e wq ⟨Aq, cq, rfl, hq, hbq, -⟩; have HQ := Lib.hid hq; have hbm := below_trans' (a := w2) (held_below (by assumption)) hbq; clear hq hbq))
    have RB3 := Lib.hid (rd_step RB2.out hbm)
    replace BB := Lib.hid (below_trans' BB.out hbm)
    clear hbn hbm
    go_wp2_with fail
    refine (CN.out _ _ _ HQ.out).mono ?_
    rintro e w4 ⟨Ad, cd, rfl, hx, hbx, -⟩
    have RD4 := Lib.hid hx
    have RB4 := Lib.hid (rd_step RB3.out hbx)
    replace BB := Lib.hid (below_trans' BB.out hbx)
    clear hx hbx
    go_wp2_with fail
    refine (CF.out _ _ _ _ _ RD4.out RB4.out).mono ?_
    rintro e wz ⟨rfl, kk, rfl⟩
    replace BB := Lib.hid (below_drewN' BB.out kk)
    go_wp2_with fail
    go_ret
    exact ⟨rfl, KB1.out.trans (BB.out.mono (by have := KS.out; omega))⟩
  · have h300' : decide ((300 : Int) < (n : Int)) = true := decide_eq_true (by omega)
    clear hf hl hw hs0 hs1 hr hn hB1 hsz k0 k1 h300
    go_enter Try.func7, Try.ntmps7
    go_wp2_with fail
    rw [← hwb]
    clear hwb
    refine (C0.out _).mono ?_
    rintro e w1 ⟨rfl, hb1⟩
    have B1 := Lib.hid hb1
    clear hb1
    go_wp2_with fail
    go_ret
    refine ⟨rfl, KB1.out.trans (B1.out.mono (by have := KS.out; omega))⟩

set_option maxRecDepth 100000 in
theorem lifted (os : Os) (started : os.Started) (H : Type) (enc : TypeId × Value → H) :
    ReturnsInHanded {} Try.checked os 7 .any (Rows.filtMirrorSpec.pre6 enc Try.prog Try.f7 Rows.filtMirrorRow.domain false) (Rows.filtMirrorSpec.post enc Try.prog Try.f7 false true false false) := by
  refine returnsInHanded_of_change (C := Try.checked) own started (by kernel_rfl) Try.func7
    (ChangeSpec.witness6 (enc := enc) (C := Try.checked) false ⟨#[], #[.slice none 0 0, .int .u64 0, .agg #[.int .u64 0, .int .u64 0]], []⟩ 8 (by kernel_rfl) (by kernel_rfl) (by kernel_rfl) (by kernel_rfl)) ?_
  intro W base args ds gs before hval0 hW hcnd _
  have hval : ∀ (j : Nat) t v, Try.f7.params[j]? = some t → args[j]? = some v → Value.okWide Try.prog W .any base t v := hval0
  have hW' := hW
  obtain ⟨p, q, hA0, hV, rfl, hfz, hnd⟩ := hW
  have hA : DataW.TrodAll enc Try.prog W 0 (fun _ => true) true Try.f7.params.toList args.toList ds p := hA0
  obtain ⟨rfl, rfl⟩ := trodVars_none hV
  simp only [List.append_nil] at hW'
  have hlow : ∀ x ∈ p, x.block < W.heap.size := fun x hx => hW'.lt x hx
  have hA2 := hA
  rw [Try.params7] at hval hA2
  obtain ⟨v0, vs0, d0, ds0, p0, q0, hargs, rfl, rfl, h0, r0⟩ := trodAll_cons hA2
  obtain ⟨v1, vs1, d1, ds1, p1, q1, rfl, rfl, rfl, h1, r1⟩ := trodAll_cons r0
  obtain ⟨v2, vs2, d2, ds2, p2, q2, rfl, rfl, rfl, h2, r2⟩ := trodAll_cons r1
  obtain ⟨rfl, rfl, rfl⟩ := trodAll_nil r2
  obtain rfl : args = #[v0, v1, v2] := by cases args; simp_all
  obtain ⟨A0, c0, ss0, rfl, hf0, hr0, hl0⟩ := open_samples Try.underlying22 Try.underlying25 (by kernel_rfl) (by kernel_rfl) rfl rfl Try.underlying23 (hval 0 22 v0 rfl rfl) h0 (fun x hx => hlow x (by simp [hx]))
  obtain ⟨n1, rfl, hn1⟩ := open_u64 Try.underlying23 (hval 1 23 v1 rfl rfl) h1
  obtain ⟨a2, b2, rfl, ha2, hb2⟩ := open_two Try.underlying25 (by kernel_rfl) (by kernel_rfl) rfl rfl Try.underlying23 (hval 2 25 v2 rfl rfl) h2
  refine (walk A0 c0 ss0 n1 a2 b2 hf0 hl0 hn1 ha2 hb2 W hr0).mono fun e W' ⟨he, hg⟩ => ?_
  subst he
  exact ⟨_, rfl, law_true laid_out (by kernel_rfl) rfl Try.underlying4 (by kernel_rfl) hW' hA rfl rfl rfl hg⟩

theorem over : Rows.filtMirrorRow.holds Try.pinned (OpenSpec.ofChange Rows.filtMirrorSpec) :=
  OpenClaim.holds_of_wide 7 Try.f7 rfl rfl rfl rfl rfl rfl rfl ⟨rfl, rfl, rfl, rfl, rfl⟩ rfl rfl rfl rfl rfl (by kernel_rfl) Try.func7 (by kernel_rfl)
    (of_decide_eq_true (by kernel_rfl)) (by unfold Func.isWrapper; first | (rw [if_pos (by decide +kernel)]; kernel_rfl) | (rw [if_neg (by decide +kernel)]; exact ⟨rfl, rfl⟩))
    (fun os started H enc _ => lifted os started H enc)

/-- The statement. -/
theorem proved : Rows.FiltMirrorSaid := over
end Go.Proofs.Ytmfldjdkmfpdkaa.filtMirror
