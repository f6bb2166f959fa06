/-
  LedgerNext: ahead of the time that is told no packet more is lost, and behind it one is. No condition.
-/
import Derived.Test.YthdhcppgpnnccaaLedW
namespace Go.Proofs.Ythdhcppgpnnccaa.ledgerNext
open Go.ChangeShapes Go.WideShapes Go.ChangeAt Go.RowKit Go.Deep
set_option linter.unusedVariables false

set_option maxRecDepth 20000 in
set_option maxHeartbeats 8000000 in
theorem walk (A : Option Addr) (c : Nat) (ss : List Wig.Snt) (next now late : Nat) (hf : Wig.TFits ss) (hl : ss.length ≤ maxLen) (hc : ss.length ≤ c) (hnext : next < 18446744073709551616) (hnow : now < 18446744073709551616) (hlate : late < 18446744073709551616) (w : World) (hr : RdT w w.heap.size A ss) :
    Calls Try.prog 6 #[.slice A ss.length c, .int .u64 (next : Int), .int .u64 (now : Int), .int .u64 (late : Int)] w fun e w' => e = .returned (.bool true) ∧ Below w.heap.size w w' := by
  obtain ⟨n, hn⟩ : ∃ n, n = ss.length := ⟨_, rfl⟩
  rw [← hn] at hl hc ⊢
  have RA := Lib.hid hr
  have B0 := Lib.hid (Below.refl w.heap.size w)
  have C0 := Lib.hid (fun w => awake_any w)
  clear hr hl hc
  by_cases h1 : n ≤ 50
  · skip
    have CF := Lib.hid (fun A c w => few_any A n c true w (decide_eq_true h1))
    obtain ⟨us, hus⟩ : ∃ us, ss.filter (Wig.tlost next now late) = us := ⟨_, rfl⟩
    obtain ⟨vs, hvs⟩ : ∃ vs, (ss.filter fun x => !Wig.tlost next now late x) = vs := ⟨_, rfl⟩
    obtain ⟨p, hp⟩ : ∃ p, us.length = p := ⟨_, rfl⟩
    obtain ⟨q, hq'⟩ : ∃ q, vs.length = q := ⟨_, rfl⟩
    obtain ⟨t, ht⟩ : ∃ t, Wig.twhen next now late ss = t := ⟨_, rfl⟩
    have lp : p ≤ 50 := by rw [← hp, ← hus]; exact Nat.le_trans (List.length_filter_le _ _) (by omega)
    have lq : q ≤ 50 := by rw [← hq', ← hvs]; exact Nat.le_trans (List.length_filter_le _ _) (by omega)
    have C1 := Lib.hid (fun A c w h => lost_gives ss us vs next now late t A n c p q w hn (by omega) hf hlate h hus hvs hp hq' ht)
    by_cases h0 : t = 0
    · skip
      obtain ⟨us2, hus2⟩ : ∃ us, ss.filter (Wig.tlost next 18446744073709551615 late) = us := ⟨_, rfl⟩
      obtain ⟨vs2, hvs2⟩ : ∃ vs, (ss.filter fun x => !Wig.tlost next 18446744073709551615 late x) = vs := ⟨_, rfl⟩
      obtain ⟨q2, hq2⟩ : ∃ q, vs2.length = q := ⟨_, rfl⟩
      obtain ⟨t2, ht2⟩ : ∃ t, Wig.twhen next 18446744073709551615 late ss = t := ⟨_, rfl⟩
      have hp2 : us2.length = p := by rw [← hus2, ← hp, ← hus]; exact Wig.next_none (by rw [ht]; exact h0)
      have C2 := Lib.hid (fun A c w h => show Calls Try.prog 19 #[.slice A n c, .int .u64 (next : Int), .int .u64 18446744073709551615, .int .u64 (late : Int)] w (Parts3 w us2 vs2 p q2 (t2 : Int)) from lost_gives ss us2 vs2 next 18446744073709551615 late t2 A n c p q2 w hn (by omega) hf hlate h hus2 hvs2 hp2 hq2 ht2)
      have te : ((p : Int) == (p : Int)) = true := by simp
      subst h0
      clear hn hf h1 hus hvs hp hq' ht lp lq hus2 hvs2 hq2 ht2 hp2 hnext hnow hlate
      go_enter Try.func6, Try.ntmps6
      go_wp2_with fail
      refine (C0.out _).mono ?_
      rintro e x86 ⟨rfl, hb⟩
      have RA_87 := Lib.hid (RA.out.step hb)
      have B_87 := Lib.hid (B0.out.trans (hb.mono B0.out.size))
      clear hb RA B0
      go_wp2_with fail
      refine (CF.out _ _ _).mono ?_
      rintro e _ ⟨rfl, rfl⟩
      go_wp2_with fail
      refine (C1.out _ _ _ RA_87.out).mono ?_
      rintro e x89 ⟨AX1, cX1, AY1, cY1, rfl, hra, hrb, hb⟩
      have RA_90 := Lib.hid (RA_87.out.step hb)
      have B_90 := Lib.hid (B_87.out.trans (hb.mono B_87.out.size))
      have RX1 := Lib.hid hra
      have RY1 := Lib.hid hrb
      clear hb hra hrb RA_87 B_87
      go_wp2_with fail
      refine (C2.out _ _ _ RA_90.out).mono ?_
      rintro e x91 ⟨AX2, cX2, AY2, cY2, rfl, hra, hrb, hb⟩
      have RA_92 := Lib.hid (RA_90.out.step hb)
      have X1_92 := Lib.hid (RX1.out.step hb)
      have Y1_92 := Lib.hid (RY1.out.step hb)
      have B_92 := Lib.hid (B_90.out.trans (hb.mono B_90.out.size))
      have RX2 := Lib.hid hra
      have RY2 := Lib.hid hrb
      clear hb hra hrb RA_90 RX1 RY1 B_90
      go_wp2_with fail
      go_ret
      exact ⟨rfl, B_92.out⟩
    · skip
      obtain ⟨hlt, hno, hyes⟩ := Wig.next_some ht h0
      rw [hvs] at hno hyes
      obtain ⟨t1, ht1⟩ : ∃ t1, t1 = t - 1 := ⟨_, rfl⟩
      rw [← ht1] at hno
      have tl : t < 18446744073709551616 := by rw [← ht]; exact Wig.twhen_lt _ _ _ _
      have e1 : IntKind.u64.wrap ((t : Int) - 1) = (t1 : Int) := by rw [IntKind.wrap_u64]; omega
      have e1' : (t : Int) - 1 = (t1 : Int) := by omega
      have e1'' : IntKind.u64.wrap (t1 : Int) = (t1 : Int) := by rw [IntKind.wrap_u64]; omega
      obtain ⟨vs2, hvs2⟩ : ∃ z, (vs.filter fun x => !Wig.tlost next t1 late x) = z := ⟨_, rfl⟩
      obtain ⟨q2, hq2⟩ : ∃ q, vs2.length = q := ⟨_, rfl⟩
      obtain ⟨t2, ht2⟩ : ∃ z, Wig.twhen next t1 late vs = z := ⟨_, rfl⟩
      obtain ⟨us3, hus3⟩ : ∃ z, vs.filter (Wig.tlost next t late) = z := ⟨_, rfl⟩
      obtain ⟨vs3, hvs3⟩ : ∃ z, (vs.filter fun x => !Wig.tlost next t late x) = z := ⟨_, rfl⟩
      obtain ⟨p3, hp3⟩ : ∃ z, us3.length = z := ⟨_, rfl⟩
      obtain ⟨q3, hq3⟩ : ∃ z, vs3.length = z := ⟨_, rfl⟩
      obtain ⟨t3, ht3⟩ : ∃ z, Wig.twhen next t late vs = z := ⟨_, rfl⟩
      have hp3' : 0 < p3 := by rw [← hp3, ← hus3]; exact List.length_pos_iff.2 hyes
      have fv : Wig.TFits vs := by rw [← hvs]; exact hf.filter _
      have C2 := Lib.hid (fun A c w h => lost_gives vs [] vs2 next t1 late t2 A q c 0 q2 w hq'.symm (by omega) fv hlate h hno hvs2 rfl hq2 ht2)
      have C3 := Lib.hid (fun A c w h => lost_gives vs us3 vs3 next t late t3 A q c p3 q3 w hq'.symm (by omega) fv hlate h hus3 hvs3 hp3 hq3 ht3)
      have d0 : ((t : Int) == 0) = false := by simp; omega
      have g1 : decide (now < t) = true := decide_eq_true hlt
      have g2 : decide ((0 : Int) < (p3 : Int)) = true := decide_eq_true (by omega)
      have g2' : decide (0 < p3) = true := decide_eq_true hp3'
      clear hn hf h1 hus hvs hp hq' ht lp lq hlt hno hyes ht1 tl hvs2 hq2 ht2 hus3 hvs3 hp3 hq3 ht3 hp3' fv hnext hnow hlate h0
      go_enter Try.func6, Try.ntmps6
      go_wp2_with fail
      refine (C0.out _).mono ?_
      rintro e x93 ⟨rfl, hb⟩
      have RA_94 := Lib.hid (RA.out.step hb)
      have B_94 := Lib.hid (B0.out.trans (hb.mono B0.out.size))
      clear hb RA B0
      go_wp2_with fail
      refine (CF.out _ _ _).mono ?_
      rintro e _ ⟨rfl, rfl⟩
      go_wp2_with fail
      refine (C1.out _ _ _ RA_94.out).mono ?_
      rintro e x96 ⟨AX1, cX1, AY1, cY1, rfl, hra, hrb, hb⟩
      have RA_97 := Lib.hid (RA_94.out.step hb)
      have B_97 := Lib.hid (B_94.out.trans (hb.mono B_94.out.size))
      have RX1 := Lib.hid hra
      have RY1 := Lib.hid hrb
      clear hb hra hrb RA_94 B_94
      go_wp2_with fail
      refine (C2.out _ _ _ RY1.out).mono ?_
      rintro e x98 ⟨AX2, cX2, AY2, cY2, rfl, hra, hrb, hb⟩
      have RA_99 := Lib.hid (RA_97.out.step hb)
      have X1_99 := Lib.hid (RX1.out.step hb)
      have Y1_99 := Lib.hid (RY1.out.step hb)
      have B_99 := Lib.hid (B_97.out.trans (hb.mono B_97.out.size))
      have RX2 := Lib.hid hra
      have RY2 := Lib.hid hrb
      clear hb hra hrb RA_97 RX1 RY1 B_97
      go_wp2_with fail
      refine (C3.out _ _ _ Y1_99.out).mono ?_
      rintro e x100 ⟨AX3, cX3, AY3, cY3, rfl, hra, hrb, hb⟩
      have RA_101 := Lib.hid (RA_99.out.step hb)
      have X1_101 := Lib.hid (X1_99.out.step hb)
      have Y1_101 := Lib.hid (Y1_99.out.step hb)
      have X2_101 := Lib.hid (RX2.out.step hb)
      have Y2_101 := Lib.hid (RY2.out.step hb)
      have B_101 := Lib.hid (B_99.out.trans (hb.mono B_99.out.size))
      have RX3 := Lib.hid hra
      have RY3 := Lib.hid hrb
      clear hb hra hrb RA_99 X1_99 Y1_99 RX2 RY2 B_99
      go_wp2_with fail
      go_ret
      exact ⟨rfl, B_101.out⟩
  · skip
    have CF := Lib.hid (fun A c w => few_any A n c false w (decide_eq_false h1))
    clear hn hf h1 hnext hnow hlate
    go_enter Try.func6, Try.ntmps6
    go_wp2_with fail
    refine (C0.out _).mono ?_
    rintro e x102 ⟨rfl, hb⟩
    have RA_103 := Lib.hid (RA.out.step hb)
    have B_103 := Lib.hid (B0.out.trans (hb.mono B0.out.size))
    clear hb RA B0
    go_wp2_with fail
    refine (CF.out _ _ _).mono ?_
    rintro e _ ⟨rfl, rfl⟩
    go_wp2_with fail
    go_ret
    exact ⟨rfl, B_103.out⟩

set_option maxRecDepth 100000 in
theorem lifted (os : Os) (started : os.Started) (H : Type) (enc : TypeId × Value → H) :
    ReturnsInHanded {} Try.checked os 6 .any (Rows.ledgerNextSpec.pre6 enc Try.prog Try.f6 Rows.ledgerNextRow.domain false) (Rows.ledgerNextSpec.post enc Try.prog Try.f6 false true false false) := by
  refine returnsInHanded_of_change (C := Try.checked) own started (by kernel_rfl) Try.func6
    (ChangeSpec.witness6 (enc := enc) (C := Try.checked) false ⟨#[], #[.slice none 0 0, .int .u64 0, .int .u64 0, .int .u64 0], []⟩ 8 (by kernel_rfl) (by kernel_rfl) (by kernel_rfl) (by kernel_rfl)) ?_
  intro W base args ds gs before hval0 hW hcnd _
  have hval : ∀ (j : Nat) t v, Try.f6.params[j]? = some t → args[j]? = some v → Value.okWide Try.prog W .any base t v := hval0
  have hW' := hW
  obtain ⟨p, q, hA0, hV, rfl, hfz, hnd⟩ := hW
  have hA : DataW.TrodAll enc Try.prog W 0 (fun _ => true) true Try.f6.params.toList args.toList ds p := hA0
  obtain ⟨rfl, rfl⟩ := trodVars_none hV
  simp only [List.append_nil] at hW'
  have hlow : ∀ x ∈ p, x.block < W.heap.size := fun x hx => hW'.lt x hx
  have hA2 := hA
  rw [Try.params6] at hval hA2
  obtain ⟨v0, vs0, d0, ds0, p0, q0, hargs, rfl, rfl, h0, r0⟩ := trodAll_cons hA2
  obtain ⟨v1, vs1, d1, ds1, p1, q1, rfl, rfl, rfl, h1, r1⟩ := trodAll_cons r0
  obtain ⟨v2, vs2, d2, ds2, p2, q2, rfl, rfl, rfl, h2, r2⟩ := trodAll_cons r1
  obtain ⟨v3, vs3, d3, ds3, p3, q3, rfl, rfl, rfl, h3, r3⟩ := trodAll_cons r2
  obtain ⟨rfl, rfl, rfl⟩ := trodAll_nil r3
  obtain rfl : args = #[v0, v1, v2, v3] := by cases args; simp_all
  obtain ⟨A0, c0, ss0, rfl, hf0, hr0, hl0, hc0⟩ := open_sents Try.underlying22 Try.underlying37 (by kernel_rfl) (by kernel_rfl) rfl rfl rfl rfl Try.underlying29 Try.underlying4 (hval 0 22 v0 rfl rfl) h0 (fun x hx => hlow x (by simp [hx]))
  obtain ⟨n1, rfl, hn1⟩ := open_u64 Try.underlying29 (hval 1 29 v1 rfl rfl) h1
  obtain ⟨n2, rfl, hn2⟩ := open_u64 Try.underlying29 (hval 2 29 v2 rfl rfl) h2
  obtain ⟨n3, rfl, hn3⟩ := open_u64 Try.underlying29 (hval 3 29 v3 rfl rfl) h3
  refine (walk A0 c0 ss0 n1 n2 n3 hf0 hl0 hc0 hn1 hn2 hn3 W hr0).mono fun e W' ⟨he, hg⟩ => ?_
  subst he
  exact ⟨_, rfl, law_true laid_out (by kernel_rfl) rfl Try.underlying4 (by kernel_rfl) hW' hA rfl rfl rfl hg⟩

theorem over : Rows.ledgerNextRow.holds Try.pinned (OpenSpec.ofChange Rows.ledgerNextSpec) :=
  OpenClaim.holds_of_wide 6 Try.f6 rfl rfl rfl rfl rfl rfl rfl ⟨rfl, rfl, rfl, rfl, rfl⟩ rfl rfl rfl rfl rfl (by kernel_rfl) Try.func6 (by kernel_rfl)
    (of_decide_eq_true (by kernel_rfl)) (by unfold Func.isWrapper; first | (rw [if_pos (by decide +kernel)]; kernel_rfl) | (rw [if_neg (by decide +kernel)]; exact ⟨rfl, rfl⟩))
    (fun os started H enc _ => lifted os started H enc)

/-- The statement. -/
theorem proved : Rows.LedgerNextSaid := over
end Go.Proofs.Ythdhcppgpnnccaa.ledgerNext
