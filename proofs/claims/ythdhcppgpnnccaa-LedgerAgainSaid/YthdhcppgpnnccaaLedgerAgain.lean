/-
  LedgerAgain: what was taken is all taken again, and of what is left nothing; of what is left no packet is lost at the same time. No condition.
-/
import Derived.Test.YthdhcppgpnnccaaLedW
namespace Go.Proofs.Ythdhcppgpnnccaa.ledgerAgain
open Go.ChangeShapes Go.WideShapes Go.ChangeAt Go.RowKit Go.Deep
set_option linter.unusedVariables false

set_option maxRecDepth 20000 in
set_option maxHeartbeats 8000000 in
theorem walk (A : Option Addr) (c : Nat) (ss : List Wig.Snt) (B : Option Addr) (d : Nat) (tt : List Wig.Spn) (next now late : Nat) (hf : Wig.TFits ss) (hl : ss.length ≤ maxLen) (hc : ss.length ≤ c) (hf2 : Wig.SFits tt) (hl2 : tt.length ≤ maxLen) (hc2 : tt.length ≤ d) (hnext : next < 18446744073709551616) (hnow : now < 18446744073709551616) (hlate : late < 18446744073709551616) (w : World) (hr : RdT w w.heap.size A ss) (hq : RdS w w.heap.size B tt) :
    Calls Try.prog 8 #[.slice A ss.length c, .slice B tt.length d, .int .u64 (next : Int), .int .u64 (now : Int), .int .u64 (late : Int)] w fun e w' => e = .returned (.bool true) ∧ Below w.heap.size w w' := by
  obtain ⟨n, hn⟩ : ∃ n, n = ss.length := ⟨_, rfl⟩
  rw [← hn] at hl hc ⊢
  have RA := Lib.hid hr
  have B0 := Lib.hid (Below.refl w.heap.size w)
  have C0 := Lib.hid (fun w => awake_any w)
  clear hr hl hc
  obtain ⟨m, hm⟩ : ∃ m, m = tt.length := ⟨_, rfl⟩
  rw [← hm] at hl2 hc2 ⊢
  have RB := Lib.hid hq
  clear hq hl2 hc2 hf2
  by_cases h1 : n ≤ 50
  · by_cases h2 : m ≤ 50
    · skip
      have CF := Lib.hid (fun A c w => few_any A n c true w (decide_eq_true h1))
      have dm : decide ((50 : Int) < (m : Int)) = false := decide_eq_false (by omega)
      have dm' : decide (50 < m) = false := decide_eq_false (by omega)
      obtain ⟨xs, hxs⟩ : ∃ xs, ss.filter (Wig.tin tt) = xs := ⟨_, rfl⟩
      obtain ⟨ys, hys⟩ : ∃ ys, (ss.filter fun x => !Wig.tin tt x) = ys := ⟨_, rfl⟩
      obtain ⟨a, ha⟩ : ∃ a, xs.length = a := ⟨_, rfl⟩
      obtain ⟨b, hb⟩ : ∃ b, ys.length = b := ⟨_, rfl⟩
      have la : a ≤ 50 := by rw [← ha, ← hxs]; exact Nat.le_trans (List.length_filter_le _ _) (by omega)
      have lb : b ≤ 50 := by rw [← hb, ← hys]; exact Nat.le_trans (List.length_filter_le _ _) (by omega)
      obtain ⟨us, hus⟩ : ∃ us, ss.filter (Wig.tlost next now late) = us := ⟨_, rfl⟩
      obtain ⟨vs, hvs⟩ : ∃ vs, (ss.filter fun x => !Wig.tlost next now late x) = vs := ⟨_, rfl⟩
      obtain ⟨p, hp⟩ : ∃ p, us.length = p := ⟨_, rfl⟩
      obtain ⟨q, hq'⟩ : ∃ q, vs.length = q := ⟨_, rfl⟩
      obtain ⟨t, ht⟩ : ∃ t, Wig.twhen next now late ss = t := ⟨_, rfl⟩
      have lp : p ≤ 50 := by rw [← hp, ← hus]; exact Nat.le_trans (List.length_filter_le _ _) (by omega)
      have lq : q ≤ 50 := by rw [← hq', ← hvs]; exact Nat.le_trans (List.length_filter_le _ _) (by omega)
      have C1 := Lib.hid (fun A B c d w h k => take_gives ss xs ys tt A B n c m d a b w hn hm (by omega) (by omega) h k hxs hys ha hb hf)
      have C2 := Lib.hid (fun A B c d w h k => take_gives xs xs [] tt A B a c m d a 0 w ha.symm hm (by omega) (by omega) h k (by rw [← hxs]; exact Wig.filter_again _ _) (by rw [← hxs]; exact Wig.filter_other' _ _) ha rfl (by rw [← hxs]; exact hf.filter _))
      have C3 := Lib.hid (fun A B c d w h k => take_gives ys [] ys tt A B b c m d 0 b w hb.symm hm (by omega) (by omega) h k (by rw [← hys]; exact Wig.filter_other _ _) (by rw [← hys]; exact Wig.filter_not _ _) rfl hb (by rw [← hys]; exact hf.filter _))
      have C4 := Lib.hid (fun A c w h => lost_gives ss us vs next now late t A n c p q w hn (by omega) hf hlate h hus hvs hp hq' ht)
      have C5 := Lib.hid (fun A c w h => lost_gives vs [] vs next now late t A q c 0 q w hq'.symm (by omega) (by rw [← hvs]; exact hf.filter _) hlate h (by rw [← hvs]; exact Wig.filter_other _ _) (by rw [← hvs]; exact Wig.filter_not _ _) rfl hq' (by rw [← hvs, Wig.again_when]; exact ht))
      obtain ⟨t3, ht3⟩ : ∃ t3, Wig.twhen next now late us = t3 := ⟨_, rfl⟩
      have C6 := Lib.hid (fun A c w h => lost_gives us us [] next now late t3 A p c p 0 w hp.symm (by omega) (by rw [← hus]; exact hf.filter _) hlate h (by rw [← hus]; exact Wig.filter_again _ _) (by rw [← hus]; exact Wig.filter_other' _ _) hp rfl ht3)
      clear hn hm hf h1 h2 hxs hys ha hb la lb hus hvs hp hq' ht lp lq ht3 hnext hnow hlate
      go_enter Try.func8, Try.ntmps8
      go_wp2_with fail
      refine (C0.out _).mono ?_
      rintro e x44 ⟨rfl, hb⟩
      have RA_45 := Lib.hid (RA.out.step hb)
      have RB_45 := Lib.hid (RB.out.step hb)
      have B_45 := Lib.hid (B0.out.trans (hb.mono B0.out.size))
      clear hb RA RB B0
      go_wp2_with fail
      refine (CF.out _ _ _).mono ?_
      rintro e _ ⟨rfl, rfl⟩
      go_wp2_with fail
      refine (C1.out _ _ _ _ _ RA_45.out RB_45.out).mono ?_
      rintro e x47 ⟨AX1, cX1, AY1, cY1, rfl, hra, hrb, hb⟩
      have RA_48 := Lib.hid (RA_45.out.step hb)
      have RB_48 := Lib.hid (RB_45.out.step hb)
      have B_48 := Lib.hid (B_45.out.trans (hb.mono B_45.out.size))
      have RX1 := Lib.hid hra
      have RY1 := Lib.hid hrb
      clear hb hra hrb RA_45 RB_45 B_45
      go_wp2_with fail
      refine (C2.out _ _ _ _ _ RX1.out RB_48.out).mono ?_
      rintro e x49 ⟨AX2, cX2, AY2, cY2, rfl, hra, hrb, hb⟩
      have RA_50 := Lib.hid (RA_48.out.step hb)
      have RB_50 := Lib.hid (RB_48.out.step hb)
      have X1_50 := Lib.hid (RX1.out.step hb)
      have Y1_50 := Lib.hid (RY1.out.step hb)
      have B_50 := Lib.hid (B_48.out.trans (hb.mono B_48.out.size))
      have RX2 := Lib.hid hra
      have RY2 := Lib.hid hrb
      clear hb hra hrb RA_48 RB_48 RX1 RY1 B_48
      go_wp2_with fail
      refine (C3.out _ _ _ _ _ Y1_50.out RB_50.out).mono ?_
      rintro e x51 ⟨AX3, cX3, AY3, cY3, rfl, hra, hrb, hb⟩
      have RA_52 := Lib.hid (RA_50.out.step hb)
      have RB_52 := Lib.hid (RB_50.out.step hb)
      have X1_52 := Lib.hid (X1_50.out.step hb)
      have Y1_52 := Lib.hid (Y1_50.out.step hb)
      have X2_52 := Lib.hid (RX2.out.step hb)
      have Y2_52 := Lib.hid (RY2.out.step hb)
      have B_52 := Lib.hid (B_50.out.trans (hb.mono B_50.out.size))
      have RX3 := Lib.hid hra
      have RY3 := Lib.hid hrb
      clear hb hra hrb RA_50 RB_50 X1_50 Y1_50 RX2 RY2 B_50
      go_wp2_with fail
      refine (C4.out _ _ _ RA_52.out).mono ?_
      rintro e x53 ⟨AX4, cX4, AY4, cY4, rfl, hra, hrb, hb⟩
      have RA_54 := Lib.hid (RA_52.out.step hb)
      have RB_54 := Lib.hid (RB_52.out.step hb)
      have X1_54 := Lib.hid (X1_52.out.step hb)
      have Y1_54 := Lib.hid (Y1_52.out.step hb)
      have X2_54 := Lib.hid (X2_52.out.step hb)
      have Y2_54 := Lib.hid (Y2_52.out.step hb)
      have X3_54 := Lib.hid (RX3.out.step hb)
      have Y3_54 := Lib.hid (RY3.out.step hb)
      have B_54 := Lib.hid (B_52.out.trans (hb.mono B_52.out.size))
      have RX4 := Lib.hid hra
      have RY4 := Lib.hid hrb
      clear hb hra hrb RA_52 RB_52 X1_52 Y1_52 X2_52 Y2_52 RX3 RY3 B_52
      go_wp2_with fail
      refine (C5.out _ _ _ RY4.out).mono ?_
      rintro e x55 ⟨AX5, cX5, AY5, cY5, rfl, hra, hrb, hb⟩
      have RA_56 := Lib.hid (RA_54.out.step hb)
      have RB_56 := Lib.hid (RB_54.out.step hb)
      have X1_56 := Lib.hid (X1_54.out.step hb)
      have Y1_56 := Lib.hid (Y1_54.out.step hb)
      have X2_56 := Lib.hid (X2_54.out.step hb)
      have Y2_56 := Lib.hid (Y2_54.out.step hb)
      have X3_56 := Lib.hid (X3_54.out.step hb)
      have Y3_56 := Lib.hid (Y3_54.out.step hb)
      have X4_56 := Lib.hid (RX4.out.step hb)
      have Y4_56 := Lib.hid (RY4.out.step hb)
      have B_56 := Lib.hid (B_54.out.trans (hb.mono B_54.out.size))
      have RX5 := Lib.hid hra
      have RY5 := Lib.hid hrb
      clear hb hra hrb RA_54 RB_54 X1_54 Y1_54 X2_54 Y2_54 X3_54 Y3_54 RX4 RY4 B_54
      go_wp2_with fail
      refine (C6.out _ _ _ X4_56.out).mono ?_
      rintro e x57 ⟨AX6, cX6, AY6, cY6, rfl, hra, hrb, hb⟩
      have RA_58 := Lib.hid (RA_56.out.step hb)
      have RB_58 := Lib.hid (RB_56.out.step hb)
      have X1_58 := Lib.hid (X1_56.out.step hb)
      have Y1_58 := Lib.hid (Y1_56.out.step hb)
      have X2_58 := Lib.hid (X2_56.out.step hb)
      have Y2_58 := Lib.hid (Y2_56.out.step hb)
      have X3_58 := Lib.hid (X3_56.out.step hb)
      have Y3_58 := Lib.hid (Y3_56.out.step hb)
      have X4_58 := Lib.hid (X4_56.out.step hb)
      have Y4_58 := Lib.hid (Y4_56.out.step hb)
      have X5_58 := Lib.hid (RX5.out.step hb)
      have Y5_58 := Lib.hid (RY5.out.step hb)
      have B_58 := Lib.hid (B_56.out.trans (hb.mono B_56.out.size))
      have RX6 := Lib.hid hra
      have RY6 := Lib.hid hrb
      clear hb hra hrb RA_56 RB_56 X1_56 Y1_56 X2_56 Y2_56 X3_56 Y3_56 X4_56 Y4_56 RX5 RY5 B_56
      go_wp2_with fail
      go_ret
      exact ⟨rfl, B_58.out⟩
    · skip
      have CF := Lib.hid (fun A c w => few_any A n c true w (decide_eq_true h1))
      have dm : decide ((50 : Int) < (m : Int)) = true := decide_eq_true (by omega)
      have dm' : decide (50 < m) = true := decide_eq_true (by omega)
      clear hn hf h1 h2 hm hnext hnow hlate
      go_enter Try.func8, Try.ntmps8
      go_wp2_with fail
      refine (C0.out _).mono ?_
      rintro e x59 ⟨rfl, hb⟩
      have RA_60 := Lib.hid (RA.out.step hb)
      have RB_60 := Lib.hid (RB.out.step hb)
      have B_60 := Lib.hid (B0.out.trans (hb.mono B0.out.size))
      clear hb RA RB B0
      go_wp2_with fail
      refine (CF.out _ _ _).mono ?_
      rintro e _ ⟨rfl, rfl⟩
      go_wp2_with fail
      go_ret
      exact ⟨rfl, B_60.out⟩
  · skip
    have CF := Lib.hid (fun A c w => few_any A n c false w (decide_eq_false h1))
    clear hn hf h1 hm hnext hnow hlate
    go_enter Try.func8, Try.ntmps8
    go_wp2_with fail
    refine (C0.out _).mono ?_
    rintro e x62 ⟨rfl, hb⟩
    have RA_63 := Lib.hid (RA.out.step hb)
    have RB_63 := Lib.hid (RB.out.step hb)
    have B_63 := Lib.hid (B0.out.trans (hb.mono B0.out.size))
    clear hb RA RB B0
    go_wp2_with fail
    refine (CF.out _ _ _).mono ?_
    rintro e _ ⟨rfl, rfl⟩
    go_wp2_with fail
    go_ret
    exact ⟨rfl, B_63.out⟩

set_option maxRecDepth 100000 in
theorem lifted (os : Os) (started : os.Started) (H : Type) (enc : TypeId × Value → H) :
    ReturnsInHanded {} Try.checked os 8 .any (Rows.ledgerAgainSpec.pre6 enc Try.prog Try.f8 Rows.ledgerAgainRow.domain false) (Rows.ledgerAgainSpec.post enc Try.prog Try.f8 false true false false) := by
  refine returnsInHanded_of_change (C := Try.checked) own started (by kernel_rfl) Try.func8
    (ChangeSpec.witness6 (enc := enc) (C := Try.checked) false ⟨#[], #[.slice none 0 0, .slice none 0 0, .int .u64 0, .int .u64 0, .int .u64 0], []⟩ 8 (by kernel_rfl) (by kernel_rfl) (by kernel_rfl) (by kernel_rfl)) ?_
  intro W base args ds gs before hval0 hW hcnd _
  have hval : ∀ (j : Nat) t v, Try.f8.params[j]? = some t → args[j]? = some v → Value.okWide Try.prog W .any base t v := hval0
  have hW' := hW
  obtain ⟨p, q, hA0, hV, rfl, hfz, hnd⟩ := hW
  have hA : DataW.TrodAll enc Try.prog W 0 (fun _ => true) true Try.f8.params.toList args.toList ds p := hA0
  obtain ⟨rfl, rfl⟩ := trodVars_none hV
  simp only [List.append_nil] at hW'
  have hlow : ∀ x ∈ p, x.block < W.heap.size := fun x hx => hW'.lt x hx
  have hA2 := hA
  rw [Try.params8] at hval hA2
  obtain ⟨v0, vs0, d0, ds0, p0, q0, hargs, rfl, rfl, h0, r0⟩ := trodAll_cons hA2
  obtain ⟨v1, vs1, d1, ds1, p1, q1, rfl, rfl, rfl, h1, r1⟩ := trodAll_cons r0
  obtain ⟨v2, vs2, d2, ds2, p2, q2, rfl, rfl, rfl, h2, r2⟩ := trodAll_cons r1
  obtain ⟨v3, vs3, d3, ds3, p3, q3, rfl, rfl, rfl, h3, r3⟩ := trodAll_cons r2
  obtain ⟨v4, vs4, d4, ds4, p4, q4, rfl, rfl, rfl, h4, r4⟩ := trodAll_cons r3
  obtain ⟨rfl, rfl, rfl⟩ := trodAll_nil r4
  obtain rfl : args = #[v0, v1, v2, v3, v4] := by cases args; simp_all
  obtain ⟨A0, c0, ss0, rfl, hf0, hr0, hl0, hc0⟩ := open_sents Try.underlying22 Try.underlying37 (by kernel_rfl) (by kernel_rfl) rfl rfl rfl rfl Try.underlying29 Try.underlying4 (hval 0 22 v0 rfl rfl) h0 (fun x hx => hlow x (by simp [hx]))
  obtain ⟨A1, c1, ss1, rfl, hf1, hr1, hl1, hc1⟩ := open_spansc Try.underlying23 Try.underlying43 (by kernel_rfl) (by kernel_rfl) rfl rfl Try.underlying29 (hval 1 23 v1 rfl rfl) h1 (fun x hx => hlow x (by simp [hx]))
  obtain ⟨n2, rfl, hn2⟩ := open_u64 Try.underlying29 (hval 2 29 v2 rfl rfl) h2
  obtain ⟨n3, rfl, hn3⟩ := open_u64 Try.underlying29 (hval 3 29 v3 rfl rfl) h3
  obtain ⟨n4, rfl, hn4⟩ := open_u64 Try.underlying29 (hval 4 29 v4 rfl rfl) h4
  refine (walk A0 c0 ss0 A1 c1 ss1 n2 n3 n4 hf0 hl0 hc0 hf1 hl1 hc1 hn2 hn3 hn4 W hr0 hr1).mono fun e W' ⟨he, hg⟩ => ?_
  subst he
  exact ⟨_, rfl, law_true laid_out (by kernel_rfl) rfl Try.underlying4 (by kernel_rfl) hW' hA rfl rfl rfl hg⟩

theorem over : Rows.ledgerAgainRow.holds Try.pinned (OpenSpec.ofChange Rows.ledgerAgainSpec) :=
  OpenClaim.holds_of_wide 8 Try.f8 rfl rfl rfl rfl rfl rfl rfl ⟨rfl, rfl, rfl, rfl, rfl⟩ rfl rfl rfl rfl rfl (by kernel_rfl) Try.func8 (by kernel_rfl)
    (of_decide_eq_true (by kernel_rfl)) (by unfold Func.isWrapper; first | (rw [if_pos (by decide +kernel)]; kernel_rfl) | (rw [if_neg (by decide +kernel)]; exact ⟨rfl, rfl⟩))
    (fun os started H enc _ => lifted os started H enc)

/-- The statement. -/
theorem proved : Rows.LedgerAgainSaid := over
end Go.Proofs.Ythdhcppgpnnccaa.ledgerAgain
