/-
  LedgerLoses: which packets are lost, when the next one will be, and whether they were lost for long, are what the document says. No condition.
-/
import Derived.Test.YthdhcppgpnnccaaLedW
namespace Go.Proofs.Ythdhcppgpnnccaa.ledgerLoses
open Go.ChangeShapes Go.WideShapes Go.ChangeAt Go.RowKit Go.Deep
set_option linter.unusedVariables false

set_option maxRecDepth 20000 in
set_option maxHeartbeats 8000000 in
theorem walk (A : Option Addr) (c : Nat) (ss : List Wig.Snt) (next now late time : Nat) (hf : Wig.TFits ss) (hl : ss.length ≤ maxLen) (hc : ss.length ≤ c) (hnext : next < 18446744073709551616) (hnow : now < 18446744073709551616) (hlate : late < 18446744073709551616) (htime : time < 18446744073709551616) (w : World) (hr : RdT w w.heap.size A ss) :
    Calls Try.prog 4 #[.slice A ss.length c, .int .u64 (next : Int), .int .u64 (now : Int), .int .u64 (late : Int), .int .u64 (time : Int)] w fun e w' => e = .returned (.bool true) ∧ Below w.heap.size w w' := by
  obtain ⟨n, hn⟩ : ∃ n, n = ss.length := ⟨_, rfl⟩
  rw [← hn] at hl hc ⊢
  have RA := Lib.hid hr
  have B0 := Lib.hid (Below.refl w.heap.size w)
  have C0 := Lib.hid (fun w => awake_any w)
  clear hr hl hc
  by_cases h1 : n ≤ 50
  · skip
    have CF := Lib.hid (fun A c w => few_any A n c true w (decide_eq_true h1))
    obtain ⟨us, hus⟩ : ∃ us, ss.filter (Wig.tlost next now late) = us := ⟨_, rfl⟩
    obtain ⟨vs, hvs⟩ : ∃ vs, (ss.filter fun x => !Wig.tlost next now late x) = vs := ⟨_, rfl⟩
    obtain ⟨p, hp⟩ : ∃ p, us.length = p := ⟨_, rfl⟩
    obtain ⟨q, hq'⟩ : ∃ q, vs.length = q := ⟨_, rfl⟩
    obtain ⟨t, ht⟩ : ∃ t, Wig.twhen next now late ss = t := ⟨_, rfl⟩
    have lp : p ≤ 50 := by rw [← hp, ← hus]; exact Nat.le_trans (List.length_filter_le _ _) (by omega)
    have lq : q ≤ 50 := by rw [← hq', ← hvs]; exact Nat.le_trans (List.length_filter_le _ _) (by omega)
    obtain ⟨r, hrr⟩ : ∃ r, Wig.tlong time ss = r := ⟨_, rfl⟩
    have C1 := Lib.hid (fun A c w h => lost_gives ss us vs next now late t A n c p q w hn (by omega) hf hlate h hus hvs hp hq' ht)
    have C2 := Lib.hid (fun A c w h => rlost_gives ss us vs next now late t A n c p q w hn (by omega) hf hlate h hus hvs hp hq' ht)
    have C3 := Lib.hid (fun A A2 c c2 w h k => same_any us A A2 p c c2 w hp.symm (by omega) h k)
    have C4 := Lib.hid (fun A A2 c c2 w h k => same_any vs A A2 q c c2 w hq'.symm (by omega) h k)
    have C5 := Lib.hid (fun A c w h => long_any ss time r A n c w hn (by omega) hf htime h hrr)
    have C6 := Lib.hid (fun A c w h => rlong_any ss time r A n c w hn (by omega) hf htime h hrr)
    have tb : (r == r) = true := by simp
    clear hn hf h1 hus hvs hp hq' ht lp lq hrr hnext hnow hlate htime
    go_enter Try.func4, Try.ntmps4
    go_wp2_with fail
    refine (C0.out _).mono ?_
    rintro e x26 ⟨rfl, hb⟩
    have RA_27 := Lib.hid (RA.out.step hb)
    have B_27 := Lib.hid (B0.out.trans (hb.mono B0.out.size))
    clear hb RA B0
    go_wp2_with fail
    refine (CF.out _ _ _).mono ?_
    rintro e _ ⟨rfl, rfl⟩
    go_wp2_with fail
    refine (C1.out _ _ _ RA_27.out).mono ?_
    rintro e x29 ⟨AX1, cX1, AY1, cY1, rfl, hra, hrb, hb⟩
    have RA_30 := Lib.hid (RA_27.out.step hb)
    have B_30 := Lib.hid (B_27.out.trans (hb.mono B_27.out.size))
    have RX1 := Lib.hid hra
    have RY1 := Lib.hid hrb
    clear hb hra hrb RA_27 B_27
    go_wp2_with fail
    refine (C2.out _ _ _ RA_30.out).mono ?_
    rintro e x31 ⟨AX2, cX2, AY2, cY2, rfl, hra, hrb, hb⟩
    have RA_32 := Lib.hid (RA_30.out.step hb)
    have X1_32 := Lib.hid (RX1.out.step hb)
    have Y1_32 := Lib.hid (RY1.out.step hb)
    have B_32 := Lib.hid (B_30.out.trans (hb.mono B_30.out.size))
    have RX2 := Lib.hid hra
    have RY2 := Lib.hid hrb
    clear hb hra hrb RA_30 RX1 RY1 B_30
    go_wp2_with fail
    refine (C3.out _ _ _ _ _ X1_32.out RX2.out).mono ?_
    rintro e x33 ⟨rfl, hb⟩
    have RA_34 := Lib.hid (RA_32.out.step hb)
    have X1_34 := Lib.hid (X1_32.out.step hb)
    have Y1_34 := Lib.hid (Y1_32.out.step hb)
    have X2_34 := Lib.hid (RX2.out.step hb)
    have Y2_34 := Lib.hid (RY2.out.step hb)
    have B_34 := Lib.hid (B_32.out.trans (hb.mono B_32.out.size))
    clear hb RA_32 X1_32 Y1_32 RX2 RY2 B_32
    go_wp2_with fail
    refine (C4.out _ _ _ _ _ Y1_34.out Y2_34.out).mono ?_
    rintro e x35 ⟨rfl, hb⟩
    have RA_36 := Lib.hid (RA_34.out.step hb)
    have X1_36 := Lib.hid (X1_34.out.step hb)
    have Y1_36 := Lib.hid (Y1_34.out.step hb)
    have X2_36 := Lib.hid (X2_34.out.step hb)
    have Y2_36 := Lib.hid (Y2_34.out.step hb)
    have B_36 := Lib.hid (B_34.out.trans (hb.mono B_34.out.size))
    clear hb RA_34 X1_34 Y1_34 X2_34 Y2_34 B_34
    go_wp2_with fail
    refine (C5.out _ _ _ RA_36.out).mono ?_
    rintro e x37 ⟨rfl, hb⟩
    have RA_38 := Lib.hid (RA_36.out.step hb)
    have X1_38 := Lib.hid (X1_36.out.step hb)
    have Y1_38 := Lib.hid (Y1_36.out.step hb)
    have X2_38 := Lib.hid (X2_36.out.step hb)
    have Y2_38 := Lib.hid (Y2_36.out.step hb)
    have B_38 := Lib.hid (B_36.out.trans (hb.mono B_36.out.size))
    clear hb RA_36 X1_36 Y1_36 X2_36 Y2_36 B_36
    go_wp2_with fail
    refine (C6.out _ _ _ RA_38.out).mono ?_
    rintro e x39 ⟨rfl, hb⟩
    have RA_40 := Lib.hid (RA_38.out.step hb)
    have X1_40 := Lib.hid (X1_38.out.step hb)
    have Y1_40 := Lib.hid (Y1_38.out.step hb)
    have X2_40 := Lib.hid (X2_38.out.step hb)
    have Y2_40 := Lib.hid (Y2_38.out.step hb)
    have B_40 := Lib.hid (B_38.out.trans (hb.mono B_38.out.size))
    clear hb RA_38 X1_38 Y1_38 X2_38 Y2_38 B_38
    go_wp2_with fail
    go_ret
    exact ⟨rfl, B_40.out⟩
  · skip
    have CF := Lib.hid (fun A c w => few_any A n c false w (decide_eq_false h1))
    clear hn hf h1 hnext hnow hlate htime
    go_enter Try.func4, Try.ntmps4
    go_wp2_with fail
    refine (C0.out _).mono ?_
    rintro e x41 ⟨rfl, hb⟩
    have RA_42 := Lib.hid (RA.out.step hb)
    have B_42 := Lib.hid (B0.out.trans (hb.mono B0.out.size))
    clear hb RA B0
    go_wp2_with fail
    refine (CF.out _ _ _).mono ?_
    rintro e _ ⟨rfl, rfl⟩
    go_wp2_with fail
    go_ret
    exact ⟨rfl, B_42.out⟩

set_option maxRecDepth 100000 in
theorem lifted (os : Os) (started : os.Started) (H : Type) (enc : TypeId × Value → H) :
    ReturnsInHanded {} Try.checked os 4 .any (Rows.ledgerLosesSpec.pre6 enc Try.prog Try.f4 Rows.ledgerLosesRow.domain false) (Rows.ledgerLosesSpec.post enc Try.prog Try.f4 false true false false) := by
  refine returnsInHanded_of_change (C := Try.checked) own started (by kernel_rfl) Try.func4
    (ChangeSpec.witness6 (enc := enc) (C := Try.checked) false ⟨#[], #[.slice none 0 0, .int .u64 0, .int .u64 0, .int .u64 0, .int .u64 0], []⟩ 8 (by kernel_rfl) (by kernel_rfl) (by kernel_rfl) (by kernel_rfl)) ?_
  intro W base args ds gs before hval0 hW hcnd _
  have hval : ∀ (j : Nat) t v, Try.f4.params[j]? = some t → args[j]? = some v → Value.okWide Try.prog W .any base t v := hval0
  have hW' := hW
  obtain ⟨p, q, hA0, hV, rfl, hfz, hnd⟩ := hW
  have hA : DataW.TrodAll enc Try.prog W 0 (fun _ => true) true Try.f4.params.toList args.toList ds p := hA0
  obtain ⟨rfl, rfl⟩ := trodVars_none hV
  simp only [List.append_nil] at hW'
  have hlow : ∀ x ∈ p, x.block < W.heap.size := fun x hx => hW'.lt x hx
  have hA2 := hA
  rw [Try.params4] at hval hA2
  obtain ⟨v0, vs0, d0, ds0, p0, q0, hargs, rfl, rfl, h0, r0⟩ := trodAll_cons hA2
  obtain ⟨v1, vs1, d1, ds1, p1, q1, rfl, rfl, rfl, h1, r1⟩ := trodAll_cons r0
  obtain ⟨v2, vs2, d2, ds2, p2, q2, rfl, rfl, rfl, h2, r2⟩ := trodAll_cons r1
  obtain ⟨v3, vs3, d3, ds3, p3, q3, rfl, rfl, rfl, h3, r3⟩ := trodAll_cons r2
  obtain ⟨v4, vs4, d4, ds4, p4, q4, rfl, rfl, rfl, h4, r4⟩ := trodAll_cons r3
  obtain ⟨rfl, rfl, rfl⟩ := trodAll_nil r4
  obtain rfl : args = #[v0, v1, v2, v3, v4] := by cases args; simp_all
  obtain ⟨A0, c0, ss0, rfl, hf0, hr0, hl0, hc0⟩ := open_sents Try.underlying22 Try.underlying37 (by kernel_rfl) (by kernel_rfl) rfl rfl rfl rfl Try.underlying29 Try.underlying4 (hval 0 22 v0 rfl rfl) h0 (fun x hx => hlow x (by simp [hx]))
  obtain ⟨n1, rfl, hn1⟩ := open_u64 Try.underlying29 (hval 1 29 v1 rfl rfl) h1
  obtain ⟨n2, rfl, hn2⟩ := open_u64 Try.underlying29 (hval 2 29 v2 rfl rfl) h2
  obtain ⟨n3, rfl, hn3⟩ := open_u64 Try.underlying29 (hval 3 29 v3 rfl rfl) h3
  obtain ⟨n4, rfl, hn4⟩ := open_u64 Try.underlying29 (hval 4 29 v4 rfl rfl) h4
  refine (walk A0 c0 ss0 n1 n2 n3 n4 hf0 hl0 hc0 hn1 hn2 hn3 hn4 W hr0).mono fun e W' ⟨he, hg⟩ => ?_
  subst he
  exact ⟨_, rfl, law_true laid_out (by kernel_rfl) rfl Try.underlying4 (by kernel_rfl) hW' hA rfl rfl rfl hg⟩

theorem over : Rows.ledgerLosesRow.holds Try.pinned (OpenSpec.ofChange Rows.ledgerLosesSpec) :=
  OpenClaim.holds_of_wide 4 Try.f4 rfl rfl rfl rfl rfl rfl rfl ⟨rfl, rfl, rfl, rfl, rfl⟩ rfl rfl rfl rfl rfl (by kernel_rfl) Try.func4 (by kernel_rfl)
    (of_decide_eq_true (by kernel_rfl)) (by unfold Func.isWrapper; first | (rw [if_pos (by decide +kernel)]; kernel_rfl) | (rw [if_neg (by decide +kernel)]; exact ⟨rfl, rfl⟩))
    (fun os started H enc _ => lifted os started H enc)

/-- The statement. -/
theorem proved : Rows.LedgerLosesSaid := over
end Go.Proofs.Ythdhcppgpnnccaa.ledgerLoses
