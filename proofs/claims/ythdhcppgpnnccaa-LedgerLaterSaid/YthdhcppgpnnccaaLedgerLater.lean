/-
  LedgerLater: the later it is, and the more came, the more is lost. No condition.
-/
import Derived.Test.YthdhcppgpnnccaaLedW
namespace Go.Proofs.Ythdhcppgpnnccaa.ledgerLater
open Go.ChangeShapes Go.WideShapes Go.ChangeAt Go.RowKit Go.Deep
set_option linter.unusedVariables false

set_option maxRecDepth 20000 in
set_option maxHeartbeats 8000000 in
theorem walk (A : Option Addr) (c : Nat) (ss : List Wig.Snt) (next now late more : Nat) (hf : Wig.TFits ss) (hl : ss.length ≤ maxLen) (hc : ss.length ≤ c) (hnext : next < 18446744073709551616) (hnow : now < 18446744073709551616) (hlate : late < 18446744073709551616) (hmore : more < 18446744073709551616) (w : World) (hr : RdT w w.heap.size A ss) :
    Calls Try.prog 9 #[.slice A ss.length c, .int .u64 (next : Int), .int .u64 (now : Int), .int .u64 (late : Int), .int .u64 (more : Int)] w fun e w' => e = .returned (.bool true) ∧ Below w.heap.size w w' := by
  obtain ⟨n, hn⟩ : ∃ n, n = ss.length := ⟨_, rfl⟩
  rw [← hn] at hl hc ⊢
  have RA := Lib.hid hr
  have B0 := Lib.hid (Below.refl w.heap.size w)
  have C0 := Lib.hid (fun w => awake_any w)
  clear hr hl hc
  by_cases h1 : n ≤ 50
  · by_cases h2 : now ≤ 4611686018427387904
    · by_cases h3 : next ≤ 4611686018427387904
      · by_cases h4 : more ≤ 4611686018427387904
        · skip
          have CF := Lib.hid (fun A c w => few_any A n c true w (decide_eq_true h1))
          have dnow : decide ((4611686018427387904 : Int) < (now : Int)) = false := decide_eq_false (by omega)
          have dnow' : decide (4611686018427387904 < now) = false := decide_eq_false (by omega)
          have dnext : decide ((4611686018427387904 : Int) < (next : Int)) = false := decide_eq_false (by omega)
          have dnext' : decide (4611686018427387904 < next) = false := decide_eq_false (by omega)
          have dmore : decide ((4611686018427387904 : Int) < (more : Int)) = false := decide_eq_false (by omega)
          have dmore' : decide (4611686018427387904 < more) = false := decide_eq_false (by omega)
          obtain ⟨us, hus⟩ : ∃ us, ss.filter (Wig.tlost next now late) = us := ⟨_, rfl⟩
          obtain ⟨vs, hvs⟩ : ∃ vs, (ss.filter fun x => !Wig.tlost next now late x) = vs := ⟨_, rfl⟩
          obtain ⟨p, hp⟩ : ∃ p, us.length = p := ⟨_, rfl⟩
          obtain ⟨q, hq'⟩ : ∃ q, vs.length = q := ⟨_, rfl⟩
          obtain ⟨t, ht⟩ : ∃ t, Wig.twhen next now late ss = t := ⟨_, rfl⟩
          have lp : p ≤ 50 := by rw [← hp, ← hus]; exact Nat.le_trans (List.length_filter_le _ _) (by omega)
          have lq : q ≤ 50 := by rw [← hq', ← hvs]; exact Nat.le_trans (List.length_filter_le _ _) (by omega)
          obtain ⟨us2, hus2⟩ : ∃ us, ss.filter (Wig.tlost next (now + more) late) = us := ⟨_, rfl⟩
          obtain ⟨vs2, hvs2⟩ : ∃ vs, (ss.filter fun x => !Wig.tlost next (now + more) late x) = vs := ⟨_, rfl⟩
          obtain ⟨p2, hp2⟩ : ∃ p, us2.length = p := ⟨_, rfl⟩
          obtain ⟨q2, hq2⟩ : ∃ q, vs2.length = q := ⟨_, rfl⟩
          obtain ⟨t2, ht2⟩ : ∃ t, Wig.twhen next (now + more) late ss = t := ⟨_, rfl⟩
          obtain ⟨us3, hus3⟩ : ∃ us, ss.filter (Wig.tlost (next + more) now late) = us := ⟨_, rfl⟩
          obtain ⟨vs3, hvs3⟩ : ∃ vs, (ss.filter fun x => !Wig.tlost (next + more) now late x) = vs := ⟨_, rfl⟩
          obtain ⟨p3, hp3⟩ : ∃ p, us3.length = p := ⟨_, rfl⟩
          obtain ⟨q3, hq3⟩ : ∃ q, vs3.length = q := ⟨_, rfl⟩
          obtain ⟨t3, ht3⟩ : ∃ t, Wig.twhen (next + more) now late ss = t := ⟨_, rfl⟩
          have le2 : p ≤ p2 := by rw [← hp, ← hus, ← hp2, ← hus2]; exact Wig.later_now ss
          have le3 : p ≤ p3 := by rw [← hp, ← hus, ← hp3, ← hus3]; exact Wig.later_next ss
          obtain ⟨z2, hz2⟩ : ∃ z, z = now + more := ⟨_, rfl⟩
          obtain ⟨z3, hz3⟩ : ∃ z, z = next + more := ⟨_, rfl⟩
          have e2 : IntKind.u64.wrap ((now : Int) + (more : Int)) = (z2 : Int) := by rw [IntKind.wrap_u64]; omega
          have e3 : IntKind.u64.wrap ((next : Int) + (more : Int)) = (z3 : Int) := by rw [IntKind.wrap_u64]; omega
          have g2 : decide ((p : Int) ≤ (p2 : Int)) = true := decide_eq_true (by omega)
          have g2' : decide (p ≤ p2) = true := decide_eq_true le2
          have g3 : decide ((p : Int) ≤ (p3 : Int)) = true := decide_eq_true (by omega)
          have g3' : decide (p ≤ p3) = true := decide_eq_true le3
          rw [← hz2] at hus2 hvs2 ht2
          rw [← hz3] at hus3 hvs3 ht3
          have C1 := Lib.hid (fun A c w h => lost_gives ss us vs next now late t A n c p q w hn (by omega) hf hlate h hus hvs hp hq' ht)
          have C2 := Lib.hid (fun A c w h => lost_gives ss us2 vs2 next z2 late t2 A n c p2 q2 w hn (by omega) hf hlate h hus2 hvs2 hp2 hq2 ht2)
          have C3 := Lib.hid (fun A c w h => lost_gives ss us3 vs3 z3 now late t3 A n c p3 q3 w hn (by omega) hf hlate h hus3 hvs3 hp3 hq3 ht3)
          clear hn hf h1 h2 h3 h4 hus hvs hp hq' ht lp lq hus2 hvs2 hp2 hq2 ht2 hus3 hvs3 hp3 hq3 ht3 le2 le3 hz2 hz3 hnext hnow hlate hmore
          go_enter Try.func9, Try.ntmps9
          go_wp2_with fail
          refine (C0.out _).mono ?_
          rintro e x65 ⟨rfl, hb⟩
          have RA_66 := Lib.hid (RA.out.step hb)
          have B_66 := Lib.hid (B0.out.trans (hb.mono B0.out.size))
          clear hb RA B0
          go_wp2_with fail
          refine (CF.out _ _ _).mono ?_
          rintro e _ ⟨rfl, rfl⟩
          go_wp2_with fail
          refine (C1.out _ _ _ RA_66.out).mono ?_
          rintro e x68 ⟨AX1, cX1, AY1, cY1, rfl, hra, hrb, hb⟩
          have RA_69 := Lib.hid (RA_66.out.step hb)
          have B_69 := Lib.hid (B_66.out.trans (hb.mono B_66.out.size))
          have RX1 := Lib.hid hra
          have RY1 := Lib.hid hrb
          clear hb hra hrb RA_66 B_66
          go_wp2_with fail
          refine (C2.out _ _ _ RA_69.out).mono ?_
          rintro e x70 ⟨AX2, cX2, AY2, cY2, rfl, hra, hrb, hb⟩
          have RA_71 := Lib.hid (RA_69.out.step hb)
          have X1_71 := Lib.hid (RX1.out.step hb)
          have Y1_71 := Lib.hid (RY1.out.step hb)
          have B_71 := Lib.hid (B_69.out.trans (hb.mono B_69.out.size))
          have RX2 := Lib.hid hra
          have RY2 := Lib.hid hrb
          clear hb hra hrb RA_69 RX1 RY1 B_69
          go_wp2_with fail
          refine (C3.out _ _ _ RA_71.out).mono ?_
          rintro e x72 ⟨AX3, cX3, AY3, cY3, rfl, hra, hrb, hb⟩
          have RA_73 := Lib.hid (RA_71.out.step hb)
          have X1_73 := Lib.hid (X1_71.out.step hb)
          have Y1_73 := Lib.hid (Y1_71.out.step hb)
          have X2_73 := Lib.hid (RX2.out.step hb)
          have Y2_73 := Lib.hid (RY2.out.step hb)
          have B_73 := Lib.hid (B_71.out.trans (hb.mono B_71.out.size))
          have RX3 := Lib.hid hra
          have RY3 := Lib.hid hrb
          clear hb hra hrb RA_71 X1_71 Y1_71 RX2 RY2 B_71
          go_wp2_with fail
          go_ret
          exact ⟨rfl, B_73.out⟩
        · skip
          have CF := Lib.hid (fun A c w => few_any A n c true w (decide_eq_true h1))
          have dnow : decide ((4611686018427387904 : Int) < (now : Int)) = false := decide_eq_false (by omega)
          have dnow' : decide (4611686018427387904 < now) = false := decide_eq_false (by omega)
          have dnext : decide ((4611686018427387904 : Int) < (next : Int)) = false := decide_eq_false (by omega)
          have dnext' : decide (4611686018427387904 < next) = false := decide_eq_false (by omega)
          have dmore : decide ((4611686018427387904 : Int) < (more : Int)) = true := decide_eq_true (by omega)
          have dmore' : decide (4611686018427387904 < more) = true := decide_eq_true (by omega)
          clear hn hf h1 h2 h3 h4 hnext hnow hlate hmore
          go_enter Try.func9, Try.ntmps9
          go_wp2_with fail
          refine (C0.out _).mono ?_
          rintro e x74 ⟨rfl, hb⟩
          have RA_75 := Lib.hid (RA.out.step hb)
          have B_75 := Lib.hid (B0.out.trans (hb.mono B0.out.size))
          clear hb RA B0
          go_wp2_with fail
          refine (CF.out _ _ _).mono ?_
          rintro e _ ⟨rfl, rfl⟩
          go_wp2_with fail
          go_ret
          exact ⟨rfl, B_75.out⟩
      · skip
        have CF := Lib.hid (fun A c w => few_any A n c true w (decide_eq_true h1))
        have dnow : decide ((4611686018427387904 : Int) < (now : Int)) = false := decide_eq_false (by omega)
        have dnow' : decide (4611686018427387904 < now) = false := decide_eq_false (by omega)
        have dnext : decide ((4611686018427387904 : Int) < (next : Int)) = true := decide_eq_true (by omega)
        have dnext' : decide (4611686018427387904 < next) = true := decide_eq_true (by omega)
        clear hn hf h1 h2 h3 hnext hnow hlate hmore
        go_enter Try.func9, Try.ntmps9
        go_wp2_with fail
        refine (C0.out _).mono ?_
        rintro e x77 ⟨rfl, hb⟩
        have RA_78 := Lib.hid (RA.out.step hb)
        have B_78 := Lib.hid (B0.out.trans (hb.mono B0.out.size))
        clear hb RA B0
        go_wp2_with fail
        refine (CF.out _ _ _).mono ?_
        rintro e _ ⟨rfl, rfl⟩
        go_wp2_with fail
        go_ret
        exact ⟨rfl, B_78.out⟩
    · skip
      have CF := Lib.hid (fun A c w => few_any A n c true w (decide_eq_true h1))
      have dnow : decide ((4611686018427387904 : Int) < (now : Int)) = true := decide_eq_true (by omega)
      have dnow' : decide (4611686018427387904 < now) = true := decide_eq_true (by omega)
      clear hn hf h1 h2 hnext hnow hlate hmore
      go_enter Try.func9, Try.ntmps9
      go_wp2_with fail
      refine (C0.out _).mono ?_
      rintro e x80 ⟨rfl, hb⟩
      have RA_81 := Lib.hid (RA.out.step hb)
      have B_81 := Lib.hid (B0.out.trans (hb.mono B0.out.size))
      clear hb RA B0
      go_wp2_with fail
      refine (CF.out _ _ _).mono ?_
      rintro e _ ⟨rfl, rfl⟩
      go_wp2_with fail
      go_ret
      exact ⟨rfl, B_81.out⟩
  · skip
    have CF := Lib.hid (fun A c w => few_any A n c false w (decide_eq_false h1))
    clear hn hf h1 hnext hnow hlate hmore
    go_enter Try.func9, Try.ntmps9
    go_wp2_with fail
    refine (C0.out _).mono ?_
    rintro e x83 ⟨rfl, hb⟩
    have RA_84 := Lib.hid (RA.out.step hb)
    have B_84 := Lib.hid (B0.out.trans (hb.mono B0.out.size))
    clear hb RA B0
    go_wp2_with fail
    refine (CF.out _ _ _).mono ?_
    rintro e _ ⟨rfl, rfl⟩
    go_wp2_with fail
    go_ret
    exact ⟨rfl, B_84.out⟩

set_option maxRecDepth 100000 in
theorem lifted (os : Os) (started : os.Started) (H : Type) (enc : TypeId × Value → H) :
    ReturnsInHanded {} Try.checked os 9 .any (Rows.ledgerLaterSpec.pre6 enc Try.prog Try.f9 Rows.ledgerLaterRow.domain false) (Rows.ledgerLaterSpec.post enc Try.prog Try.f9 false true false false) := by
  refine returnsInHanded_of_change (C := Try.checked) own started (by kernel_rfl) Try.func9
    (ChangeSpec.witness6 (enc := enc) (C := Try.checked) false ⟨#[], #[.slice none 0 0, .int .u64 0, .int .u64 0, .int .u64 0, .int .u64 0], []⟩ 8 (by kernel_rfl) (by kernel_rfl) (by kernel_rfl) (by kernel_rfl)) ?_
  intro W base args ds gs before hval0 hW hcnd _
  have hval : ∀ (j : Nat) t v, Try.f9.params[j]? = some t → args[j]? = some v → Value.okWide Try.prog W .any base t v := hval0
  have hW' := hW
  obtain ⟨p, q, hA0, hV, rfl, hfz, hnd⟩ := hW
  have hA : DataW.TrodAll enc Try.prog W 0 (fun _ => true) true Try.f9.params.toList args.toList ds p := hA0
  obtain ⟨rfl, rfl⟩ := trodVars_none hV
  simp only [List.append_nil] at hW'
  have hlow : ∀ x ∈ p, x.block < W.heap.size := fun x hx => hW'.lt x hx
  have hA2 := hA
  rw [Try.params9] at hval hA2
  obtain ⟨v0, vs0, d0, ds0, p0, q0, hargs, rfl, rfl, h0, r0⟩ := trodAll_cons hA2
  obtain ⟨v1, vs1, d1, ds1, p1, q1, rfl, rfl, rfl, h1, r1⟩ := trodAll_cons r0
  obtain ⟨v2, vs2, d2, ds2, p2, q2, rfl, rfl, rfl, h2, r2⟩ := trodAll_cons r1
  obtain ⟨v3, vs3, d3, ds3, p3, q3, rfl, rfl, rfl, h3, r3⟩ := trodAll_cons r2
  obtain ⟨v4, vs4, d4, ds4, p4, q4, rfl, rfl, rfl, h4, r4⟩ := trodAll_cons r3
  obtain ⟨rfl, rfl, rfl⟩ := trodAll_nil r4
  obtain rfl : args = #[v0, v1, v2, v3, v4] := by cases args; simp_all
  obtain ⟨A0, c0, ss0, rfl, hf0, hr0, hl0, hc0⟩ := open_sents Try.underlying22 Try.underlying37 (by kernel_rfl) (by kernel_rfl) rfl rfl rfl rfl Try.underlying29 Try.underlying4 (hval 0 22 v0 rfl rfl) h0 (fun x hx => hlow x (by simp [hx]))
  obtain ⟨n1, rfl, hn1⟩ := open_u64 Try.underlying29 (hval 1 29 v1 rfl rfl) h1
  obtain ⟨n2, rfl, hn2⟩ := open_u64 Try.underlying29 (hval 2 29 v2 rfl rfl) h2
  obtain ⟨n3, rfl, hn3⟩ := open_u64 Try.underlying29 (hval 3 29 v3 rfl rfl) h3
  obtain ⟨n4, rfl, hn4⟩ := open_u64 Try.underlying29 (hval 4 29 v4 rfl rfl) h4
  refine (walk A0 c0 ss0 n1 n2 n3 n4 hf0 hl0 hc0 hn1 hn2 hn3 hn4 W hr0).mono fun e W' ⟨he, hg⟩ => ?_
  subst he
  exact ⟨_, rfl, law_true laid_out (by kernel_rfl) rfl Try.underlying4 (by kernel_rfl) hW' hA rfl rfl rfl hg⟩

theorem over : Rows.ledgerLaterRow.holds Try.pinned (OpenSpec.ofChange Rows.ledgerLaterSpec) :=
  OpenClaim.holds_of_wide 9 Try.f9 rfl rfl rfl rfl rfl rfl rfl ⟨rfl, rfl, rfl, rfl, rfl⟩ rfl rfl rfl rfl rfl (by kernel_rfl) Try.func9 (by kernel_rfl)
    (of_decide_eq_true (by kernel_rfl)) (by unfold Func.isWrapper; first | (rw [if_pos (by decide +kernel)]; kernel_rfl) | (rw [if_neg (by decide +kernel)]; exact ⟨rfl, rfl⟩))
    (fun os started H enc _ => lifted os started H enc)

/-- The statement. -/
theorem proved : Rows.LedgerLaterSaid := over
end Go.Proofs.Ythdhcppgpnnccaa.ledgerLater
