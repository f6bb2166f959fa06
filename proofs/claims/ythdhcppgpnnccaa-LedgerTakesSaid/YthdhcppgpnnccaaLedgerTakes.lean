/-
  LedgerTakes: the bytes that are under way, whether packets rise, and which are taken, are what the document says. No condition.
-/
import Derived.Test.YthdhcppgpnnccaaLedW
namespace Go.Proofs.Ythdhcppgpnnccaa.ledgerTakes
open Go.ChangeShapes Go.WideShapes Go.ChangeAt Go.RowKit Go.Deep
set_option linter.unusedVariables false

set_option maxRecDepth 20000 in
set_option maxHeartbeats 8000000 in
theorem walk (A : Option Addr) (c : Nat) (ss : List Wig.Snt) (B : Option Addr) (d : Nat) (tt : List Wig.Spn) (hf : Wig.TFits ss) (hl : ss.length ≤ maxLen) (hc : ss.length ≤ c) (hf2 : Wig.SFits tt) (hl2 : tt.length ≤ maxLen) (hc2 : tt.length ≤ d) (w : World) (hr : RdT w w.heap.size A ss) (hq : RdS w w.heap.size B tt) :
    Calls Try.prog 3 #[.slice A ss.length c, .slice B tt.length d] w fun e w' => e = .returned (.bool true) ∧ Below w.heap.size w w' := by
  obtain ⟨n, hn⟩ : ∃ n, n = ss.length := ⟨_, rfl⟩
  rw [← hn] at hl hc ⊢
  have RA := Lib.hid hr
  have B0 := Lib.hid (Below.refl w.heap.size w)
  have C0 := Lib.hid (fun w => awake_any w)
  clear hr hl hc
  obtain ⟨m, hm⟩ : ∃ m, m = tt.length := ⟨_, rfl⟩
  rw [← hm] at hl2 hc2 ⊢
  have RB := Lib.hid hq
  clear hq hl2 hc2 hf2
  by_cases h1 : n ≤ 50
  · by_cases h2 : m ≤ 50
    · skip
      have CF := Lib.hid (fun A c w => few_any A n c true w (decide_eq_true h1))
      have dm : decide ((50 : Int) < (m : Int)) = false := decide_eq_false (by omega)
      have dm' : decide (50 < m) = false := decide_eq_false (by omega)
      obtain ⟨xs, hxs⟩ : ∃ xs, ss.filter (Wig.tin tt) = xs := ⟨_, rfl⟩
      obtain ⟨ys, hys⟩ : ∃ ys, (ss.filter fun x => !Wig.tin tt x) = ys := ⟨_, rfl⟩
      obtain ⟨a, ha⟩ : ∃ a, xs.length = a := ⟨_, rfl⟩
      obtain ⟨b, hb⟩ : ∃ b, ys.length = b := ⟨_, rfl⟩
      have la : a ≤ 50 := by rw [← ha, ← hxs]; exact Nat.le_trans (List.length_filter_le _ _) (by omega)
      have lb : b ≤ 50 := by rw [← hb, ← hys]; exact Nat.le_trans (List.length_filter_le _ _) (by omega)
      obtain ⟨r, hrr⟩ : ∃ r, Wig.tcheck ss = r := ⟨_, rfl⟩
      obtain ⟨f, hff⟩ : ∃ f, Wig.tflight ss = f := ⟨_, rfl⟩
      have C1 := Lib.hid (fun A B c d w h k => take_gives ss xs ys tt A B n c m d a b w hn hm (by omega) (by omega) h k hxs hys ha hb hf)
      have C2 := Lib.hid (fun A B c d w h k => rtake_gives ss xs ys tt A B n c m d a b w hn hm (by omega) (by omega) h k hxs hys ha hb)
      have C3 := Lib.hid (fun A A2 c c2 w h k => same_any xs A A2 a c c2 w ha.symm (by omega) h k)
      have C4 := Lib.hid (fun A A2 c c2 w h k => same_any ys A A2 b c c2 w hb.symm (by omega) h k)
      have C5 := Lib.hid (fun A c w h => check_any ss r A n c w hn (by omega) h hrr)
      have C6 := Lib.hid (fun A c w h => rcheck_any ss r A n c w hn (by omega) h hrr)
      have C7 := Lib.hid (fun A c w h => flight_any ss f A n c w hn (by omega) hf h hff)
      have C8 := Lib.hid (fun A c w h => rflight_any ss f A n c w hn (by omega) hf h hff)
      have tb : (r == r) = true := by simp
      clear hn hm hf h1 h2 hxs hys ha hb la lb hrr hff
      go_enter Try.func3, Try.ntmps3
      go_wp2_with fail
      refine (C0.out _).mono ?_
      rintro e x1 ⟨rfl, hb⟩
      have RA_2 := Lib.hid (RA.out.step hb)
      have RB_2 := Lib.hid (RB.out.step hb)
      have B_2 := Lib.hid (B0.out.trans (hb.mono B0.out.size))
      clear hb RA RB B0
      go_wp2_with fail
      refine (CF.out _ _ _).mono ?_
      rintro e _ ⟨rfl, rfl⟩
      go_wp2_with fail
      refine (C1.out _ _ _ _ _ RA_2.out RB_2.out).mono ?_
      rintro e x4 ⟨AX1, cX1, AY1, cY1, rfl, hra, hrb, hb⟩
      have RA_5 := Lib.hid (RA_2.out.step hb)
      have RB_5 := Lib.hid (RB_2.out.step hb)
      have B_5 := Lib.hid (B_2.out.trans (hb.mono B_2.out.size))
      have RX1 := Lib.hid hra
      have RY1 := Lib.hid hrb
      clear hb hra hrb RA_2 RB_2 B_2
      go_wp2_with fail
      refine (C2.out _ _ _ _ _ RA_5.out RB_5.out).mono ?_
      rintro e x6 ⟨AX2, cX2, AY2, cY2, rfl, hra, hrb, hb⟩
      have RA_7 := Lib.hid (RA_5.out.step hb)
      have RB_7 := Lib.hid (RB_5.out.step hb)
      have X1_7 := Lib.hid (RX1.out.step hb)
      have Y1_7 := Lib.hid (RY1.out.step hb)
      have B_7 := Lib.hid (B_5.out.trans (hb.mono B_5.out.size))
      have RX2 := Lib.hid hra
      have RY2 := Lib.hid hrb
      clear hb hra hrb RA_5 RB_5 RX1 RY1 B_5
      go_wp2_with fail
      refine (C3.out _ _ _ _ _ X1_7.out RX2.out).mono ?_
      rintro e x8 ⟨rfl, hb⟩
      have RA_9 := Lib.hid (RA_7.out.step hb)
      have RB_9 := Lib.hid (RB_7.out.step hb)
      have X1_9 := Lib.hid (X1_7.out.step hb)
      have Y1_9 := Lib.hid (Y1_7.out.step hb)
      have X2_9 := Lib.hid (RX2.out.step hb)
      have Y2_9 := Lib.hid (RY2.out.step hb)
      have B_9 := Lib.hid (B_7.out.trans (hb.mono B_7.out.size))
      clear hb RA_7 RB_7 X1_7 Y1_7 RX2 RY2 B_7
      go_wp2_with fail
      refine (C4.out _ _ _ _ _ Y1_9.out Y2_9.out).mono ?_
      rintro e x10 ⟨rfl, hb⟩
      have RA_11 := Lib.hid (RA_9.out.step hb)
      have RB_11 := Lib.hid (RB_9.out.step hb)
      have X1_11 := Lib.hid (X1_9.out.step hb)
      have Y1_11 := Lib.hid (Y1_9.out.step hb)
      have X2_11 := Lib.hid (X2_9.out.step hb)
      have Y2_11 := Lib.hid (Y2_9.out.step hb)
      have B_11 := Lib.hid (B_9.out.trans (hb.mono B_9.out.size))
      clear hb RA_9 RB_9 X1_9 Y1_9 X2_9 Y2_9 B_9
      go_wp2_with fail
      refine (C5.out _ _ _ RA_11.out).mono ?_
      rintro e x12 ⟨rfl, hb⟩
      have RA_13 := Lib.hid (RA_11.out.step hb)
      have RB_13 := Lib.hid (RB_11.out.step hb)
      have X1_13 := Lib.hid (X1_11.out.step hb)
      have Y1_13 := Lib.hid (Y1_11.out.step hb)
      have X2_13 := Lib.hid (X2_11.out.step hb)
      have Y2_13 := Lib.hid (Y2_11.out.step hb)
      have B_13 := Lib.hid (B_11.out.trans (hb.mono B_11.out.size))
      clear hb RA_11 RB_11 X1_11 Y1_11 X2_11 Y2_11 B_11
      go_wp2_with fail
      refine (C6.out _ _ _ RA_13.out).mono ?_
      rintro e x14 ⟨rfl, hb⟩
      have RA_15 := Lib.hid (RA_13.out.step hb)
      have RB_15 := Lib.hid (RB_13.out.step hb)
      have X1_15 := Lib.hid (X1_13.out.step hb)
      have Y1_15 := Lib.hid (Y1_13.out.step hb)
      have X2_15 := Lib.hid (X2_13.out.step hb)
      have Y2_15 := Lib.hid (Y2_13.out.step hb)
      have B_15 := Lib.hid (B_13.out.trans (hb.mono B_13.out.size))
      clear hb RA_13 RB_13 X1_13 Y1_13 X2_13 Y2_13 B_13
      go_wp2_with fail
      refine (C7.out _ _ _ RA_15.out).mono ?_
      rintro e x16 ⟨rfl, hb⟩
      have RA_17 := Lib.hid (RA_15.out.step hb)
      have RB_17 := Lib.hid (RB_15.out.step hb)
      have X1_17 := Lib.hid (X1_15.out.step hb)
      have Y1_17 := Lib.hid (Y1_15.out.step hb)
      have X2_17 := Lib.hid (X2_15.out.step hb)
      have Y2_17 := Lib.hid (Y2_15.out.step hb)
      have B_17 := Lib.hid (B_15.out.trans (hb.mono B_15.out.size))
      clear hb RA_15 RB_15 X1_15 Y1_15 X2_15 Y2_15 B_15
      go_wp2_with fail
      refine (C8.out _ _ _ RA_17.out).mono ?_
      rintro e x18 ⟨rfl, hb⟩
      have RA_19 := Lib.hid (RA_17.out.step hb)
      have RB_19 := Lib.hid (RB_17.out.step hb)
      have X1_19 := Lib.hid (X1_17.out.step hb)
      have Y1_19 := Lib.hid (Y1_17.out.step hb)
      have X2_19 := Lib.hid (X2_17.out.step hb)
      have Y2_19 := Lib.hid (Y2_17.out.step hb)
      have B_19 := Lib.hid (B_17.out.trans (hb.mono B_17.out.size))
      clear hb RA_17 RB_17 X1_17 Y1_17 X2_17 Y2_17 B_17
      go_wp2_with fail
      go_ret
      exact ⟨rfl, B_19.out⟩
    · skip
      have CF := Lib.hid (fun A c w => few_any A n c true w (decide_eq_true h1))
      have dm : decide ((50 : Int) < (m : Int)) = true := decide_eq_true (by omega)
      have dm' : decide (50 < m) = true := decide_eq_true (by omega)
      clear hn hf h1 h2 hm
      go_enter Try.func3, Try.ntmps3
      go_wp2_with fail
      refine (C0.out _).mono ?_
      rintro e x20 ⟨rfl, hb⟩
      have RA_21 := Lib.hid (RA.out.step hb)
      have RB_21 := Lib.hid (RB.out.step hb)
      have B_21 := Lib.hid (B0.out.trans (hb.mono B0.out.size))
      clear hb RA RB B0
      go_wp2_with fail
      refine (CF.out _ _ _).mono ?_
      rintro e _ ⟨rfl, rfl⟩
      go_wp2_with fail
      go_ret
      exact ⟨rfl, B_21.out⟩
  · skip
    have CF := Lib.hid (fun A c w => few_any A n c false w (decide_eq_false h1))
    clear hn hf h1 hm
    go_enter Try.func3, Try.ntmps3
    go_wp2_with fail
    refine (C0.out _).mono ?_
    rintro e x23 ⟨rfl, hb⟩
    have RA_24 := Lib.hid (RA.out.step hb)
    have RB_24 := Lib.hid (RB.out.step hb)
    have B_24 := Lib.hid (B0.out.trans (hb.mono B0.out.size))
    clear hb RA RB B0
    go_wp2_with fail
    refine (CF.out _ _ _).mono ?_
    rintro e _ ⟨rfl, rfl⟩
    go_wp2_with fail
    go_ret
    exact ⟨rfl, B_24.out⟩

set_option maxRecDepth 100000 in
theorem lifted (os : Os) (started : os.Started) (H : Type) (enc : TypeId × Value → H) :
    ReturnsInHanded {} Try.checked os 3 .any (Rows.ledgerTakesSpec.pre6 enc Try.prog Try.f3 Rows.ledgerTakesRow.domain false) (Rows.ledgerTakesSpec.post enc Try.prog Try.f3 false true false false) := by
  refine returnsInHanded_of_change (C := Try.checked) own started (by kernel_rfl) Try.func3
    (ChangeSpec.witness6 (enc := enc) (C := Try.checked) false ⟨#[], #[.slice none 0 0, .slice none 0 0], []⟩ 8 (by kernel_rfl) (by kernel_rfl) (by kernel_rfl) (by kernel_rfl)) ?_
  intro W base args ds gs before hval0 hW hcnd _
  have hval : ∀ (j : Nat) t v, Try.f3.params[j]? = some t → args[j]? = some v → Value.okWide Try.prog W .any base t v := hval0
  have hW' := hW
  obtain ⟨p, q, hA0, hV, rfl, hfz, hnd⟩ := hW
  have hA : DataW.TrodAll enc Try.prog W 0 (fun _ => true) true Try.f3.params.toList args.toList ds p := hA0
  obtain ⟨rfl, rfl⟩ := trodVars_none hV
  simp only [List.append_nil] at hW'
  have hlow : ∀ x ∈ p, x.block < W.heap.size := fun x hx => hW'.lt x hx
  have hA2 := hA
  rw [Try.params3] at hval hA2
  obtain ⟨v0, vs0, d0, ds0, p0, q0, hargs, rfl, rfl, h0, r0⟩ := trodAll_cons hA2
  obtain ⟨v1, vs1, d1, ds1, p1, q1, rfl, rfl, rfl, h1, r1⟩ := trodAll_cons r0
  obtain ⟨rfl, rfl, rfl⟩ := trodAll_nil r1
  obtain rfl : args = #[v0, v1] := by cases args; simp_all
  obtain ⟨A0, c0, ss0, rfl, hf0, hr0, hl0, hc0⟩ := open_sents Try.underlying22 Try.underlying37 (by kernel_rfl) (by kernel_rfl) rfl rfl rfl rfl Try.underlying29 Try.underlying4 (hval 0 22 v0 rfl rfl) h0 (fun x hx => hlow x (by simp [hx]))
  obtain ⟨A1, c1, ss1, rfl, hf1, hr1, hl1, hc1⟩ := open_spansc Try.underlying23 Try.underlying43 (by kernel_rfl) (by kernel_rfl) rfl rfl Try.underlying29 (hval 1 23 v1 rfl rfl) h1 (fun x hx => hlow x (by simp [hx]))
  refine (walk A0 c0 ss0 A1 c1 ss1 hf0 hl0 hc0 hf1 hl1 hc1 W hr0 hr1).mono fun e W' ⟨he, hg⟩ => ?_
  subst he
  exact ⟨_, rfl, law_true laid_out (by kernel_rfl) rfl Try.underlying4 (by kernel_rfl) hW' hA rfl rfl rfl hg⟩

theorem over : Rows.ledgerTakesRow.holds Try.pinned (OpenSpec.ofChange Rows.ledgerTakesSpec) :=
  OpenClaim.holds_of_wide 3 Try.f3 rfl rfl rfl rfl rfl rfl rfl ⟨rfl, rfl, rfl, rfl, rfl⟩ rfl rfl rfl rfl rfl (by kernel_rfl) Try.func3 (by kernel_rfl)
    (of_decide_eq_true (by kernel_rfl)) (by unfold Func.isWrapper; first | (rw [if_pos (by decide +kernel)]; kernel_rfl) | (rw [if_neg (by decide +kernel)]; exact ⟨rfl, rfl⟩))
    (fun os started H enc _ => lifted os started H enc)

/-- The statement. -/
theorem proved : Rows.LedgerTakesSaid := over
end Go.Proofs.Ythdhcppgpnnccaa.ledgerTakes
