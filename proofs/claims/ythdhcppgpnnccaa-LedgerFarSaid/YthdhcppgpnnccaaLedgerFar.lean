/-
  LedgerFar: of packets that rise the last three below the next one are lost by time alone, and all that are further back at once. No condition.
-/
import Derived.Test.YthdhcppgpnnccaaLedW
namespace Go.Proofs.Ythdhcppgpnnccaa.ledgerFar
open Go.ChangeShapes Go.WideShapes Go.ChangeAt Go.RowKit Go.Deep
set_option linter.unusedVariables false

def FaRel (n : Nat) (w0 : World) (i : Value) (wr : World) : Prop := ∃ k : Nat, k ≤ n ∧ i = .int .i64 (k : Int) ∧ w0 = wr

set_option maxRecDepth 20000 in
set_option maxHeartbeats 8000000 in
theorem walk (A : Option Addr) (c : Nat) (ss : List Wig.Snt) (next late : Nat) (hf : Wig.TFits ss) (hl : ss.length ≤ maxLen) (hc : ss.length ≤ c) (hnext : next < 18446744073709551616) (hlate : late < 18446744073709551616) (w : World) (hr : RdT w w.heap.size A ss) :
    Calls Try.prog 7 #[.slice A ss.length c, .int .u64 (next : Int), .int .u64 (late : Int)] w fun e w' => e = .returned (.bool true) ∧ Below w.heap.size w w' := by
  obtain ⟨n, hn⟩ : ∃ n, n = ss.length := ⟨_, rfl⟩
  rw [← hn] at hl hc ⊢
  have RA := Lib.hid hr
  have B0 := Lib.hid (Below.refl w.heap.size w)
  have C0 := Lib.hid (fun w => awake_any w)
  clear hr hl hc
  by_cases h1 : n ≤ 50
  · by_cases h2 : late ≠ 0
    · by_cases h3 : next ≤ 4611686018427387904
      · skip
        have CF := Lib.hid (fun A c w => few_any A n c true w (decide_eq_true h1))
        have d2 : ((late : Int) == 0) = false := by simp; omega
        have d3 : decide ((4611686018427387904 : Int) < (next : Int)) = false := decide_eq_false (by omega)
        have d3' : decide (4611686018427387904 < next) = false := decide_eq_false (by omega)
        obtain ⟨us, hus⟩ : ∃ us, ss.filter (Wig.tlost next 0 late) = us := ⟨_, rfl⟩
        obtain ⟨vs, hvs⟩ : ∃ vs, (ss.filter fun x => !Wig.tlost next 0 late x) = vs := ⟨_, rfl⟩
        obtain ⟨p, hp⟩ : ∃ p, us.length = p := ⟨_, rfl⟩
        obtain ⟨q, hq'⟩ : ∃ q, vs.length = q := ⟨_, rfl⟩
        obtain ⟨t, ht⟩ : ∃ t, Wig.twhen next 0 late ss = t := ⟨_, rfl⟩
        have lp : p ≤ 50 := by rw [← hp, ← hus]; exact Nat.le_trans (List.length_filter_le _ _) (by omega)
        have lq : q ≤ 50 := by rw [← hq', ← hvs]; exact Nat.le_trans (List.length_filter_le _ _) (by omega)
        have C1 := Lib.hid (fun A c w h => show Calls Try.prog 19 #[.slice A n c, .int .u64 (next : Int), .int .u64 0, .int .u64 (late : Int)] w (Parts3 w us vs p q (t : Int)) from lost_gives ss us vs next 0 late t A n c p q w hn (by omega) hf hlate h hus hvs hp hq' ht)
        have H1 := Lib.hid (show ∀ x ∈ us, x.Ok ∧ Wig.fadd x.num 4 ≤ next from fun x hx => ⟨(by rw [← hus] at hx; exact hf.filter _ x hx), (by rw [← hus] at hx; exact Wig.far_lost h2 (List.mem_filter.1 hx).2)⟩)
        have H2 := Lib.hid (show ∀ x ∈ vs, x.Ok ∧ next < Wig.fadd x.num 4 from fun x hx => ⟨(by rw [← hvs] at hx; exact hf.filter _ x hx), (by rw [← hvs] at hx; exact Wig.far_left h3 (by have := (List.mem_filter.1 hx).2; simpa using this))⟩)
        have HP := Lib.hid hp
        have HQ := Lib.hid hq'
        have HLE := Lib.hid (And.intro lp lq)
        clear hn hf h1 h2 h3 hus hvs hp hq' ht lp lq hnext hlate
        go_enter Try.func7, Try.ntmps7
        go_wp2_with fail
        refine (C0.out _).mono ?_
        rintro e x154 ⟨rfl, hb⟩
        have RA_155 := Lib.hid (RA.out.step hb)
        have B_155 := Lib.hid (B0.out.trans (hb.mono B0.out.size))
        clear hb RA B0
        go_wp2_with fail
        refine (CF.out _ _ _).mono ?_
        rintro e _ ⟨rfl, rfl⟩
        go_wp2_with fail
        refine (C1.out _ _ _ RA_155.out).mono ?_
        rintro e x157 ⟨AX1, cX1, AY1, cY1, rfl, hra, hrb, hb⟩
        have RA_158 := Lib.hid (RA_155.out.step hb)
        have B_158 := Lib.hid (B_155.out.trans (hb.mono B_155.out.size))
        have RX1 := Lib.hid hra
        have RY1 := Lib.hid hrb
        clear hb hra hrb RA_155 B_155
        go_wp2_with fail
        go_loopw [11] (fun i wr => FaRel p x157 i wr) (fun i _ => p - (intOf i).toNat)
        case atStart => exact ⟨0, Nat.zero_le _, rfl, rfl⟩
        case round =>
          obtain ⟨k, hk, rfl, rfl⟩ := hrel
          by_cases hlt : k < p
          · obtain ⟨⟨pn, pa, pz, pb⟩, hp⟩ : ∃ z, us[k]? = some z := ⟨_, List.getElem?_eq_getElem (by have := HP.out; omega)⟩
            obtain ⟨b', off, rfl, _, c0, -, -, -⟩ := RX1.out.at_ hp
            simp only [] at c0
            have i0 : (0 : Int) ≤ (k : Int) := by omega
            have i1 : (k : Int) < (p : Int) := by have := HLE.out; omega
            obtain ⟨ok, hfar⟩ := H1.out _ (List.mem_of_getElem? hp)
            obtain ⟨y, hy⟩ : ∃ y, Wig.fadd pn 4 = y := ⟨_, rfl⟩
            simp only [hy] at hfar
            have CA := Lib.hid (fun w => show Calls Try.prog 23 #[.int .u64 (pn : Int), .int .u64 4] w (fun e w' => e = .returned (.int .u64 (y : Int)) ∧ w = w') by rw [← hy]; exact radd_any pn 4 w ok.1 (by omega))
            have dd : decide (next < y) = false := decide_eq_false (by omega)
            have HK := Lib.hid hlt
            have fk : IntKind.i64.wrap ((k : Int) + 1) = (k : Int) + 1 := by have := HLE.out; rw [IntKind.wrap_i64]; omega
            clear hp hk ok hfar hy hlt
            have t1 : decide (k < p) = true := decide_eq_true HK.out
            go_wp2_with fail
            refine (CA.out _).mono ?_
            rintro e _ ⟨rfl, rfl⟩
            go_wp2_with fail
            go_roundw
            case rel => exact ⟨k + 1, by have := HK.out; omega, by simp, rfl⟩
            case measure => have := HK.out; simp [intOf]; omega
          · have t1 : decide (k < p) = false := decide_eq_false hlt
            clear hk hlt
            go_wp2_with fail
            go_loopw [12] (fun i wr => FaRel q x157 i wr) (fun i _ => q - (intOf i).toNat)
            case atStart => exact ⟨0, Nat.zero_le _, rfl, rfl⟩
            case round =>
              obtain ⟨k, hk, rfl, rfl⟩ := hrel
              by_cases hlt : k < q
              · obtain ⟨⟨pn, pa, pz, pb⟩, hp⟩ : ∃ z, vs[k]? = some z := ⟨_, List.getElem?_eq_getElem (by have := HQ.out; omega)⟩
                obtain ⟨b', off, rfl, _, c0, -, -, -⟩ := RY1.out.at_ hp
                simp only [] at c0
                have i0 : (0 : Int) ≤ (k : Int) := by omega
                have i1 : (k : Int) < (q : Int) := by have := HLE.out; omega
                obtain ⟨ok, hfar⟩ := H2.out _ (List.mem_of_getElem? hp)
                obtain ⟨y, hy⟩ : ∃ y, Wig.fadd pn 4 = y := ⟨_, rfl⟩
                simp only [hy] at hfar
                have CA := Lib.hid (fun w => show Calls Try.prog 23 #[.int .u64 (pn : Int), .int .u64 4] w (fun e w' => e = .returned (.int .u64 (y : Int)) ∧ w = w') by rw [← hy]; exact radd_any pn 4 w ok.1 (by omega))
                have dd : decide (y ≤ next) = false := decide_eq_false (by omega)
                have HK := Lib.hid hlt
                have fk : IntKind.i64.wrap ((k : Int) + 1) = (k : Int) + 1 := by have := HLE.out; rw [IntKind.wrap_i64]; omega
                clear hp hk ok hfar hy hlt
                have t1 : decide (k < q) = true := decide_eq_true HK.out
                go_wp2_with fail
                refine (CA.out _).mono ?_
                rintro e _ ⟨rfl, rfl⟩
                go_wp2_with fail
                go_roundw
                case rel => exact ⟨k + 1, by have := HK.out; omega, by simp, rfl⟩
                case measure => have := HK.out; simp [intOf]; omega
              · have t1 : decide (k < q) = false := decide_eq_false hlt
                clear hk hlt
                go_wp2_with fail
                go_ret
                exact ⟨rfl, B_158.out⟩
      · skip
        have CF := Lib.hid (fun A c w => few_any A n c true w (decide_eq_true h1))
        have d2 : ((late : Int) == 0) = false := by simp; omega
        have d3 : decide ((4611686018427387904 : Int) < (next : Int)) = true := decide_eq_true (by omega)
        have d3' : decide (4611686018427387904 < next) = true := decide_eq_true (by omega)
        clear hn hf h1 h2 h3 hnext hlate
        go_enter Try.func7, Try.ntmps7
        go_wp2_with fail
        refine (C0.out _).mono ?_
        rintro e x159 ⟨rfl, hb⟩
        have RA_160 := Lib.hid (RA.out.step hb)
        have B_160 := Lib.hid (B0.out.trans (hb.mono B0.out.size))
        clear hb RA B0
        go_wp2_with fail
        refine (CF.out _ _ _).mono ?_
        rintro e _ ⟨rfl, rfl⟩
        go_wp2_with fail
        go_ret
        exact ⟨rfl, B_160.out⟩
    · obtain rfl : late = 0 := by omega
      have CF := Lib.hid (fun A c w => few_any A n c true w (decide_eq_true h1))
      clear hn hf h1 h2 hnext hlate
      go_enter Try.func7, Try.ntmps7
      go_wp2_with fail
      refine (C0.out _).mono ?_
      rintro e x162 ⟨rfl, hb⟩
      have RA_163 := Lib.hid (RA.out.step hb)
      have B_163 := Lib.hid (B0.out.trans (hb.mono B0.out.size))
      clear hb RA B0
      go_wp2_with fail
      refine (CF.out _ _ _).mono ?_
      rintro e _ ⟨rfl, rfl⟩
      go_wp2_with fail
      go_ret
      exact ⟨rfl, B_163.out⟩
  · skip
    have CF := Lib.hid (fun A c w => few_any A n c false w (decide_eq_false h1))
    clear hn hf h1 hnext hlate
    go_enter Try.func7, Try.ntmps7
    go_wp2_with fail
    refine (C0.out _).mono ?_
    rintro e x165 ⟨rfl, hb⟩
    have RA_166 := Lib.hid (RA.out.step hb)
    have B_166 := Lib.hid (B0.out.trans (hb.mono B0.out.size))
    clear hb RA B0
    go_wp2_with fail
    refine (CF.out _ _ _).mono ?_
    rintro e _ ⟨rfl, rfl⟩
    go_wp2_with fail
    go_ret
    exact ⟨rfl, B_166.out⟩

set_option maxRecDepth 100000 in
theorem lifted (os : Os) (started : os.Started) (H : Type) (enc : TypeId × Value → H) :
    ReturnsInHanded {} Try.checked os 7 .any (Rows.ledgerFarSpec.pre6 enc Try.prog Try.f7 Rows.ledgerFarRow.domain false) (Rows.ledgerFarSpec.post enc Try.prog Try.f7 false true false false) := by
  refine returnsInHanded_of_change (C := Try.checked) own started (by kernel_rfl) Try.func7
    (ChangeSpec.witness6 (enc := enc) (C := Try.checked) false ⟨#[], #[.slice none 0 0, .int .u64 0, .int .u64 0], []⟩ 8 (by kernel_rfl) (by kernel_rfl) (by kernel_rfl) (by kernel_rfl)) ?_
  intro W base args ds gs before hval0 hW hcnd _
  have hval : ∀ (j : Nat) t v, Try.f7.params[j]? = some t → args[j]? = some v → Value.okWide Try.prog W .any base t v := hval0
  have hW' := hW
  obtain ⟨p, q, hA0, hV, rfl, hfz, hnd⟩ := hW
  have hA : DataW.TrodAll enc Try.prog W 0 (fun _ => true) true Try.f7.params.toList args.toList ds p := hA0
  obtain ⟨rfl, rfl⟩ := trodVars_none hV
  simp only [List.append_nil] at hW'
  have hlow : ∀ x ∈ p, x.block < W.heap.size := fun x hx => hW'.lt x hx
  have hA2 := hA
  rw [Try.params7] at hval hA2
  obtain ⟨v0, vs0, d0, ds0, p0, q0, hargs, rfl, rfl, h0, r0⟩ := trodAll_cons hA2
  obtain ⟨v1, vs1, d1, ds1, p1, q1, rfl, rfl, rfl, h1, r1⟩ := trodAll_cons r0
  obtain ⟨v2, vs2, d2, ds2, p2, q2, rfl, rfl, rfl, h2, r2⟩ := trodAll_cons r1
  obtain ⟨rfl, rfl, rfl⟩ := trodAll_nil r2
  obtain rfl : args = #[v0, v1, v2] := by cases args; simp_all
  obtain ⟨A0, c0, ss0, rfl, hf0, hr0, hl0, hc0⟩ := open_sents Try.underlying22 Try.underlying37 (by kernel_rfl) (by kernel_rfl) rfl rfl rfl rfl Try.underlying29 Try.underlying4 (hval 0 22 v0 rfl rfl) h0 (fun x hx => hlow x (by simp [hx]))
  obtain ⟨n1, rfl, hn1⟩ := open_u64 Try.underlying29 (hval 1 29 v1 rfl rfl) h1
  obtain ⟨n2, rfl, hn2⟩ := open_u64 Try.underlying29 (hval 2 29 v2 rfl rfl) h2
  refine (walk A0 c0 ss0 n1 n2 hf0 hl0 hc0 hn1 hn2 W hr0).mono fun e W' ⟨he, hg⟩ => ?_
  subst he
  exact ⟨_, rfl, law_true laid_out (by kernel_rfl) rfl Try.underlying4 (by kernel_rfl) hW' hA rfl rfl rfl hg⟩

theorem over : Rows.ledgerFarRow.holds Try.pinned (OpenSpec.ofChange Rows.ledgerFarSpec) :=
  OpenClaim.holds_of_wide 7 Try.f7 rfl rfl rfl rfl rfl rfl rfl ⟨rfl, rfl, rfl, rfl, rfl⟩ rfl rfl rfl rfl rfl (by kernel_rfl) Try.func7 (by kernel_rfl)
    (of_decide_eq_true (by kernel_rfl)) (by unfold Func.isWrapper; first | (rw [if_pos (by decide +kernel)]; kernel_rfl) | (rw [if_neg (by decide +kernel)]; exact ⟨rfl, rfl⟩))
    (fun os started H enc _ => lifted os started H enc)

/-- The statement. -/
theorem proved : Rows.LedgerFarSaid := over
end Go.Proofs.Ythdhcppgpnnccaa.ledgerFar
