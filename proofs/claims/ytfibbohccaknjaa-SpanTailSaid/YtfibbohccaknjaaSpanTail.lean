/-
  SpanTail: the last spans of any set of at most fifty spans of its own are the end of the set, no more than asked, and what both have in common are just they. No condition.
-/
import Derived.Test.YtfibbohccaknjaaSpW
namespace Go.Proofs.Ytfibbohccaknjaa.spanTail
open Go.ChangeShapes Go.WideShapes Go.ChangeAt Go.RowKit Go.Deep
set_option linter.unusedVariables false

theorem sboth_last {ss : List Wig.Spn} {q : Nat} (oa : Wig.SOwn ss) : Wig.sboth ss (Wig.slast ss q) = Wig.slast ss q :=
  Wig.own_unique (Wig.sboth_own oa (Wig.slast_own oa)) (Wig.slast_own oa) fun n => by
    rw [Wig.sboth_has]
    cases h : Wig.shas (Wig.slast ss q) n with
    | false => rw [Bool.and_false]
    | true =>
      obtain ⟨p, hp, h1, h2⟩ := Wig.has_iff.1 h
      rw [Bool.and_true]
      exact Wig.has_iff.2 ⟨p, List.mem_of_mem_drop hp, h1, h2⟩
set_option maxHeartbeats 8000000 in
theorem walk (A : Option Addr) (c : Nat) (ss : List Wig.Spn) (k : Int) (hf : Wig.SFits ss) (hl : ss.length ≤ maxLen) (hc : ss.length ≤ c)
    (hk0 : -9223372036854775808 ≤ k) (hk1 : k ≤ 9223372036854775807) (w : World) (hr : RdS w w.heap.size A ss) :
    Calls Try.prog 9 #[.slice A ss.length c, .int .i64 k] w fun e w' => e = .returned (.bool true) ∧ Below w.heap.size w w' := by
  have B0 := Lib.hid (Below.refl w.heap.size w)
  obtain ⟨n, hn⟩ : ∃ n, n = ss.length := ⟨_, rfl⟩
  rw [← hn] at hl hc ⊢
  have RA := Lib.hid hr
  have C0 := Lib.hid (fun w => awake_any w)
  clear hr hl
  by_cases h1 : n ≤ 50
  · have CF := Lib.hid (fun A c w => few_any A n c true w (decide_eq_true h1))
    obtain ⟨ra, hra⟩ : ∃ ra, Wig.sown ss = ra := ⟨_, rfl⟩
    have K1 := Lib.hid (fun A c w h => check_any ss ra A n c w hn (by omega) h hra)
    cases ra with
    | false =>
      clear hn hc hf hk0 hk1 h1 hra
      go_enter Try.func9, Try.ntmps9
      go_wp2_with fail
      refine (C0.out _).mono ?_
      rintro e x324 ⟨rfl, hb⟩
      have RA_325 := Lib.hid (RA.out.step hb)
      have B_325 := Lib.hid (B0.out.trans (hb.mono B0.out.size))
      clear hb RA B0
      go_wp2_with fail
      refine (CF.out _ _ _).mono ?_
      rintro e _ ⟨rfl, rfl⟩
      go_wp2_with fail
      refine (K1.out _ _ _ RA_325.out).mono ?_
      rintro e x327 ⟨rfl, hb⟩
      have RA_328 := Lib.hid (RA_325.out.step hb)
      have B_328 := Lib.hid (B_325.out.trans (hb.mono B_325.out.size))
      clear hb RA_325 B_325
      go_wp2_with fail
      go_ret
      exact ⟨rfl, B_328.out⟩
    | true =>
      have oa := Wig.sown_iff.1 hra
      obtain ⟨q, hq⟩ : ∃ q, q = Wig.scnt k n := ⟨_, rfl⟩
      have hqn : q ≤ n := by rw [hq]; exact Wig.scnt_le k n
      obtain ⟨r, hr⟩ : ∃ r, r = Wig.slast ss (Wig.scnt k n) := ⟨_, rfl⟩
      have hrq : r.length = q := by rw [hr, ← hq]; unfold Wig.slast; rw [List.length_drop]; omega
      obtain ⟨f, hfq⟩ : ∃ f, f = n - q := ⟨_, rfl⟩
      have hrd : r = ss.drop f := by rw [hr, ← hq, hfq]; unfold Wig.slast; rw [hn]
      obtain ⟨cf, hcf⟩ : ∃ cf, cf = c - f := ⟨_, rfl⟩
      obtain ⟨z, hz⟩ : ∃ z, z = Wig.ssum r := ⟨_, rfl⟩
      have or_ : Wig.SOwn r := by rw [hr]; exact Wig.slast_own oa
      have fr : Wig.SFits r := by rw [hr]; exact Wig.slast_fits hf
      have hbb : Wig.sboth ss r = r := by rw [hr]; exact sboth_last oa
      have L1 := Lib.hid (fun w h => last_gives ss r k n q A c w hk0 hk1 hn hrq (by omega) h hc hr.symm)
      have S1 := Lib.hid (fun A B c d w h k => same_any r A B q c d w hrq.symm (by omega) h k)
      have CR := Lib.hid (fun A c w h => check_any r true A q c w hrq.symm (by omega) h (Wig.sown_iff.2 or_))
      have F1 := Lib.hid (fun w B d h k hd => both_gives ss r r n q q A B c d w hn hrq.symm hrq (by omega) (by omega) hc hd h k oa or_ hbb)
      have Z1 := Lib.hid (fun A c w h => size_any r z A q c w hrq.symm (by omega) h or_ fr hz.symm)
      have tz : ((z : Int) == (z : Int)) = true := by simp
      have G := Lib.hid (show f ≤ n ∧ q = n - f ∧ cf = c - f from ⟨by omega, by omega, hcf⟩)
      have HC := Lib.hid hc
      have HN := Lib.hid hn
      have HRQ := Lib.hid (And.intro hrq hrd)
      have HQ := Lib.hid (show q ≤ 50 by omega)
      have g1 : IntKind.i64.wrap ((n : Int) - (q : Int)) = (f : Int) := by rw [IntKind.wrap_i64]; omega
      have g2 : (n : Int) - (q : Int) = (f : Int) := by omega
      have g3 : IntKind.i64.wrap (f : Int) = (f : Int) := by rw [IntKind.wrap_i64]; omega
      have d0 : decide (n < q) = false := decide_eq_false (by omega)
      have d0' : decide ((n : Int) < (q : Int)) = false := decide_eq_false (by omega)
      obtain ⟨mx, hmx⟩ : ∃ mx, mx = max k 0 := ⟨_, rfl⟩
      have e0 : (if k < 0 then 0 else k) = mx := by split <;> omega
      have hscnt : q = (max 0 (min k (n : Int))).toNat := hq
      have d1 : decide (mx < (q : Int)) = false := decide_eq_false (by omega)
      by_cases p1 : k < 0
      · have d2 : decide ((n : Int) ≤ k) = false := decide_eq_false (by omega)
        have d3 : decide (0 ≤ k) = false := decide_eq_false (by omega)
        clear hn hc hf hk0 hk1 h1 hra oa hq hqn hr hrq hfq hrd hcf hz or_ fr hbb hmx hscnt p1
        go_enter Try.func9, Try.ntmps9
        go_wp2_with fail
        refine (C0.out _).mono ?_
        rintro e x329 ⟨rfl, hb⟩
        have RA_330 := Lib.hid (RA.out.step hb)
        have B_330 := Lib.hid (B0.out.trans (hb.mono B0.out.size))
        clear hb RA B0
        go_wp2_with fail
        refine (CF.out _ _ _).mono ?_
        rintro e _ ⟨rfl, rfl⟩
        go_wp2_with fail
        refine (K1.out _ _ _ RA_330.out).mono ?_
        rintro e x332 ⟨rfl, hb⟩
        have RA_333 := Lib.hid (RA_330.out.step hb)
        have B_333 := Lib.hid (B_330.out.trans (hb.mono B_330.out.size))
        clear hb RA_330 B_330
        go_wp2_with fail
        refine (L1.out _ RA_333.out).mono ?_
        rintro e x334 ⟨At, ct, rfl, hc, hr, hb, ho⟩
        have RA_335 := Lib.hid (RA_333.out.step hb)
        have B_335 := Lib.hid (B_333.out.trans (hb.mono B_333.out.size))
        have Rt := Lib.hid hr
        have HCt := Lib.hid hc
        have HOt := Lib.hid ho
        clear hr hc ho
        clear hb RA_333 B_333
        have RL := Lib.hid (show RdS (x334.alloc (.cells #[] 25)) (x334.alloc (.cells #[] 25)).heap.size (slA A c f) (ss.drop f) from rlast_tail ss q f cf A c x334 RA_335.out (by have := HC.out; have := HN.out; omega) (by have := G.out; have := HN.out; omega))
        have HL := Lib.hid (show (ss.drop f).length = q by rw [← HRQ.out.2]; exact HRQ.out.1)
        have SZ := Lib.hid (show x334.heap.size ≤ (x334.alloc (.cells #[] 25)).heap.size by simp)
        go_wp2_with (first
          | (refine wpList_run rfl (run_sl_l rfl rfl rfl G.out.1 q cf G.out.2.1 G.out.2.2) ?_)
          | (at_builtin; refine wpList_append_spans rfl _ _ rfl x334.heap.size _ [] (ss.drop f) rfl (own_lit0 x334) _ (slA A c f) cf q HL.out rfl RL.out (by have := HQ.out; simp; omega) SZ.out ?_))
        intro vm wm hm1 hm2
        have hb : Below x334.heap.size x334 wm := ((Below.refl _ _).alloc (Nat.le_refl _) _).grown hm2 SZ.out (fun q hq => by simp [Value.ownBlock] at hq; omega)
        have hown : OwnS wm x334.heap.size vm (ss.drop f) := hm1
        obtain ⟨Am, cm, hv, -, hrm, -⟩ := hown.rd
        rw [HL.out] at hv
        rw [← HRQ.out.2] at hrm
        subst hv
        have RM := Lib.hid hrm
        have RA_336 := Lib.hid (RA_335.out.step hb)
        have t_336 := Lib.hid (Rt.out.step hb)
        have B_336 := Lib.hid (B_335.out.trans (hb.mono B_335.out.size))
        clear hb hm1 hm2 hown hrm RL HL SZ RA_335 Rt B_335
        go_wp2_with fail
        refine (S1.out _ _ _ _ _ t_336.out RM.out).mono ?_
        rintro e x337 ⟨rfl, hb⟩
        have RA_338 := Lib.hid (RA_336.out.step hb)
        have t_338 := Lib.hid (t_336.out.step hb)
        have m_338 := Lib.hid (RM.out.step hb)
        have B_338 := Lib.hid (B_336.out.trans (hb.mono B_336.out.size))
        clear hb RA_336 t_336 RM B_336
        go_wp2_with fail
        refine (CR.out _ _ _ t_338.out).mono ?_
        rintro e x339 ⟨rfl, hb⟩
        have RA_340 := Lib.hid (RA_338.out.step hb)
        have t_340 := Lib.hid (t_338.out.step hb)
        have B_340 := Lib.hid (B_338.out.trans (hb.mono B_338.out.size))
        clear hb RA_338 t_338 B_338
        go_wp2_with fail
        refine (F1.out _ _ _ RA_340.out t_340.out HCt.out).mono ?_
        rintro e x341 ⟨Ab, cb, rfl, hc, hr, hb, ho⟩
        have RA_342 := Lib.hid (RA_340.out.step hb)
        have t_342 := Lib.hid (t_340.out.step hb)
        have B_342 := Lib.hid (B_340.out.trans (hb.mono B_340.out.size))
        have Rb := Lib.hid hr
        have HCb := Lib.hid hc
        have HOb := Lib.hid ho
        clear hr hc ho
        clear hb RA_340 t_340 B_340
        go_wp2_with fail
        refine (Z1.out _ _ _ Rb.out).mono ?_
        rintro e x343 ⟨rfl, hb⟩
        have RA_344 := Lib.hid (RA_342.out.step hb)
        have t_344 := Lib.hid (t_342.out.step hb)
        have b_344 := Lib.hid (Rb.out.step hb)
        have B_344 := Lib.hid (B_342.out.trans (hb.mono B_342.out.size))
        clear hb RA_342 t_342 Rb B_342
        go_wp2_with fail
        refine (Z1.out _ _ _ t_344.out).mono ?_
        rintro e x345 ⟨rfl, hb⟩
        have RA_346 := Lib.hid (RA_344.out.step hb)
        have t_346 := Lib.hid (t_344.out.step hb)
        have B_346 := Lib.hid (B_344.out.trans (hb.mono B_344.out.size))
        clear hb RA_344 t_344 B_344
        go_wp2_with fail
        go_ret
        exact ⟨rfl, B_346.out⟩
      · by_cases p2 : k < (n : Int)
        · have d2 : decide ((n : Int) ≤ k) = false := decide_eq_false (by omega)
          have d3 : decide (0 ≤ k) = true := decide_eq_true (by omega)
          have d4 : decide (k < (n : Int)) = true := decide_eq_true (by omega)
          have d5 : ((q : Int) != k) = false := by simp; omega
          clear hn hc hf hk0 hk1 h1 hra oa hq hqn hr hrq hfq hrd hcf hz or_ fr hbb hmx hscnt p1 p2
          go_enter Try.func9, Try.ntmps9
          go_wp2_with fail
          refine (C0.out _).mono ?_
          rintro e x347 ⟨rfl, hb⟩
          have RA_348 := Lib.hid (RA.out.step hb)
          have B_348 := Lib.hid (B0.out.trans (hb.mono B0.out.size))
          clear hb RA B0
          go_wp2_with fail
          refine (CF.out _ _ _).mono ?_
          rintro e _ ⟨rfl, rfl⟩
          go_wp2_with fail
          refine (K1.out _ _ _ RA_348.out).mono ?_
          rintro e x350 ⟨rfl, hb⟩
          have RA_351 := Lib.hid (RA_348.out.step hb)
          have B_351 := Lib.hid (B_348.out.trans (hb.mono B_348.out.size))
          clear hb RA_348 B_348
          go_wp2_with fail
          refine (L1.out _ RA_351.out).mono ?_
          rintro e x352 ⟨At, ct, rfl, hc, hr, hb, ho⟩
          have RA_353 := Lib.hid (RA_351.out.step hb)
          have B_353 := Lib.hid (B_351.out.trans (hb.mono B_351.out.size))
          have Rt := Lib.hid hr
          have HCt := Lib.hid hc
          have HOt := Lib.hid ho
          clear hr hc ho
          clear hb RA_351 B_351
          have RL := Lib.hid (show RdS (x352.alloc (.cells #[] 25)) (x352.alloc (.cells #[] 25)).heap.size (slA A c f) (ss.drop f) from rlast_tail ss q f cf A c x352 RA_353.out (by have := HC.out; have := HN.out; omega) (by have := G.out; have := HN.out; omega))
          have HL := Lib.hid (show (ss.drop f).length = q by rw [← HRQ.out.2]; exact HRQ.out.1)
          have SZ := Lib.hid (show x352.heap.size ≤ (x352.alloc (.cells #[] 25)).heap.size by simp)
          go_wp2_with (first
            | (refine wpList_run rfl (run_sl_l rfl rfl rfl G.out.1 q cf G.out.2.1 G.out.2.2) ?_)
            | (at_builtin; refine wpList_append_spans rfl _ _ rfl x352.heap.size _ [] (ss.drop f) rfl (own_lit0 x352) _ (slA A c f) cf q HL.out rfl RL.out (by have := HQ.out; simp; omega) SZ.out ?_))
          intro vm wm hm1 hm2
          have hb : Below x352.heap.size x352 wm := ((Below.refl _ _).alloc (Nat.le_refl _) _).grown hm2 SZ.out (fun q hq => by simp [Value.ownBlock] at hq; omega)
          have hown : OwnS wm x352.heap.size vm (ss.drop f) := hm1
          obtain ⟨Am, cm, hv, -, hrm, -⟩ := hown.rd
          rw [HL.out] at hv
          rw [← HRQ.out.2] at hrm
          subst hv
          have RM := Lib.hid hrm
          have RA_354 := Lib.hid (RA_353.out.step hb)
          have t_354 := Lib.hid (Rt.out.step hb)
          have B_354 := Lib.hid (B_353.out.trans (hb.mono B_353.out.size))
          clear hb hm1 hm2 hown hrm RL HL SZ RA_353 Rt B_353
          go_wp2_with fail
          refine (S1.out _ _ _ _ _ t_354.out RM.out).mono ?_
          rintro e x355 ⟨rfl, hb⟩
          have RA_356 := Lib.hid (RA_354.out.step hb)
          have t_356 := Lib.hid (t_354.out.step hb)
          have m_356 := Lib.hid (RM.out.step hb)
          have B_356 := Lib.hid (B_354.out.trans (hb.mono B_354.out.size))
          clear hb RA_354 t_354 RM B_354
          go_wp2_with fail
          refine (CR.out _ _ _ t_356.out).mono ?_
          rintro e x357 ⟨rfl, hb⟩
          have RA_358 := Lib.hid (RA_356.out.step hb)
          have t_358 := Lib.hid (t_356.out.step hb)
          have B_358 := Lib.hid (B_356.out.trans (hb.mono B_356.out.size))
          clear hb RA_356 t_356 B_356
          go_wp2_with fail
          refine (F1.out _ _ _ RA_358.out t_358.out HCt.out).mono ?_
          rintro e x359 ⟨Ab, cb, rfl, hc, hr, hb, ho⟩
          have RA_360 := Lib.hid (RA_358.out.step hb)
          have t_360 := Lib.hid (t_358.out.step hb)
          have B_360 := Lib.hid (B_358.out.trans (hb.mono B_358.out.size))
          have Rb := Lib.hid hr
          have HCb := Lib.hid hc
          have HOb := Lib.hid ho
          clear hr hc ho
          clear hb RA_358 t_358 B_358
          go_wp2_with fail
          refine (Z1.out _ _ _ Rb.out).mono ?_
          rintro e x361 ⟨rfl, hb⟩
          have RA_362 := Lib.hid (RA_360.out.step hb)
          have t_362 := Lib.hid (t_360.out.step hb)
          have b_362 := Lib.hid (Rb.out.step hb)
          have B_362 := Lib.hid (B_360.out.trans (hb.mono B_360.out.size))
          clear hb RA_360 t_360 Rb B_360
          go_wp2_with fail
          refine (Z1.out _ _ _ t_362.out).mono ?_
          rintro e x363 ⟨rfl, hb⟩
          have RA_364 := Lib.hid (RA_362.out.step hb)
          have t_364 := Lib.hid (t_362.out.step hb)
          have B_364 := Lib.hid (B_362.out.trans (hb.mono B_362.out.size))
          clear hb RA_362 t_362 B_362
          go_wp2_with fail
          go_ret
          exact ⟨rfl, B_364.out⟩
        · have d2 : decide ((n : Int) ≤ k) = true := decide_eq_true (by omega)
          have d3 : decide (0 ≤ k) = true := decide_eq_true (by omega)
          have d4 : decide (k < (n : Int)) = false := decide_eq_false (by omega)
          have d5 : ((q : Int) != (n : Int)) = false := by simp; omega
          clear hn hc hf hk0 hk1 h1 hra oa hq hqn hr hrq hfq hrd hcf hz or_ fr hbb hmx hscnt p1 p2
          go_enter Try.func9, Try.ntmps9
          go_wp2_with fail
          refine (C0.out _).mono ?_
          rintro e x365 ⟨rfl, hb⟩
          have RA_366 := Lib.hid (RA.out.step hb)
          have B_366 := Lib.hid (B0.out.trans (hb.mono B0.out.size))
          clear hb RA B0
          go_wp2_with fail
          refine (CF.out _ _ _).mono ?_
          rintro e _ ⟨rfl, rfl⟩
          go_wp2_with fail
          refine (K1.out _ _ _ RA_366.out).mono ?_
          rintro e x368 ⟨rfl, hb⟩
          have RA_369 := Lib.hid (RA_366.out.step hb)
          have B_369 := Lib.hid (B_366.out.trans (hb.mono B_366.out.size))
          clear hb RA_366 B_366
          go_wp2_with fail
          refine (L1.out _ RA_369.out).mono ?_
          rintro e x370 ⟨At, ct, rfl, hc, hr, hb, ho⟩
          have RA_371 := Lib.hid (RA_369.out.step hb)
          have B_371 := Lib.hid (B_369.out.trans (hb.mono B_369.out.size))
          have Rt := Lib.hid hr
          have HCt := Lib.hid hc
          have HOt := Lib.hid ho
          clear hr hc ho
          clear hb RA_369 B_369
          have RL := Lib.hid (show RdS (x370.alloc (.cells #[] 25)) (x370.alloc (.cells #[] 25)).heap.size (slA A c f) (ss.drop f) from rlast_tail ss q f cf A c x370 RA_371.out (by have := HC.out; have := HN.out; omega) (by have := G.out; have := HN.out; omega))
          have HL := Lib.hid (show (ss.drop f).length = q by rw [← HRQ.out.2]; exact HRQ.out.1)
          have SZ := Lib.hid (show x370.heap.size ≤ (x370.alloc (.cells #[] 25)).heap.size by simp)
          go_wp2_with (first
            | (refine wpList_run rfl (run_sl_l rfl rfl rfl G.out.1 q cf G.out.2.1 G.out.2.2) ?_)
            | (at_builtin; refine wpList_append_spans rfl _ _ rfl x370.heap.size _ [] (ss.drop f) rfl (own_lit0 x370) _ (slA A c f) cf q HL.out rfl RL.out (by have := HQ.out; simp; omega) SZ.out ?_))
          intro vm wm hm1 hm2
          have hb : Below x370.heap.size x370 wm := ((Below.refl _ _).alloc (Nat.le_refl _) _).grown hm2 SZ.out (fun q hq => by simp [Value.ownBlock] at hq; omega)
          have hown : OwnS wm x370.heap.size vm (ss.drop f) := hm1
          obtain ⟨Am, cm, hv, -, hrm, -⟩ := hown.rd
          rw [HL.out] at hv
          rw [← HRQ.out.2] at hrm
          subst hv
          have RM := Lib.hid hrm
          have RA_372 := Lib.hid (RA_371.out.step hb)
          have t_372 := Lib.hid (Rt.out.step hb)
          have B_372 := Lib.hid (B_371.out.trans (hb.mono B_371.out.size))
          clear hb hm1 hm2 hown hrm RL HL SZ RA_371 Rt B_371
          go_wp2_with fail
          refine (S1.out _ _ _ _ _ t_372.out RM.out).mono ?_
          rintro e x373 ⟨rfl, hb⟩
          have RA_374 := Lib.hid (RA_372.out.step hb)
          have t_374 := Lib.hid (t_372.out.step hb)
          have m_374 := Lib.hid (RM.out.step hb)
          have B_374 := Lib.hid (B_372.out.trans (hb.mono B_372.out.size))
          clear hb RA_372 t_372 RM B_372
          go_wp2_with fail
          refine (CR.out _ _ _ t_374.out).mono ?_
          rintro e x375 ⟨rfl, hb⟩
          have RA_376 := Lib.hid (RA_374.out.step hb)
          have t_376 := Lib.hid (t_374.out.step hb)
          have B_376 := Lib.hid (B_374.out.trans (hb.mono B_374.out.size))
          clear hb RA_374 t_374 B_374
          go_wp2_with fail
          refine (F1.out _ _ _ RA_376.out t_376.out HCt.out).mono ?_
          rintro e x377 ⟨Ab, cb, rfl, hc, hr, hb, ho⟩
          have RA_378 := Lib.hid (RA_376.out.step hb)
          have t_378 := Lib.hid (t_376.out.step hb)
          have B_378 := Lib.hid (B_376.out.trans (hb.mono B_376.out.size))
          have Rb := Lib.hid hr
          have HCb := Lib.hid hc
          have HOb := Lib.hid ho
          clear hr hc ho
          clear hb RA_376 t_376 B_376
          go_wp2_with fail
          refine (Z1.out _ _ _ Rb.out).mono ?_
          rintro e x379 ⟨rfl, hb⟩
          have RA_380 := Lib.hid (RA_378.out.step hb)
          have t_380 := Lib.hid (t_378.out.step hb)
          have b_380 := Lib.hid (Rb.out.step hb)
          have B_380 := Lib.hid (B_378.out.trans (hb.mono B_378.out.size))
          clear hb RA_378 t_378 Rb B_378
          go_wp2_with fail
          refine (Z1.out _ _ _ t_380.out).mono ?_
          rintro e x381 ⟨rfl, hb⟩
          have RA_382 := Lib.hid (RA_380.out.step hb)
          have t_382 := Lib.hid (t_380.out.step hb)
          have B_382 := Lib.hid (B_380.out.trans (hb.mono B_380.out.size))
          clear hb RA_380 t_380 B_380
          go_wp2_with fail
          go_ret
          exact ⟨rfl, B_382.out⟩
  · have CF := Lib.hid (fun A c w => few_any A n c false w (decide_eq_false h1))
    clear hn hc hf hk0 hk1 h1
    go_enter Try.func9, Try.ntmps9
    go_wp2_with fail
    refine (C0.out _).mono ?_
    rintro e x383 ⟨rfl, hb⟩
    have RA_384 := Lib.hid (RA.out.step hb)
    have B_384 := Lib.hid (B0.out.trans (hb.mono B0.out.size))
    clear hb RA B0
    go_wp2_with fail
    refine (CF.out _ _ _).mono ?_
    rintro e _ ⟨rfl, rfl⟩
    go_wp2_with fail
    go_ret
    exact ⟨rfl, B_384.out⟩

set_option maxRecDepth 100000 in
theorem lifted (os : Os) (started : os.Started) (H : Type) (enc : TypeId × Value → H) :
    ReturnsInHanded {} Try.checked os 9 .any (Rows.spanTailSpec.pre6 enc Try.prog Try.f9 Rows.spanTailRow.domain false) (Rows.spanTailSpec.post enc Try.prog Try.f9 false true false false) := by
  refine returnsInHanded_of_change (C := Try.checked) own started (by kernel_rfl) Try.func9
    (ChangeSpec.witness6 (enc := enc) (C := Try.checked) false ⟨#[], #[.slice none 0 0, .int .i64 0], []⟩ 8 (by kernel_rfl) (by kernel_rfl) (by kernel_rfl) (by kernel_rfl)) ?_
  intro W base args ds gs before hval0 hW hcnd _
  have hval : ∀ (j : Nat) t v, Try.f9.params[j]? = some t → args[j]? = some v → Value.okWide Try.prog W .any base t v := hval0
  have hW' := hW
  obtain ⟨p, q, hA0, hV, rfl, hfz, hnd⟩ := hW
  have hA : DataW.TrodAll enc Try.prog W 0 (fun _ => true) true Try.f9.params.toList args.toList ds p := hA0
  obtain ⟨rfl, rfl⟩ := trodVars_none hV
  simp only [List.append_nil] at hW'
  have hlow : ∀ x ∈ p, x.block < W.heap.size := fun x hx => hW'.lt x hx
  have hA2 := hA
  rw [Try.params9] at hval hA2
  obtain ⟨v0, vs0, d0, ds0, p0, q0, hargs, rfl, rfl, h0, r0⟩ := trodAll_cons hA2
  obtain ⟨v1, vs1, d1, ds1, p1, q1, rfl, rfl, rfl, h1, r1⟩ := trodAll_cons r0
  obtain ⟨rfl, rfl, rfl⟩ := trodAll_nil r1
  obtain rfl : args = #[v0, v1] := by cases args; simp_all
  obtain ⟨A0, c0, ss0, rfl, hf0, hr0, hl0, hc0⟩ := open_spansc Try.underlying22 Try.underlying25 (by kernel_rfl) (by kernel_rfl) rfl rfl Try.underlying23 (hval 0 22 v0 rfl rfl) h0 (fun x hx => hlow x (by simp [hx]))
  obtain ⟨i1, rfl, hi1, hj1⟩ := open_i64 Try.underlying3 (hval 1 3 v1 rfl rfl) h1
  refine (walk A0 c0 ss0 i1 hf0 hl0 hc0 hi1 hj1 W hr0).mono fun e W' ⟨he, hg⟩ => ?_
  subst he
  exact ⟨_, rfl, law_true laid_out (by kernel_rfl) rfl Try.underlying4 (by kernel_rfl) hW' hA rfl rfl rfl hg⟩

theorem over : Rows.spanTailRow.holds Try.pinned (OpenSpec.ofChange Rows.spanTailSpec) :=
  OpenClaim.holds_of_wide 9 Try.f9 rfl rfl rfl rfl rfl rfl rfl ⟨rfl, rfl, rfl, rfl, rfl⟩ rfl rfl rfl rfl rfl (by kernel_rfl) Try.func9 (by kernel_rfl)
    (of_decide_eq_true (by kernel_rfl)) (by unfold Func.isWrapper; first | (rw [if_pos (by decide +kernel)]; kernel_rfl) | (rw [if_neg (by decide +kernel)]; exact ⟨rfl, rfl⟩))
    (fun os started H enc _ => lifted os started H enc)

/-- The statement. -/
theorem proved : Rows.SpanTailSaid := over
end Go.Proofs.Ytfibbohccaknjaa.spanTail
