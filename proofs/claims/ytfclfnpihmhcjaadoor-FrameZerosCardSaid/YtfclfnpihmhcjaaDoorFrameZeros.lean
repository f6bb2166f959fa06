/-
  FrameZeros: so many bytes 0 are so many frames that tell nothing, and with a byte behind them that is no frame's they are none. Condition: the tables hold what the program's text lays (the card ties them).
-/
import Derived.Test.YtfclfnpihmhcjaaDoorFrW
import Derived.Test.YtfclfnpihmhcjaaDoorOpF
namespace Wig
theorem zeros_all {k : Nat} (h : 0 < k) : aerr (List.replicate k 0) = 0 ∧ (afr (List.replicate k 0)).length = k ∧ aerr (List.replicate k 0 ++ [7]) = 50 := by
  have e : fall (List.replicate k 0) = some (List.replicate k Fr.zero) := by
    unfold fall
    rw [if_neg (by intro e; have := congrArg List.length e; simp at this; omega)]
    exact zeros_some k
  have e2 : fall (List.replicate k 0 ++ [7]) = none := by
    unfold fall
    rw [if_neg (by simp)]
    exact zeros_none k
  unfold aerr afr
  rw [e, e2]
  exact ⟨rfl, by simp, rfl⟩
end Wig
namespace Go.Proofs.YtfclfnpihmhcjaaDoor.frameZeros
open Go.ChangeShapes Go.WideShapes Go.ChangeAt Go.RowKit Go.Deep
set_option linter.unusedVariables false

theorem zeros_bytes (k : Nat) : Wig.Bytes (List.replicate k 0) := fun x hx => by have := List.eq_of_mem_replicate hx; omega
set_option maxHeartbeats 2000000 in
theorem walk (n0 : Nat) (hn0 : n0 < 65536) (w : World) (hT : Tab w ∧ NTab w) : Calls Tryd.prog 10 #[.int .u16 (n0 : Int)] w fun e w' => e = .returned (.bool true) ∧ Below w.heap.size w w' := by
  obtain ⟨i0, hi, hz0, hz1, hz2⟩ := info_parts byte_info
  have C := Lib.hid (awake_any w hT)
  have HT := Lib.hid hT
  obtain ⟨m, hm⟩ : ∃ m, m = n0 % 1500 := ⟨_, rfl⟩
  obtain ⟨k, hk⟩ : ∃ k, k = m + 1 := ⟨_, rfl⟩
  have f1 : IntKind.i64.wrap (n0 : Int) = (n0 : Int) := by rw [IntKind.wrap_i64]; omega
  have f2 : ((n0 : Int).tmod 1500) = (m : Int) := by rw [hm, Int.tmod_eq_emod_of_nonneg (by omega)]; omega
  have f3 : IntKind.i64.wrap ((m : Int) + 1) = (k : Int) := by rw [IntKind.wrap_i64]; omega
  have f4 : IntKind.i64.wrap (m : Int) = (m : Int) := by rw [IntKind.wrap_i64]; omega
  have Z := Lib.hid (Wig.zeros_all (k := k) (by omega))
  have HK := Lib.hid (show k ≤ 1500 by omega)
  clear hT hm hn0 hk
  go_enter Tryd.func10, Tryd.ntmps10
  go_wp2_with fail
  refine (C.out).mono ?_
  rintro e w1 ⟨rfl, hb1⟩
  have B1 := Lib.hid hb1
  have T1 := Lib.hid (tabs_below HT.out hb1)
  clear hb1 C
  go_wp2_with (at_make; refine wpList_make_full _ rfl _ _ 24 rfl w1.heap.size 5 i0 _ 1 Tryd.underlying24 hi hz0 hz1 _ _ _ _ k rfl rfl rfl rfl (by rw [hz2]; have := HK.out; omega) (by have := HK.out; simp only [maxLen]; omega) (Nat.le_refl _) ?_)
  intro w2 hown hg
  have own : OwnN .u8 5 w2 w1.heap.size (.slice (some ⟨w1.heap.size, 0, none⟩) k k) (List.replicate k 0) := by
    have := own_zero (v := 0) hown
    simpa [Wig.be] using this
  have hb2 := (Below.refl w1.heap.size w1).grown hg (Nat.le_refl _) (fun _ h => by cases h)
  have B2 := Lib.hid (below_trans' B1.out hb2)
  have T2 := Lib.hid (tabs_below T1.out hb2)
  have O2 := Lib.hid own
  have rd2 : RdN .u8 w2 w2.heap.size (some ⟨w1.heap.size, 0, none⟩) (List.replicate k 0) := by
    obtain ⟨A, c, e, _, _, h, _⟩ := own.rd
    injection e with e1
    rw [e1]
    exact h
  have C2 := Lib.hid (all_any (some ⟨w1.heap.size, 0, none⟩) k k (List.replicate k 0) w2 (zeros_bytes k) (by simp) (by have := HK.out; omega) (Nat.le_refl _) (by have := HK.out; simp only [maxLen]; omega) rd2 (two_le T2.out) T2.out)
  unfold AllAt at C2
  rw [Z.out.1] at C2
  have S2 := Lib.hid hb2.size
  clear hown hg own hb2 rd2
  go_wp2_with fail
  refine (C2.out).mono ?_
  rintro e w3 ⟨v3, es, rfl, hof, hes, -, hb3⟩
  obtain ⟨A3, c3, rfl, _, _, _⟩ := hof.rd
  have hel : es.length = k := by
    have := congrArg List.length hes
    rw [List.length_map, Z.out.2.1] at this
    exact this
  rw [hel]
  have B3 := Lib.hid (below_trans' B2.out hb3)
  have T3 := Lib.hid (tabs_below T2.out hb3)
  have hb4 : Below w3.heap.size w3 (w3.alloc (.cells #[.int .u8 7] 5)) := (Below.refl _ _).alloc (Nat.le_refl _) _
  have O4 := Lib.hid ((O2.out.below hb3 (Nat.le_refl _)).below hb4 (Nat.le_refl _))
  have S4 := Lib.hid (show w1.heap.size ≤ (w3.alloc (.cells #[.int .u8 7] 5)).heap.size by have := S2.out; have := hb3.size; have := hb4.size; omega)
  have B4 := Lib.hid (below_trans' B3.out hb4)
  have R7 := Lib.hid (rd_bytes_new w3 [7])
  have T4 := Lib.hid (tabs_below T3.out hb4)
  have S1 := Lib.hid B1.out.size
  clear hof hes hel hb3 hb4 C2
  go_wp2_with (at_builtin; refine wpList_append_bytes rfl _ _ rfl w1.heap.size _ (List.replicate k 0) [7] rfl O4.out _ _ 1 1 rfl rfl R7.out (by rw [List.length_replicate]; have := HK.out; omega) S4.out ?_)
  intro v5 w5 hown5 hg5
  obtain ⟨A5, n5, c5, rfl, hn5, hc5, hm5, hr5, _⟩ := hown5.has
  have hb5 : Below w1.heap.size (w3.alloc (.cells #[.int .u8 7] 5)) w5 := (Below.refl _ _).grown hg5 S4.out (fun q hq => (O4.out.block q hq).1)
  have hbw := B4.out.trans (hb5.mono S1.out)
  have B5 := Lib.hid hbw
  have T5 := Lib.hid (tabs_below HT.out hbw)
  have hx5 : Wig.Bytes (List.replicate k 0 ++ [7]) := (zeros_bytes k).app (by intro x hx; simp at hx; omega)
  have hn5' : n5 ≤ 100000 := by rw [hn5]; simp; have := HK.out; omega
  have C5 := Lib.hid (all_any A5 n5 c5 (List.replicate k 0 ++ [7]) w5 hx5 hn5 hn5' hc5 hm5 hr5 (two_le T5.out) T5.out)
  unfold AllAt at C5
  rw [Z.out.2.2] at C5
  have t : ((k : Int) == (k : Int)) = true := by simp
  clear hown5 hg5 hn5 hc5 hm5 hr5 hb5 hbw hx5 hn5'
  go_wp2_with fail
  refine (C5.out).mono ?_
  rintro e w6 ⟨v6, es6, rfl, -, -, -, hb6⟩
  have R := Lib.hid (below_trans' B5.out hb6)
  clear hb6 C5
  go_wp2_with fail
  go_ret
  exact ⟨rfl, R.out⟩

set_option maxRecDepth 100000 in
theorem lifted (os : Os) (started : os.Started) (H : Type) (enc : TypeId × Value → H) :
    ReturnsInHanded {} Tryd.checked os 10 .any (fun w args => (Rows.frameZerosSpec.pre enc Tryd.prog Tryd.f10 [] false w args ∧ laidMetH Tryd.prog laidList w) ∧ sizedMet enc Tryd.prog Tryd.f10 (OpenSpec.ofChange Rows.frameZerosSpec) false w args)
      (Rows.frameZerosSpec.post enc Tryd.prog Tryd.f10 false true false false) := by
  refine returnsInHanded_of_change_and (C := Tryd.checked) (X := fun w _ => laidMetH Tryd.prog laidList w) (fun _ _ _ hh h => h.of_heap hh) own started (by kernel_rfl) Tryd.func10
    (ChangeSpec.witness_shaped (enc := enc) (C := Tryd.checked) (os := os) (X := fun w _ => laidMetH Tryd.prog laidList w) false (World.doorLaid Tryd.prog 400 os) #[.int .u16 0] 8 rfl (World.shaped_of_RefB (by kernel_rfl) (by kernel_rfl)) (by kernel_rfl) (by kernel_rfl) (by kernel_rfl) (door_met os _)) ?_
  intro W base args ds gs before hval0 hW _ _ hL _
  have hval : ∀ (j : Nat) t v, Tryd.f10.params[j]? = some t → args[j]? = some v → Value.okWide Tryd.prog W .any base t v := hval0
  have hW' := hW
  obtain ⟨p, q, hA0, hV, rfl, hfz, hnd⟩ := hW
  have hA : DataW.TrodAll enc Tryd.prog W 0 (fun _ => true) true Tryd.f10.params.toList args.toList ds p := hA0
  obtain ⟨rfl, rfl⟩ := trodVars_none hV
  simp only [List.append_nil] at hW'
  have hlow : ∀ x ∈ p, x.block < W.heap.size := fun x hx => hW'.lt x hx
  have hA2 := hA
  rw [Tryd.params10] at hval hA2
  obtain ⟨v0, vs0, d0, ds0, p0, q0, hargs, rfl, rfl, h0, r0⟩ := trodAll_cons hA2
  obtain ⟨rfl, rfl, rfl⟩ := trodAll_nil r0
  obtain rfl : args = #[v0] := by cases args; simp_all
  obtain ⟨n0, rfl, hn0⟩ := open_u16 Tryd.underlying45 (hval 0 45 v0 rfl rfl) h0
  refine (walk n0 hn0 W (tab_of_laid hL)).mono fun e W' ⟨he, hg⟩ => ?_
  subst he
  exact ⟨_, rfl, law_true laid_out (by kernel_rfl) rfl Tryd.underlying4 (by kernel_rfl) hW' hA rfl rfl rfl hg⟩

theorem over : Rows.frameZerosRow.holds Tryd.pinned (OpenSpec.ofChange Rows.frameZerosSpec) :=
  OpenClaim.holds_of_wide 10 Tryd.f10 rfl rfl rfl rfl rfl rfl rfl ⟨rfl, rfl, rfl, rfl, rfl⟩ rfl rfl rfl rfl rfl (by kernel_rfl) Tryd.func10 (by kernel_rfl)
    (of_decide_eq_true (by kernel_rfl)) (by unfold Func.isWrapper; first | (rw [if_pos (by decide +kernel)]; kernel_rfl) | (rw [if_neg (by decide +kernel)]; exact ⟨rfl, rfl⟩))
    (fun os started H enc _ => lifted os started H enc)

/-- The statement: the card of it, its table tied to the program. -/
theorem proved : Rows.FrameZerosCardSaid :=
  Claim7.holds_tied_plain_at .later [] [.data, .data] true (true, "0af932781d631ec6309ac614fc16388e853ea07b11500c9c71507fb84789da2f") true
    over (fun _ h => by cases h) (by kernel_rfl) (fun _ h => by cases h) frameZeros_row_tie rfl ⟨rfl, rfl⟩ (by kernel_rfl) rfl
    (fun f fn hf hfn => by
      obtain rfl : f = 10 := Option.some.inj ((show Tryd.prog.funcNamed "wigwag/wigwaglaw05.FrameZeros" = some 10 by kernel_rfl).symm.trans hf) |>.symm
      obtain rfl : fn = Tryd.f10 := (Option.some.inj (Tryd.func10.symm.trans hfn)).symm
      exact ⟨by kernel_rfl, fun j t ht => by
        rw [Tryd.params10] at ht
        have hm : t ∈ [45] := by simpa using Array.mem_of_getElem? ht
        have hall : ([45].all fun u => !Tryd.prog.wantsStandIn u) = true := by kernel_rfl
        exact (show Tryd.prog.wantsStandIn t = false by simpa using List.all_eq_true.1 hall t hm)⟩)
    (by kernel_rfl)
end Go.Proofs.YtfclfnpihmhcjaaDoor.frameZeros
