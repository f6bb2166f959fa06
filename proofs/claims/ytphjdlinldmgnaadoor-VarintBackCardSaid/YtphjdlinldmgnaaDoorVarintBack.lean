/-
  VarintBack: a number that may be is got as it was put, whatever stands behind it, and takes as many bytes as its size. Condition: the table of sizes holds what the program's text lays (the card ties it).
-/
import Derived.Test.YtphjdlinldmgnaaDoorVarW
import Derived.Test.YtphjdlinldmgnaaDoorApp
import Derived.Test.YtphjdlinldmgnaaDoorLaid
import Derived.Deep.CutBlock
namespace Go.Proofs.YtphjdlinldmgnaaDoor.varintBack
open Go.ChangeShapes Go.WideShapes Go.ChangeAt Go.RowKit Go.Deep
set_option linter.unusedVariables false

theorem long (v : Nat) (A : Option Addr) (c n : Nat) (w : World) (hT : Tab w) (t1 : decide ((2000 : Int) < (n : Int)) = true) :
    Calls Tryd.prog 5 #[.int .u64 (v : Int), .slice A n c] w fun e w' => e = .returned (.bool true) ∧ Below w.heap.size w w' := by
  have C0 := Lib.hid (awake_any w hT)
  clear hT
  go_enter Tryd.func5, Tryd.ntmps5
  go_wp2_with fail
  refine (C0.out).mono ?_
  rintro e w1 ⟨rfl, hb1⟩
  have B1 := Lib.hid hb1
  clear hb1
  go_wp2_with fail
  go_ret
  exact ⟨rfl, B1.out⟩

theorem great (v : Nat) (A : Option Addr) (c n : Nat) (w : World) (hv : v < 18446744073709551616) (hT : Tab w) (t1 : decide ((2000 : Int) < (n : Int)) = false) (h : 4611686018427387904 ≤ v) :
    Calls Tryd.prog 5 #[.int .u64 (v : Int), .slice A n c] w fun e w' => e = .returned (.bool true) ∧ Below w.heap.size w w' := by
  have C0 := Lib.hid (awake_any w hT)
  have C1 := Lib.hid (fun w h' => put_gives v [] 31 w (Wig.venc_great h) (Wig.verr_great h) hv h')
  have t2 : decide ((4611686018427387903 : Int) < (v : Int)) = true := decide_eq_true (by omega)
  have HT := Lib.hid hT
  clear hT h hv
  go_enter Tryd.func5, Tryd.ntmps5
  go_wp2_with fail
  refine (C0.out).mono ?_
  rintro e w1 ⟨rfl, hb1⟩
  have B1 := Lib.hid hb1
  have T1 := Lib.hid (HT.out.below hb1)
  clear hb1
  go_wp2_with fail
  refine (C1.out _ T1.out).mono ?_
  rintro e w2 ⟨A2, n2, c2, rfl, rfl, -, -, hr2, h02, hb2⟩
  have B2 := Lib.hid hb2
  clear hb2 hr2 h02
  go_wp2_with fail
  go_ret
  exact ⟨rfl, below_trans' B1.out B2.out⟩

set_option maxHeartbeats 2000000 in
theorem fits (v : Nat) (A : Option Addr) (c n : Nat) (xs : List Nat) (hx : Wig.Bytes xs) (hn : n = xs.length) (hl : n ≤ 2000) (h : v < 4611686018427387904) (w : World) (hr : RdN .u8 w w.heap.size A xs) (hT : Tab w) :
    Calls Tryd.prog 5 #[.int .u64 (v : Int), .slice A n c] w fun e w' => e = .returned (.bool true) ∧ Below w.heap.size w w' := by
  obtain ⟨ys, hys⟩ : ∃ ys, ys = Wig.venc v := ⟨_, rfl⟩
  obtain ⟨s, hs⟩ : ∃ s, s = Wig.vsize v := ⟨_, rfl⟩
  obtain ⟨q1, q2, q3, q4⟩ := Wig.vback h xs
  have yl : ys.length = s := by rw [hys, hs, Wig.venc_length]
  have s8 : s ≤ 8 ∧ 0 < s := by obtain ⟨m, e, _, _, _, k⟩ := Wig.vfits h; omega
  rw [← hys] at q1 q2 q3
  rw [← hs] at q3
  have hb : Wig.Bytes (ys ++ xs) := fun x hx' => by
    rcases List.mem_append.1 hx' with h' | h'
    · rw [hys] at h'; exact Wig.venc_bytes v x h'
    · exact hx x h'
  have C0 := Lib.hid (awake_any w hT)
  have C1 := Lib.hid (fun w h' => put_gives v ys 0 w hys.symm (Wig.verr_fits h) (by omega) h')
  have C2 : ∀ A n c w, n = (ys ++ xs).length → n ≤ c → c ≤ maxLen → RdN .u8 w w.heap.size A (ys ++ xs) → Tab w → Calls Tryd.prog 12 #[.slice A n c] w fun e w' => e = .returned (.tuple #[.int .u64 (v : Int), .int .i64 (s : Int), .int .i64 0]) ∧ w = w' := fun A n c w h1 h2 h3 h4 h5 =>
    get_gives (ys ++ xs) v s 0 A n c w q2 q3 (by unfold Wig.vgot; rw [q1]; rfl) hb h1 h2 h3 h4 h5
  have C2 := Lib.hid C2
  have C3 := Lib.hid (fun w h' => size_gives v s w hs.symm h')
  have t1 : decide ((2000 : Int) < (n : Int)) = false := decide_eq_false (by omega)
  have t2 : decide ((4611686018427387903 : Int) < (v : Int)) = false := decide_eq_false (by omega)
  have HT := Lib.hid hT
  have HR := Lib.hid hr
  have HN := Lib.hid hn
  have HL := Lib.hid hl
  have YL := Lib.hid yl
  have S8 := Lib.hid s8
  clear hT hr hn hl yl s8 q1 q2 q3 q4 hb hx hys hs h
  go_enter Tryd.func5, Tryd.ntmps5
  go_wp2_with fail
  refine (C0.out).mono ?_
  rintro e w1 ⟨rfl, hb1⟩
  have B1 := Lib.hid hb1
  have T1 := Lib.hid (HT.out.below hb1)
  have R1 := Lib.hid (HR.out.step hb1)
  clear hb1
  go_wp2_with fail
  refine (C1.out _ T1.out).mono ?_
  rintro e w2 ⟨A2, n2, c2, rfl, hn2, -, -, hr2, h02, hb2⟩
  obtain rfl : n2 = s := by rw [hn2]; exact YL.out
  have B2 := Lib.hid hb2
  have T2 := Lib.hid (T1.out.below hb2)
  have R2 := Lib.hid (R1.out.step hb2)
  have X2 := Lib.hid hr2
  clear hb2 hr2 hn2 h02
  have hmine : OwnN .u8 5 (w2.alloc (.cells #[] 5)) w2.heap.size (.slice (some ⟨w2.heap.size, 0, none⟩) 0 0) [] := World.ownsRow_lit (size := 1) w2 #[] 0 (Nat.le_refl _) (by decide) rfl
  have HM := Lib.hid hmine
  clear hmine
  go_upto_region 7 with fail
  go_step
  go_step
  go_step
  go_step
  go_step
  go_step
  go_step
  refine wpList_append_bytes (by rfl) (.tmp 34) (.tmp 35) (by rfl) w2.heap.size _ [] ys (by rfl) HM.out w2.heap.size A2 c2 n2 YL.out (by rfl) (X2.out.below ((Below.refl w2.heap.size w2).alloc (Nat.le_refl _) _)) (by have := S8.out; simp; omega) (by simp) ?_
  intro v3 w3 hown3 hg3
  have hb3 : Below w2.heap.size w2 w3 := ((Below.refl _ _).alloc (Nat.le_refl _) _).grown hg3 (by simp) (fun q hq => by simp [Value.ownBlock] at hq; omega)
  rw [List.nil_append] at hown3
  have O3 := Lib.hid hown3
  have B3 := Lib.hid hb3
  have R3 := Lib.hid (R2.out.step hb3)
  clear hown3 hg3 hb3 HM
  obtain ⟨A3, c3, e3, -⟩ := O3.out.rd
  rw [YL.out] at e3
  subst e3
  go_step
  go_step
  go_step
  refine wpList_append_bytes (by rfl) (.tmp 36) (.tmp 37) (by rfl) w2.heap.size _ ys xs (by rfl) O3.out w3.heap.size A c n HN.out.symm (by rfl) R3.out (by have := S8.out; have := HL.out; have := YL.out; omega) (by exact B3.out.size) ?_
  intro v4 w4 hown4 hg4
  have hb4 : Below w2.heap.size w2 w4 := B3.out.grown hg4 B3.out.size (fun q hq => (O3.out.block q hq).1)
  obtain ⟨A4, c4, e4, l4, m4, r4, -⟩ := hown4.rd
  obtain ⟨n4, hn4⟩ : ∃ n4, n4 = (ys ++ xs).length := ⟨_, rfl⟩
  rw [← hn4] at e4 l4
  subst e4
  have T4 := Lib.hid (T2.out.below hb4)
  have B4 := Lib.hid (below_trans' (below_trans' B1.out B2.out) hb4)
  have C := Lib.hid (C2.out A4 n4 c4 w4 hn4 l4 m4 r4 T4.out)
  clear hown4 hg4 hb4 l4 m4 r4 hn4
  go_wp2_with fail
  refine (C.out).mono ?_
  rintro e w' ⟨rfl, rfl⟩
  go_wp2_with fail
  refine (C3.out _ T4.out).mono ?_
  rintro e w' ⟨rfl, rfl⟩
  go_wp2_with fail
  go_ret
  exact ⟨rfl, B4.out⟩

theorem walk (v : Nat) (A : Option Addr) (c : Nat) (xs : List Nat) (hv : v < 18446744073709551616) (hx : ∀ x ∈ xs, x < 256) (hl : xs.length ≤ c) (hm : c ≤ maxLen) (w : World) (hr : RdN .u8 w w.heap.size A xs) (hT : Tab w) :
    Calls Tryd.prog 5 #[.int .u64 (v : Int), .slice A xs.length c] w fun e w' => e = .returned (.bool true) ∧ Below w.heap.size w w' := by
  by_cases h1 : 2000 < xs.length
  · exact long v A c _ w hT (decide_eq_true (by omega))
  · by_cases h2 : v < 4611686018427387904
    · exact fits v A c _ xs hx rfl (by omega) h2 w hr hT
    · exact great v A c _ w hv hT (decide_eq_false (by omega)) (by omega)

set_option maxRecDepth 100000 in
theorem lifted (os : Os) (started : os.Started) (H : Type) (enc : TypeId × Value → H) :
    ReturnsInHanded {} Tryd.checked os 5 .any (fun w args => (Rows.varintBackSpec.pre enc Tryd.prog Tryd.f5 [] false w args ∧ laidMetH Tryd.prog laidList w) ∧ sizedMet enc Tryd.prog Tryd.f5 (OpenSpec.ofChange Rows.varintBackSpec) false w args)
      (Rows.varintBackSpec.post enc Tryd.prog Tryd.f5 false true false false) := by
  refine returnsInHanded_of_change_and (C := Tryd.checked) (X := fun w _ => laidMetH Tryd.prog laidList w) (fun _ _ _ hh h => h.of_heap hh) own started (by kernel_rfl) Tryd.func5
    (ChangeSpec.witness_shaped (enc := enc) (C := Tryd.checked) (os := os) (X := fun w _ => laidMetH Tryd.prog laidList w) false (World.doorLaid Tryd.prog 400 os) #[.int .u64 0, .slice none 0 0] 8 rfl (World.shaped_of_RefB (by kernel_rfl) (by kernel_rfl)) (by kernel_rfl) (by kernel_rfl) (by kernel_rfl) (door_met os _)) ?_
  intro W base args ds gs before hval0 hW _ _ hL _
  have hval : ∀ (j : Nat) t v, Tryd.f5.params[j]? = some t → args[j]? = some v → Value.okWide Tryd.prog W .any base t v := hval0
  have hW' := hW
  obtain ⟨p, q, hA0, hV, rfl, hfz, hnd⟩ := hW
  have hA : DataW.TrodAll enc Tryd.prog W 0 (fun _ => true) true Tryd.f5.params.toList args.toList ds p := hA0
  obtain ⟨rfl, rfl⟩ := trodVars_none hV
  simp only [List.append_nil] at hW'
  have hlow : ∀ x ∈ p, x.block < W.heap.size := fun x hx => hW'.lt x hx
  have hA2 := hA
  rw [Tryd.params5] at hval hA2
  obtain ⟨v0, vs0, d0, ds0, p0, q0, hargs, rfl, rfl, h0, r0⟩ := trodAll_cons hA2
  obtain ⟨v1, vs1, d1, ds1, p1, q1, rfl, rfl, rfl, h1, r1⟩ := trodAll_cons r0
  obtain ⟨rfl, rfl, rfl⟩ := trodAll_nil r1
  obtain rfl : args = #[v0, v1] := by cases args; simp_all
  obtain ⟨n0, rfl, hn0⟩ := open_u64 Tryd.underlying23 (hval 0 23 v0 rfl rfl) h0
  obtain ⟨A1, c1, xs1, rfl, hx1, hr1, hl1, hm1⟩ := open_row 256 Tryd.underlying24 Tryd.underlying5 (by kernel_rfl) (by intro x h; simp [Lit.wf, IntKind.min, IntKind.max, IntKind.signed, IntKind.bits] at h; omega) (hval 1 24 v1 rfl rfl) h1 (fun x hx => hlow x (by simp [hx]))
  refine (walk n0 A1 c1 xs1 hn0 hx1 hl1 hm1 W hr1 (tab_of_laid hL)).mono fun e W' ⟨he, hg⟩ => ?_
  subst he
  exact ⟨_, rfl, law_true laid_out (by kernel_rfl) rfl Tryd.underlying4 (by kernel_rfl) hW' hA rfl rfl rfl hg⟩

theorem over : Rows.varintBackRow.holds Tryd.pinned (OpenSpec.ofChange Rows.varintBackSpec) :=
  OpenClaim.holds_of_wide 5 Tryd.f5 rfl rfl rfl rfl rfl rfl rfl ⟨rfl, rfl, rfl, rfl, rfl⟩ rfl rfl rfl rfl rfl (by kernel_rfl) Tryd.func5 (by kernel_rfl)
    (of_decide_eq_true (by kernel_rfl)) (by unfold Func.isWrapper; first | (rw [if_pos (by decide +kernel)]; kernel_rfl) | (rw [if_neg (by decide +kernel)]; exact ⟨rfl, rfl⟩))
    (fun os started H enc _ => lifted os started H enc)

/-- The statement: the card of it, its table tied to the program. -/
theorem proved : Rows.VarintBackCardSaid :=
  Claim7.holds_tied_plain_at .later [] [.data] true (true, "c6a13142a35a782391a3892c23b8891977bad80e44468b0d5c8d40cffa60ecdf") false
    over (fun _ h => by cases h) (by kernel_rfl) (fun _ h => by cases h) varintBack_row_tie rfl ⟨rfl, rfl⟩ (by kernel_rfl) rfl
    (fun f fn hf hfn => by
      obtain rfl : f = 5 := Option.some.inj ((show Tryd.prog.funcNamed "wigwag/wigwaglaw03.VarintBack" = some 5 by kernel_rfl).symm.trans hf) |>.symm
      obtain rfl : fn = Tryd.f5 := (Option.some.inj (Tryd.func5.symm.trans hfn)).symm
      exact ⟨by kernel_rfl, fun j t ht => by
        rw [Tryd.params5] at ht
        have hm : t ∈ [23, 24] := by simpa using Array.mem_of_getElem? ht
        have hall : ([23, 24].all fun u => !Tryd.prog.wantsStandIn u) = true := by kernel_rfl
        exact (show Tryd.prog.wantsStandIn t = false by simpa using List.all_eq_true.1 hall t hm)⟩)
    (by kernel_rfl)
end Go.Proofs.YtphjdlinldmgnaaDoor.varintBack
