/-
  FrameEncodes: whether any frame may be, and its bytes, are what the document says; whatever the frame (of at most a hundred spans and two thousand bytes). Condition: the tables hold what the program's text lays (the card ties them).
-/
import Derived.Test.YthgblgdmcjeaiaaDoorRfe
namespace Go.Proofs.YthgblgdmcjeaiaaDoor.frameEncodes
open Go.ChangeShapes Go.WideShapes Go.ChangeAt Go.RowKit Go.Deep
set_option linter.unusedVariables false

theorem ten_two {w1 w' : World} {b : Nat} {f : Wig.Fr} {D S A1 A2 : Option Addr} {dc sc n1 c1 n2 c2 : Nat} {s1 s2 : ByteArray} (h : At w1 b 0 f D dc S sc) (hw : b < w1.heap.size) (hb : Below w1.heap.size w1 w')
    (k1 : ∀ w', Below w1.heap.size w1 w' → (convert 23 9 (.slice A1 n1 c1)).run Tryd.prog w' = .ok (.string s1) w') (k2 : ∀ w', Below w1.heap.size w1 w' → (convert 23 9 (.slice A2 n2 c2)).run Tryd.prog w' = .ok (.string s2) w') :
    w'.cell? ⟨b, 0, none⟩ = some (.int .i64 f.kind) ∧ w'.cell? ⟨b, 1, none⟩ = some (.int .u64 (f.id : Int)) ∧ w'.cell? ⟨b, 2, none⟩ = some (.int .u64 (f.off : Int)) ∧ w'.cell? ⟨b, 3, none⟩ = some (.int .u64 (f.max : Int)) ∧ w'.cell? ⟨b, 4, none⟩ = some (.int .u64 (f.code : Int)) ∧ w'.cell? ⟨b, 5, none⟩ = some (.int .u64 (f.delay : Int)) ∧ w'.cell? ⟨b, 6, none⟩ = some (.int .u64 (f.ce : Int)) ∧ w'.cell? ⟨b, 7, none⟩ = some (.bool f.fin) ∧ w'.cell? ⟨b, 8, none⟩ = some (.slice D f.data.length dc) ∧ w'.cell? ⟨b, 9, none⟩ = some (.slice S f.spans.length sc) ∧ (convert 23 9 (.slice A1 n1 c1)).run Tryd.prog w' = .ok (.string s1) w' ∧ (convert 23 9 (.slice A2 n2 c2)).run Tryd.prog w' = .ok (.string s2) w' ∧ Below w1.heap.size w1 w' := by
  obtain ⟨k0', k1', k2', k3', k4', k5', k6', k7', k8', k9', -⟩ := at_ten h hw hb
  exact ⟨k0', k1', k2', k3', k4', k5', k6', k7', k8', k9', k1 w' hb, k2 w' hb, hb⟩
theorem held_tw {c0 c1 c2 c3 c4 c5 c6 c7 c8 c9 d1 d2 : Prop} {B : Nat} {w1 w' : World} (h : c0 ∧ c1 ∧ c2 ∧ c3 ∧ c4 ∧ c5 ∧ c6 ∧ c7 ∧ c8 ∧ c9 ∧ d1 ∧ d2 ∧ Below B w1 w') : Below B w1 w' := h.2.2.2.2.2.2.2.2.2.2.2.2

set_option maxRecDepth 100000 in
set_option maxHeartbeats 4000000 in
theorem walk (e0 : FV) (ho0 : e0.f.Ok) (w : World) (hr0 : Lies w w.heap.size e0.f e0.D e0.dc e0.S e0.sc) (hT : Tab w ∧ NTab w) :
    Calls Tryd.prog 3 #[.agg (farr e0.f e0.D e0.dc e0.S e0.sc)] w fun e w' => e = .returned (.bool true) ∧ Below w.heap.size w w' := by
  obtain ⟨f, D, dc, S, sc⟩ := e0
  simp only [] at ho0 hr0 ⊢
  obtain ⟨v1, hv1⟩ : ∃ w1, w1 = w.alloc (.cells (farr f D dc S sc) 26) := ⟨_, rfl⟩
  have hb1 : Below w.heap.size w v1 := by rw [hv1]; exact (Below.refl _ _).alloc (Nat.le_refl _) _
  have z1 : v1.heap.size = w.heap.size + 1 := by rw [hv1]; simp
  have a1 : At v1 w.heap.size 0 f D dc S sc := by rw [hv1]; exact at_box w f D dc S sc 26
  have AT := Lib.hid a1
  have Z := Lib.hid (show w.heap.size < v1.heap.size ∧ 1 ≤ w.heap.size from ⟨by omega, by have := World.block_lt_of_cell? w _ hT.1.c0; omega⟩)
  have BV := Lib.hid hb1
  have TV := tabs_below hT hb1
  have C := Lib.hid (awake_any v1 TV)
  have HT := Lib.hid TV
  have HO := Lib.hid ho0
  have F0 := fun w => few_any ⟨f, D, dc, S, sc⟩ w
  simp only [farr] at F0 hv1
  replace F0 := Lib.hid F0
  have L := Lib.hid (hr0.step hb1)
  obtain ⟨r, hr⟩ : ∃ r, r = Wig.ferr f := ⟨_, rfl⟩
  have HRr := Lib.hid hr
  have CE := Lib.hid (fun (w' : World) (hb : Below v1.heap.size v1 w') => encode_any (.agg #[.int .i64 f.kind, .int .u64 (f.id : Int), .int .u64 (f.off : Int), .int .u64 (f.max : Int), .int .u64 (f.code : Int), .int .u64 (f.delay : Int), .int .u64 (f.ce : Int), .bool f.fin, .slice D f.data.length dc, .slice S f.spans.length sc]) f w' (Lies.fv (L.out.step hb)) HO.out (by have := Z.out; have := hb.size; omega) (tabs_below HT.out hb))
  have CR := Lib.hid (fun (w' : World) (hb : Below v1.heap.size v1 w') => rencode_any (.agg #[.int .i64 f.kind, .int .u64 (f.id : Int), .int .u64 (f.off : Int), .int .u64 (f.max : Int), .int .u64 (f.code : Int), .int .u64 (f.delay : Int), .int .u64 (f.ce : Int), .bool f.fin, .slice D f.data.length dc, .slice S f.spans.length sc]) f w' (Lies.fv (L.out.step hb)) HO.out)
  have CC := fun (w' : World) (hb : Below v1.heap.size v1 w') => check_any (.agg #[.int .i64 f.kind, .int .u64 (f.id : Int), .int .u64 (f.off : Int), .int .u64 (f.max : Int), .int .u64 (f.code : Int), .int .u64 (f.delay : Int), .int .u64 (f.ce : Int), .bool f.fin, .slice D f.data.length dc, .slice S f.spans.length sc]) f w' (Lies.fv (L.out.step hb)) (HO.out.num 1) (tabs_below HT.out hb).2
  have CD := fun (w' : World) (hb : Below v1.heap.size v1 w') => rcheck_any (.agg #[.int .i64 f.kind, .int .u64 (f.id : Int), .int .u64 (f.off : Int), .int .u64 (f.max : Int), .int .u64 (f.code : Int), .int .u64 (f.delay : Int), .int .u64 (f.ce : Int), .bool f.fin, .slice D f.data.length dc, .slice S f.spans.length sc]) f w' (Lies.fv (L.out.step hb)) HO.out
  unfold EncAt at CE CR
  rw [← hr] at CE CR CC CD
  replace CC := Lib.hid CC
  replace CD := Lib.hid CD
  clear ho0 hr0 hT hb1 z1 a1 TV hr
  simp only [farr]
  go_enter Tryd.func3, Tryd.ntmps3
  go_upto_region 1 with fail
  rw [← hv1]
  clear hv1
  go_wp2_with fail
  refine (C.out).mono ?_
  rintro e w1 ⟨rfl, hb1⟩
  have B1 := Lib.hid hb1
  obtain ⟨k0, k1, k2, k3, k4, k5, k6, k7, k8, k9, -⟩ := at_ten AT.out Z.out.1 B1.out
  clear hb1 C
  go_wp2_with fail
  refine (F0.out w1).mono ?_
  rintro e w2 ⟨rfl, hb2⟩
  have B2 := Lib.hid (below_trans' B1.out hb2)
  clear hb2 k0 k1 k2 k3 k4 k5 k6 k7 k8 k9
  cases hf0 : Wig.few f
  · have R := Lib.hid (below_trans' BV.out B2.out)
    clear hf0
    go_wp2_with fail
    go_ret
    exact ⟨rfl, R.out⟩
  obtain ⟨k0, k1, k2, k3, k4, k5, k6, k7, k8, k9, -⟩ := at_ten AT.out Z.out.1 B2.out
  have D1 := Lib.hid (CE.out w2 B2.out)
  clear hf0 CE
  go_wp2_with fail
  refine (D1.out).mono ?_
  rintro e w3 ⟨x3, rfl, hx3, hb3⟩
  obtain ⟨A3, n3, c3, rfl, hn3, -, -, hr3, -⟩ := hx3
  have B3 := Lib.hid (below_trans' B2.out hb3)
  have X3 := Lib.hid (And.intro hn3 hr3)
  clear hb3 hn3 hr3 k0 k1 k2 k3 k4 k5 k6 k7 k8 k9 D1
  obtain ⟨k0, k1, k2, k3, k4, k5, k6, k7, k8, k9, -⟩ := at_ten AT.out Z.out.1 B3.out
  have D2 := Lib.hid (CR.out w3 B3.out)
  clear CR
  go_wp2_with fail
  refine (D2.out).mono ?_
  rintro e w4 ⟨x4, rfl, hx4, hb4⟩
  obtain ⟨A4, n4, c4, rfl, hn4, -, -, hr4, -⟩ := hx4
  have B4 := Lib.hid (below_trans' B3.out hb4)
  obtain ⟨sb, hsb⟩ : ∃ sb, sb = str (Wig.fenc f) := ⟨_, rfl⟩
  have K3 : ∀ w', Below w4.heap.size w4 w' → (convert 23 9 (.slice A3 n3 c3)).run Tryd.prog w' = .ok (.string sb) w' := fun w' hb => by rw [hsb]; exact conv_any Tryd.underlying23 Tryd.underlying5 Tryd.underlying9 ((X3.out.2.step hb4).below hb) n3 c3 X3.out.1
  have K4 : ∀ w', Below w4.heap.size w4 w' → (convert 23 9 (.slice A4 n4 c4)).run Tryd.prog w' = .ok (.string sb) w' := fun w' hb => by rw [hsb]; exact conv_any Tryd.underlying23 Tryd.underlying5 Tryd.underlying9 (hr4.below hb) n4 c4 hn4
  have KA := Lib.hid (show At w4 w.heap.size 0 f D dc S sc from AT.out.below B4.out)
  have LT := Lib.hid (show w.heap.size < w4.heap.size by have := Z.out; have := B4.out.size; omega)
  have H3 := Lib.hid K3
  have H4 := Lib.hid K4
  clear hb4 hn4 hr4 hsb K3 K4 k0 k1 k2 k3 k4 k5 k6 k7 k8 k9 D2 F0
  go_wp2_with fail
  go_region_held3 (fun w' => w'.cell? ⟨w.heap.size, 0, none⟩ = some (.int .i64 f.kind) ∧ w'.cell? ⟨w.heap.size, 1, none⟩ = some (.int .u64 (f.id : Int)) ∧ w'.cell? ⟨w.heap.size, 2, none⟩ = some (.int .u64 (f.off : Int)) ∧ w'.cell? ⟨w.heap.size, 3, none⟩ = some (.int .u64 (f.max : Int)) ∧ w'.cell? ⟨w.heap.size, 4, none⟩ = some (.int .u64 (f.code : Int)) ∧ w'.cell? ⟨w.heap.size, 5, none⟩ = some (.int .u64 (f.delay : Int)) ∧ w'.cell? ⟨w.heap.size, 6, none⟩ = some (.int .u64 (f.ce : Int)) ∧ w'.cell? ⟨w.heap.size, 7, none⟩ = some (.bool f.fin) ∧ w'.cell? ⟨w.heap.size, 8, none⟩ = some (.slice D f.data.length dc) ∧ w'.cell? ⟨w.heap.size, 9, none⟩ = some (.slice S f.spans.length sc) ∧ (convert 23 9 (.slice A3 n3 c3)).run Tryd.prog w' = .ok (.string sb) w' ∧ (convert 23 9 (.slice A4 n4 c4)).run Tryd.prog w' = .ok (.string sb) w' ∧ Below w4.heap.size w4 w')
    ((refine ten_two KA.out LT.out ?_ H3.out H4.out; first | exact (Below.refl _ _).drew | assumption | exact below_drewN' (by assumption) _ | fail))
    (first
      | (go_at_call 9; refine (CC.out _ ?_).mono ?_; (exact below_trans' B4.out (held_tw (by assumption))); rintro e wa ⟨rfl, hba⟩; have hbn := below_trans' (a := w4) (held_tw (by assumption)) hba; clear hba)
      | (go_at_call 10; refine (CD.out _ ?_).mono ?_; (exact below_trans' B4.out (held_tw (by assumption))); rintro e wb ⟨rfl, hbb⟩; have hbm := below_trans' (a := w4) (held_tw (by assumption)) hbb; clear hbb)
      | fail)
  all_goals
    go_wp2_with fail
    go_ret
    exact ⟨rfl, below_trans' BV.out (below_trans' B4.out (by first | exact hbm | exact hbn))⟩

set_option maxRecDepth 100000 in
theorem lifted (os : Os) (started : os.Started) (H : Type) (enc : TypeId × Value → H) :
    ReturnsInHanded {} Tryd.checked os 3 .any (fun w args => (Rows.frameEncodesSpec.pre enc Tryd.prog Tryd.f3 [] false w args ∧ laidMetH Tryd.prog laidList w) ∧ sizedMet enc Tryd.prog Tryd.f3 (OpenSpec.ofChange Rows.frameEncodesSpec) false w args)
      (Rows.frameEncodesSpec.post enc Tryd.prog Tryd.f3 false true false false) := by
  refine returnsInHanded_of_change_and (C := Tryd.checked) (X := fun w _ => laidMetH Tryd.prog laidList w) (fun _ _ _ hh h => h.of_heap hh) own started (by kernel_rfl) Tryd.func3
    (ChangeSpec.witness_shaped (enc := enc) (C := Tryd.checked) (os := os) (X := fun w _ => laidMetH Tryd.prog laidList w) false (World.doorLaid Tryd.prog 400 os) #[.agg #[.int .i64 0, .int .u64 0, .int .u64 0, .int .u64 0, .int .u64 0, .int .u64 0, .int .u64 0, .bool false, .slice none 0 0, .slice none 0 0]] 8 rfl (World.shaped_of_RefB (by kernel_rfl) (by kernel_rfl)) (by kernel_rfl) (by kernel_rfl) (by kernel_rfl) (door_met os _)) ?_
  intro W base args ds gs before hval0 hW _ _ hL _
  have hval : ∀ (j : Nat) t v, Tryd.f3.params[j]? = some t → args[j]? = some v → Value.okWide Tryd.prog W .any base t v := hval0
  have hW' := hW
  obtain ⟨p, q, hA0, hV, rfl, hfz, hnd⟩ := hW
  have hA : DataW.TrodAll enc Tryd.prog W 0 (fun _ => true) true Tryd.f3.params.toList args.toList ds p := hA0
  obtain ⟨rfl, rfl⟩ := trodVars_none hV
  simp only [List.append_nil] at hW'
  have hlow : ∀ x ∈ p, x.block < W.heap.size := fun x hx => hW'.lt x hx
  have hA2 := hA
  rw [Tryd.params3] at hval hA2
  obtain ⟨v0, vs0, d0, ds0, p0, q0, hargs, rfl, rfl, h0, r0⟩ := trodAll_cons hA2
  obtain ⟨rfl, rfl, rfl⟩ := trodAll_nil r0
  obtain rfl : args = #[v0] := by cases args; simp_all
  obtain ⟨e0, rfl, ho0, hr0⟩ := open_frame (hval 0 26 v0 rfl rfl) h0 (fun x hx => hlow x (by simp [hx]))
  refine (walk e0 ho0 W hr0 (tab_of_laid hL)).mono fun e W' ⟨he, hg⟩ => ?_
  subst he
  exact ⟨_, rfl, law_true laid_out (by kernel_rfl) rfl Tryd.underlying4 (by kernel_rfl) hW' hA rfl rfl rfl hg⟩

theorem over : Rows.frameEncodesRow.holds Tryd.pinned (OpenSpec.ofChange Rows.frameEncodesSpec) :=
  OpenClaim.holds_of_wide 3 Tryd.f3 rfl rfl rfl rfl rfl rfl rfl ⟨rfl, rfl, rfl, rfl, rfl⟩ rfl rfl rfl rfl rfl (by kernel_rfl) Tryd.func3 (by kernel_rfl)
    (of_decide_eq_true (by kernel_rfl)) (by unfold Func.isWrapper; first | (rw [if_pos (by decide +kernel)]; kernel_rfl) | (rw [if_neg (by decide +kernel)]; exact ⟨rfl, rfl⟩))
    (fun os started H enc _ => lifted os started H enc)

/-- The statement: the card of it, its table tied to the program. -/
theorem proved : Rows.FrameEncodesCardSaid :=
  Claim7.holds_tied_plain_at .later [] [.data, .data] true (true, "ea6ff71575eee1eddf72ba030b096d9d8ec1fefc17dfb4eeb55029cc9306af6e") true
    over (fun _ h => by cases h) (by kernel_rfl) (fun _ h => by cases h) frameEncodes_row_tie rfl ⟨rfl, rfl⟩ (by kernel_rfl) rfl
    (fun f fn hf hfn => by
      obtain rfl : f = 3 := Option.some.inj ((show Tryd.prog.funcNamed "wigwag/wigwaglaw05.FrameEncodes" = some 3 by kernel_rfl).symm.trans hf) |>.symm
      obtain rfl : fn = Tryd.f3 := (Option.some.inj (Tryd.func3.symm.trans hfn)).symm
      exact ⟨by kernel_rfl, fun j t ht => by
        rw [Tryd.params3] at ht
        have hm : t ∈ [26] := by simpa using Array.mem_of_getElem? ht
        have hall : ([26].all fun u => !Tryd.prog.wantsStandIn u) = true := by kernel_rfl
        exact (show Tryd.prog.wantsStandIn t = false by simpa using List.all_eq_true.1 hall t hm)⟩)
    (by kernel_rfl)
end Go.Proofs.YthgblgdmcjeaiaaDoor.frameEncodes
