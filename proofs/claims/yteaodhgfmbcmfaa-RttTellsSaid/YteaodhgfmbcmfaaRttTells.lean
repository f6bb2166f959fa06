/-
  RttTells: what is known behind any answer more, how long a sender waits, and how long a packet may be behind others, are what the document says. No condition.
-/
import Derived.Test.YteaodhgfmbcmfaaRtW
import Derived.Test.YteaodhgfmbcmfaaRtE
import Derived.Test.YteaodhgfmbcmfaaOpR
import Derived.Test.YteaodhgfmbcmfaaRgn
namespace Go.Proofs.Yteaodhgfmbcmfaa.rttTells
open Go.ChangeShapes Go.WideShapes Go.ChangeAt Go.RowKit Go.Deep
set_option linter.unusedVariables false

theorem held_bx {p a b c d : Nat} {h : Bool} {w1 w' : World} (x : Bx p h a b c d w1) (hp : p < w1.heap.size) (k : Below w1.heap.size w1 w') : Bx p h a b c d w' ∧ Below w1.heap.size w1 w' := ⟨x.below k hp, k⟩
theorem rup_has (r : Wig.Rt) (s dl m : Nat) : ∃ a b c d, Wig.rup r s dl m = ⟨true, a, b, c, d⟩ := by
  unfold Wig.rup
  split
  · exact ⟨_, _, _, _, rfl⟩
  · exact ⟨_, _, _, _, rfl⟩

set_option maxHeartbeats 4000000 in
theorem walk (h : Bool) (a b c d s dl m : Nat) (k : Int) (ha : a < 18446744073709551616) (hb : b < 18446744073709551616) (hc : c < 18446744073709551616) (hd : d < 18446744073709551616)
    (hs : s < 18446744073709551616) (hdl : dl < 18446744073709551616) (hm : m < 18446744073709551616) (hk0 : -9223372036854775808 ≤ k) (hk1 : k ≤ 9223372036854775807) (w : World) :
    Calls Try.prog 3 #[(.agg #[.bool h, .int .u64 (a : Int), .int .u64 (b : Int), .int .u64 (c : Int), .int .u64 (d : Int)]), .int .u64 (s : Int), .int .u64 (dl : Int), .int .u64 (m : Int), .int .i64 k] w fun e w' => e = .returned (.bool true) ∧ Below w.heap.size w w' := by
  have ok : Wig.Rt.Ok ⟨h, a, b, c, d⟩ := ⟨ha, hb, hc, hd⟩
  obtain ⟨w1, hw1⟩ : ∃ w1, w1 = w.alloc (.cells #[.bool h, .int .u64 (a : Int), .int .u64 (b : Int), .int .u64 (c : Int), .int .u64 (d : Int)] 24) := ⟨_, rfl⟩
  have HB1 := Lib.hid (show Below w.heap.size w w1 by rw [hw1]; exact (Below.refl _ _).alloc (Nat.le_refl _) _)
  have HX := Lib.hid (show Bx w.heap.size h a b c d w1 by rw [hw1]; exact Bx.new w h a b c d)
  have HS := Lib.hid (show w.heap.size < w1.heap.size by rw [hw1]; simp)
  have C0 := Lib.hid (fun w => awake_any w)
  obtain ⟨a', b', c', d', hup⟩ := rup_has ⟨h, a, b, c, d⟩ s dl m
  obtain ⟨x, hx⟩ : ∃ x, x = Wig.rwait ⟨h, a, b, c, d⟩ m k := ⟨_, rfl⟩
  obtain ⟨y, hy⟩ : ∃ y, y = Wig.rlate ⟨h, a, b, c, d⟩ := ⟨_, rfl⟩
  have C1 := Lib.hid (fun w => update_any h a b c d s dl m a' b' c' d' w ok hs hdl hm hup)
  have C2 := Lib.hid (fun w => rupdate_any h a b c d s dl m a' b' c' d' w ok hs hdl hm hup)
  have C3 := Lib.hid (fun w => timeout_any h a b c d m x k w ok hm hk0 hk1 hx.symm)
  have C4 := Lib.hid (fun w => rtimeout_any h a b c d m x k w ok hm hk0 hk1 hx.symm)
  have C5 := Lib.hid (fun w => late_any h a b c d y w ok hy.symm)
  have C6 := Lib.hid (fun w => rlate_any h a b c d y w ok hy.symm)
  have g := rtt_guard
  have ee := rtt_same true a' b' c' d'
  clear ha hb hc hd hs hdl hm hk0 hk1 ok hup hx hy
  go_enter Try.func3, Try.ntmps3
  go_wp2_with fail
  rw [← hw1]
  clear hw1
  refine (C0.out _).mono ?_
  rintro e w2 ⟨rfl, hb⟩
  have B2 := Lib.hid (HB1.out.trans (hb.mono (by have := HS.out; omega)))
  have X2 := Lib.hid (HX.out.below hb HS.out)
  have S2 := Lib.hid (show w.heap.size < w2.heap.size by have := HS.out; have := hb.size; omega)
  clear hb HB1 HX HS C0
  go_wp2_with fail
  refine wp_region_held_drew (S := fun w' => Bx w.heap.size h a b c d w' ∧ Below w2.heap.size w2 w') (by kernel_rfl) ?_ (fun hHeld => ?_)
  · exact held_bx X2.out S2.out (Below.refl _ _).drew
  refine held_take (v := ?vv301) 0 rfl (by kernel_rfl) (by kernel_rfl) (by kernel_rfl) (fun _ _ _ h => h) (by rfl) ?yy301 (by assumption) ?nn301
  case yy301 =>
    intro w hSw
    (try dsimp only at hSw)
    go_simp
    try with_reducible rfl
  try simp only [Act.put, List.setIfInBounds_toArray, List.set_cons_zero, List.set_cons_succ]
  refine held_take (v := ?vv302) 1 rfl (by kernel_rfl) (by kernel_rfl) (by kernel_rfl) (fun _ _ _ h => h) (by rfl) ?yy302 (by assumption) ?nn302
  case yy302 =>
    intro w hSw
    (try dsimp only at hSw)
    go_simp
    try with_reducible rfl
  try simp only [Act.put, List.setIfInBounds_toArray, List.set_cons_zero, List.set_cons_succ]
  refine held_take (v := .agg #[.bool h, .int .u64 (a : Int), .int .u64 (b : Int), .int .u64 (c : Int), .int .u64 (d : Int)]) 2 rfl (by kernel_rfl) (by kernel_rfl) (by kernel_rfl) (fun _ _ _ h => h) (by rfl) (fun wx hSw => by obtain ⟨c0, c1, c2, c3, c4, -, -, -, -, -⟩ := hSw.1; clear hSw; go_simp) (by assumption) ?_
  try simp only [Act.put, List.setIfInBounds_toArray, List.set_cons_zero, List.set_cons_succ]
  refine held_take (v := ?vv304) 3 rfl (by kernel_rfl) (by kernel_rfl) (by kernel_rfl) (fun _ _ _ h => h) (by rfl) ?yy304 (by assumption) ?nn304
  case yy304 =>
    intro w hSw
    (try dsimp only at hSw)
    go_simp
    try with_reducible rfl
  try simp only [Act.put, List.setIfInBounds_toArray, List.set_cons_zero, List.set_cons_succ]
  refine held_take (v := ?vv305) 4 rfl (by kernel_rfl) (by kernel_rfl) (by kernel_rfl) (fun _ _ _ h => h) (by rfl) ?yy305 (by assumption) ?nn305
  case yy305 =>
    intro w hSw
    (try dsimp only at hSw)
    go_simp
    try with_reducible rfl
  try simp only [Act.put, List.setIfInBounds_toArray, List.set_cons_zero, List.set_cons_succ]
  refine held_take (v := ?vv306) 5 rfl (by kernel_rfl) (by kernel_rfl) (by kernel_rfl) (fun _ _ _ h => h) (by rfl) ?yy306 (by assumption) ?nn306
  case yy306 =>
    intro w hSw
    (try dsimp only at hSw)
    go_simp
    try with_reducible rfl
  try simp only [Act.put, List.setIfInBounds_toArray, List.set_cons_zero, List.set_cons_succ]
  refine held_take (v := .agg #[.bool h, .int .u64 (a : Int), .int .u64 (b : Int), .int .u64 (c : Int), .int .u64 (d : Int)]) 7 rfl (by kernel_rfl) (by kernel_rfl) (by kernel_rfl) (fun _ _ _ h => h) (by rfl) (fun wx hSw => by obtain ⟨c0, c1, c2, c3, c4, -, -, -, -, -⟩ := hSw.1; clear hSw; go_simp) (by assumption) ?_
  try simp only [Act.put, List.setIfInBounds_toArray, List.set_cons_zero, List.set_cons_succ]
  refine held_take (v := ?vv308) 8 rfl (by kernel_rfl) (by kernel_rfl) (by kernel_rfl) (fun _ _ _ h => h) (by rfl) ?yy308 (by assumption) ?nn308
  case yy308 =>
    intro w hSw
    (try dsimp only at hSw)
    go_simp
    try with_reducible rfl
  try simp only [Act.put, List.setIfInBounds_toArray, List.set_cons_zero, List.set_cons_succ]
  refine held_take (v := ?vv309) 9 rfl (by kernel_rfl) (by kernel_rfl) (by kernel_rfl) (fun _ _ _ h => h) (by rfl) ?yy309 (by assumption) ?nn309
  case yy309 =>
    intro w hSw
    (try dsimp only at hSw)
    go_simp
    try with_reducible rfl
  try simp only [Act.put, List.setIfInBounds_toArray, List.set_cons_zero, List.set_cons_succ]
  refine held_take (v := ?vv310) 10 rfl (by kernel_rfl) (by kernel_rfl) (by kernel_rfl) (fun _ _ _ h => h) (by rfl) ?yy310 (by assumption) ?nn310
  case yy310 =>
    intro w hSw
    (try dsimp only at hSw)
    go_simp
    try with_reducible rfl
  try simp only [Act.put, List.setIfInBounds_toArray, List.set_cons_zero, List.set_cons_succ]
  refine held_do 6 rfl (by kernel_rfl) (by rfl) (fun K hK => ?_)
  go_wp2_with (go_at_call 9; refine (C1.out _).mono ?_; rintro e w3 ⟨rfl, hb3⟩; have K3 := Lib.hid (Below.trans hHeld.2 (hb3.mono hHeld.2.size)); clear hb3)
  refine hK.out _ _ ?_ (fun hHeld => ?_)
  · exact held_bx X2.out S2.out K3.out
  clear hK K
  try simp only [Act.put, List.setIfInBounds_toArray, List.set_cons_zero, List.set_cons_succ]
  refine held_do 11 rfl (by kernel_rfl) (by rfl) (fun K hK => ?_)
  go_wp2_with (go_at_call 10; refine (C2.out _).mono ?_; rintro e w4 ⟨rfl, hb4⟩; have K4 := Lib.hid (Below.trans hHeld.2 (hb4.mono hHeld.2.size)); clear hb4)
  refine hK.out _ _ ?_ (fun hHeld => ?_)
  · exact held_bx X2.out S2.out K4.out
  clear hK K
  try simp only [Act.put, List.setIfInBounds_toArray, List.set_cons_zero, List.set_cons_succ]
  refine held_take (v := ?vv313) 12 rfl (by kernel_rfl) (by kernel_rfl) (by kernel_rfl) (fun _ _ _ h => h) (by rfl) ?yy313 (by assumption) ?nn313
  case yy313 =>
    intro w hSw
    (try dsimp only at hSw)
    go_simp
    try with_reducible rfl
  try simp only [Act.put, List.setIfInBounds_toArray, List.set_cons_zero, List.set_cons_succ]
  refine held_take (v := ?vv314) 13 rfl (by kernel_rfl) (by kernel_rfl) (by kernel_rfl) (fun _ _ _ h => h) (by rfl) ?yy314 (by assumption) ?nn314
  case yy314 =>
    intro w hSw
    (try dsimp only at hSw)
    go_simp
    try with_reducible rfl
  try simp only [Act.put, List.setIfInBounds_toArray, List.set_cons_zero, List.set_cons_succ]
  refine held_take (v := ?vv315) 14 rfl (by kernel_rfl) (by kernel_rfl) (by kernel_rfl) (fun _ _ _ h => h) (by rfl) ?yy315 (by assumption) ?nn315
  case yy315 =>
    intro w hSw
    (try dsimp only at hSw)
    go_simp
    try with_reducible rfl
  try simp only [Act.put, List.setIfInBounds_toArray, List.set_cons_zero, List.set_cons_succ]
  refine held_take (v := .agg #[.bool h, .int .u64 (a : Int), .int .u64 (b : Int), .int .u64 (c : Int), .int .u64 (d : Int)]) 15 rfl (by kernel_rfl) (by kernel_rfl) (by kernel_rfl) (fun _ _ _ h => h) (by rfl) (fun wx hSw => by obtain ⟨c0, c1, c2, c3, c4, -, -, -, -, -⟩ := hSw.1; clear hSw; go_simp) (by assumption) ?_
  try simp only [Act.put, List.setIfInBounds_toArray, List.set_cons_zero, List.set_cons_succ]
  refine held_take (v := ?vv317) 16 rfl (by kernel_rfl) (by kernel_rfl) (by kernel_rfl) (fun _ _ _ h => h) (by rfl) ?yy317 (by assumption) ?nn317
  case yy317 =>
    intro w hSw
    (try dsimp only at hSw)
    go_simp
    try with_reducible rfl
  try simp only [Act.put, List.setIfInBounds_toArray, List.set_cons_zero, List.set_cons_succ]
  refine held_take (v := ?vv318) 17 rfl (by kernel_rfl) (by kernel_rfl) (by kernel_rfl) (fun _ _ _ h => h) (by rfl) ?yy318 (by assumption) ?nn318
  case yy318 =>
    intro w hSw
    (try dsimp only at hSw)
    go_simp
    try with_reducible rfl
  try simp only [Act.put, List.setIfInBounds_toArray, List.set_cons_zero, List.set_cons_succ]
  refine held_take (v := .agg #[.bool h, .int .u64 (a : Int), .int .u64 (b : Int), .int .u64 (c : Int), .int .u64 (d : Int)]) 19 rfl (by kernel_rfl) (by kernel_rfl) (by kernel_rfl) (fun _ _ _ h => h) (by rfl) (fun wx hSw => by obtain ⟨c0, c1, c2, c3, c4, -, -, -, -, -⟩ := hSw.1; clear hSw; go_simp) (by assumption) ?_
  try simp only [Act.put, List.setIfInBounds_toArray, List.set_cons_zero, List.set_cons_succ]
  refine held_take (v := ?vv320) 20 rfl (by kernel_rfl) (by kernel_rfl) (by kernel_rfl) (fun _ _ _ h => h) (by rfl) ?yy320 (by assumption) ?nn320
  case yy320 =>
    intro w hSw
    (try dsimp only at hSw)
    go_simp
    try with_reducible rfl
  try simp only [Act.put, List.setIfInBounds_toArray, List.set_cons_zero, List.set_cons_succ]
  refine held_take (v := ?vv321) 21 rfl (by kernel_rfl) (by kernel_rfl) (by kernel_rfl) (fun _ _ _ h => h) (by rfl) ?yy321 (by assumption) ?nn321
  case yy321 =>
    intro w hSw
    (try dsimp only at hSw)
    go_simp
    try with_reducible rfl
  try simp only [Act.put, List.setIfInBounds_toArray, List.set_cons_zero, List.set_cons_succ]
  refine held_do 18 rfl (by kernel_rfl) (by rfl) (fun K hK => ?_)
  go_wp2_with (go_at_call 11; refine (C3.out _).mono ?_; rintro e w5 ⟨rfl, hb5⟩; have K5 := Lib.hid (Below.trans hHeld.2 (hb5.mono hHeld.2.size)); clear hb5)
  refine hK.out _ _ ?_ (fun hHeld => ?_)
  · exact held_bx X2.out S2.out K5.out
  clear hK K
  try simp only [Act.put, List.setIfInBounds_toArray, List.set_cons_zero, List.set_cons_succ]
  refine held_do 22 rfl (by kernel_rfl) (by rfl) (fun K hK => ?_)
  go_wp2_with (go_at_call 12; refine (C4.out _).mono ?_; rintro e w6 ⟨rfl, hb6⟩; have K6 := Lib.hid (Below.trans hHeld.2 (hb6.mono hHeld.2.size)); clear hb6)
  refine hK.out _ _ ?_ (fun hHeld => ?_)
  · exact held_bx X2.out S2.out K6.out
  clear hK K
  try simp only [Act.put, List.setIfInBounds_toArray, List.set_cons_zero, List.set_cons_succ]
  refine held_take (v := ?vv324) 23 rfl (by kernel_rfl) (by kernel_rfl) (by kernel_rfl) (fun _ _ _ h => h) (by rfl) ?yy324 (by assumption) ?nn324
  case yy324 =>
    intro w hSw
    (try dsimp only at hSw)
    go_simp
    try with_reducible rfl
  try simp only [Act.put, List.setIfInBounds_toArray, List.set_cons_zero, List.set_cons_succ]
  refine held_take (v := ?vv325) 24 rfl (by kernel_rfl) (by kernel_rfl) (by kernel_rfl) (fun _ _ _ h => h) (by rfl) ?yy325 (by assumption) ?nn325
  case yy325 =>
    intro w hSw
    (try dsimp only at hSw)
    go_simp
    try with_reducible rfl
  try simp only [Act.put, List.setIfInBounds_toArray, List.set_cons_zero, List.set_cons_succ]
  refine held_take (v := ?vv326) 25 rfl (by kernel_rfl) (by kernel_rfl) (by kernel_rfl) (fun _ _ _ h => h) (by rfl) ?yy326 (by assumption) ?nn326
  case yy326 =>
    intro w hSw
    (try dsimp only at hSw)
    go_simp
    try with_reducible rfl
  try simp only [Act.put, List.setIfInBounds_toArray, List.set_cons_zero, List.set_cons_succ]
  refine held_take (v := .agg #[.bool h, .int .u64 (a : Int), .int .u64 (b : Int), .int .u64 (c : Int), .int .u64 (d : Int)]) 26 rfl (by kernel_rfl) (by kernel_rfl) (by kernel_rfl) (fun _ _ _ h => h) (by rfl) (fun wx hSw => by obtain ⟨c0, c1, c2, c3, c4, -, -, -, -, -⟩ := hSw.1; clear hSw; go_simp) (by assumption) ?_
  try simp only [Act.put, List.setIfInBounds_toArray, List.set_cons_zero, List.set_cons_succ]
  refine held_take (v := .agg #[.bool h, .int .u64 (a : Int), .int .u64 (b : Int), .int .u64 (c : Int), .int .u64 (d : Int)]) 28 rfl (by kernel_rfl) (by kernel_rfl) (by kernel_rfl) (fun _ _ _ h => h) (by rfl) (fun wx hSw => by obtain ⟨c0, c1, c2, c3, c4, -, -, -, -, -⟩ := hSw.1; clear hSw; go_simp) (by assumption) ?_
  try simp only [Act.put, List.setIfInBounds_toArray, List.set_cons_zero, List.set_cons_succ]
  refine held_do 27 rfl (by kernel_rfl) (by rfl) (fun K hK => ?_)
  go_wp2_with (go_at_call 13; refine (C5.out _).mono ?_; rintro e w7 ⟨rfl, hb7⟩; have K7 := Lib.hid (Below.trans hHeld.2 (hb7.mono hHeld.2.size)); clear hb7)
  refine hK.out _ _ ?_ (fun hHeld => ?_)
  · exact held_bx X2.out S2.out K7.out
  clear hK K
  try simp only [Act.put, List.setIfInBounds_toArray, List.set_cons_zero, List.set_cons_succ]
  refine held_do 29 rfl (by kernel_rfl) (by rfl) (fun K hK => ?_)
  go_wp2_with (go_at_call 14; refine (C6.out _).mono ?_; rintro e w8 ⟨rfl, hb8⟩; have K8 := Lib.hid (Below.trans hHeld.2 (hb8.mono hHeld.2.size)); clear hb8)
  refine hK.out _ _ ?_ (fun hHeld => ?_)
  · exact held_bx X2.out S2.out K8.out
  clear hK K
  try simp only [Act.put, List.setIfInBounds_toArray, List.set_cons_zero, List.set_cons_succ]
  refine held_take (v := ?vv331) 30 rfl (by kernel_rfl) (by kernel_rfl) (by kernel_rfl) (fun _ _ _ h => h) (by rfl) ?yy331 (by assumption) ?nn331
  case yy331 =>
    intro w hSw
    (try dsimp only at hSw)
    go_simp
    try with_reducible rfl
  try simp only [Act.put, List.setIfInBounds_toArray, List.set_cons_zero, List.set_cons_succ]
  refine held_take (v := ?vv332) 31 rfl (by kernel_rfl) (by kernel_rfl) (by kernel_rfl) (fun _ _ _ h => h) (by rfl) ?yy332 (by assumption) ?nn332
  case yy332 =>
    intro w hSw
    (try dsimp only at hSw)
    go_simp
    try with_reducible rfl
  try simp only [Act.put, List.setIfInBounds_toArray, List.set_cons_zero, List.set_cons_succ]
  refine held_take (v := ?vv333) 32 rfl (by kernel_rfl) (by kernel_rfl) (by kernel_rfl) (fun _ _ _ h => h) (by rfl) ?yy333 (by assumption) ?nn333
  case yy333 =>
    intro w hSw
    (try dsimp only at hSw)
    go_simp
    try with_reducible rfl
  try simp only [Act.put, List.setIfInBounds_toArray, List.set_cons_zero, List.set_cons_succ]
  refine wpAnyH_done (by kernel_rfl) ?_ _
  clear hHeld
  have BZ := Lib.hid (B2.out.trans (K8.out.mono B2.out.size))
  go_wp2_with fail
  go_ret
  exact ⟨rfl, BZ.out⟩

set_option maxRecDepth 100000 in
theorem lifted (os : Os) (started : os.Started) (H : Type) (enc : TypeId × Value → H) :
    ReturnsInHanded {} Try.checked os 3 .any (Rows.rttTellsSpec.pre6 enc Try.prog Try.f3 Rows.rttTellsRow.domain false) (Rows.rttTellsSpec.post enc Try.prog Try.f3 false true false false) := by
  refine returnsInHanded_of_change (C := Try.checked) own started (by kernel_rfl) Try.func3
    (ChangeSpec.witness6 (enc := enc) (C := Try.checked) false ⟨#[], #[.agg #[.bool false, .int .u64 0, .int .u64 0, .int .u64 0, .int .u64 0], .int .u64 0, .int .u64 0, .int .u64 0, .int .i64 0], []⟩ 8 (by kernel_rfl) (by kernel_rfl) (by kernel_rfl) (by kernel_rfl)) ?_
  intro W base args ds gs before hval0 hW hcnd _
  have hval : ∀ (j : Nat) t v, Try.f3.params[j]? = some t → args[j]? = some v → Value.okWide Try.prog W .any base t v := hval0
  have hW' := hW
  obtain ⟨p, q, hA0, hV, rfl, hfz, hnd⟩ := hW
  have hA : DataW.TrodAll enc Try.prog W 0 (fun _ => true) true Try.f3.params.toList args.toList ds p := hA0
  obtain ⟨rfl, rfl⟩ := trodVars_none hV
  simp only [List.append_nil] at hW'
  have hlow : ∀ x ∈ p, x.block < W.heap.size := fun x hx => hW'.lt x hx
  have hA2 := hA
  rw [Try.params3] at hval hA2
  obtain ⟨v0, vs0, d0, ds0, p0, q0, hargs, rfl, rfl, h0, r0⟩ := trodAll_cons hA2
  obtain ⟨v1, vs1, d1, ds1, p1, q1, rfl, rfl, rfl, h1, r1⟩ := trodAll_cons r0
  obtain ⟨v2, vs2, d2, ds2, p2, q2, rfl, rfl, rfl, h2, r2⟩ := trodAll_cons r1
  obtain ⟨v3, vs3, d3, ds3, p3, q3, rfl, rfl, rfl, h3, r3⟩ := trodAll_cons r2
  obtain ⟨v4, vs4, d4, ds4, p4, q4, rfl, rfl, rfl, h4, r4⟩ := trodAll_cons r3
  obtain ⟨rfl, rfl, rfl⟩ := trodAll_nil r4
  obtain rfl : args = #[v0, v1, v2, v3, v4] := by cases args; simp_all
  obtain ⟨x0_0, x0_1, x0_2, x0_3, x0_4, rfl, b0_1, b0_2, b0_3, b0_4⟩ := open_rtt (hval 0 24 v0 rfl rfl) h0
  obtain ⟨n1, rfl, hn1⟩ := open_u64 Try.underlying22 (hval 1 22 v1 rfl rfl) h1
  obtain ⟨n2, rfl, hn2⟩ := open_u64 Try.underlying22 (hval 2 22 v2 rfl rfl) h2
  obtain ⟨n3, rfl, hn3⟩ := open_u64 Try.underlying22 (hval 3 22 v3 rfl rfl) h3
  obtain ⟨i4, rfl, hi4, hj4⟩ := open_i64 Try.underlying3 (hval 4 3 v4 rfl rfl) h4
  refine (walk x0_0 x0_1 x0_2 x0_3 x0_4 n1 n2 n3 i4 b0_1 b0_2 b0_3 b0_4 hn1 hn2 hn3 hi4 hj4 W).mono fun e W' ⟨he, hg⟩ => ?_
  subst he
  exact ⟨_, rfl, law_true laid_out (by kernel_rfl) rfl Try.underlying4 (by kernel_rfl) hW' hA rfl rfl rfl hg⟩

theorem over : Rows.rttTellsRow.holds Try.pinned (OpenSpec.ofChange Rows.rttTellsSpec) :=
  OpenClaim.holds_of_wide 3 Try.f3 rfl rfl rfl rfl rfl rfl rfl ⟨rfl, rfl, rfl, rfl, rfl⟩ rfl rfl rfl rfl rfl (by kernel_rfl) Try.func3 (by kernel_rfl)
    (of_decide_eq_true (by kernel_rfl)) (by unfold Func.isWrapper; first | (rw [if_pos (by decide +kernel)]; kernel_rfl) | (rw [if_neg (by decide +kernel)]; exact ⟨rfl, rfl⟩))
    (fun os started H enc _ => lifted os started H enc)

/-- The statement. -/
theorem proved : Rows.RttTellsSaid := over
end Go.Proofs.Yteaodhgfmbcmfaa.rttTells
