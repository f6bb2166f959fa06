/-
  HystartTells: any slow start behind a time that an answer took, and by how much a window grows, is what the document says; so are New and Finish. No condition.
-/
import Derived.Test.YtaiephdacioedaaHyW
import Derived.Test.YtaiephdacioedaaOpen
import Derived.Test.YtaiephdacioedaaOpW
import Derived.Deep.CutBlock
import Derived.Deep.DeepCutAuto
namespace Go.Proofs.Ytaiephdacioedaa.hystartTells
open Go.ChangeShapes Go.WideShapes Go.ChangeAt Go.RowKit Go.Deep
set_option linter.unusedVariables false

set_option maxHeartbeats 4000000 in
theorem walk (ph : Int) (en lm nm ct ba ro : Nat) (m n t b : Nat) (hph : -9223372036854775808 ≤ ph) (hph2 : ph ≤ 9223372036854775807) (hen : en < 18446744073709551616) (hlm : lm < 18446744073709551616) (hnm : nm < 18446744073709551616) (hct : ct < 18446744073709551616) (hba : ba < 18446744073709551616) (hro : ro < 18446744073709551616) (hm : m < 18446744073709551616) (hn : n < 18446744073709551616) (ht : t < 18446744073709551616) (hb : b < 18446744073709551616) (w : World) :
    Calls Try.prog 4 #[aggSl ph en lm nm ct ba ro, .int .u64 (m : Int), .int .u64 (n : Int), .int .u64 (t : Int), .int .u64 (b : Int)] w fun e w' => e = .returned (.bool true) ∧ Below w.heap.size w w' := by
  have ok : Wig.Sw.Ok ⟨ph, en, lm, nm, ct, ba, ro⟩ := ⟨hph, hph2, hen, hlm, hnm, hct, hba, hro⟩
  obtain ⟨⟨a', b', c', d', f', y', r'⟩, hsam⟩ : ∃ q, Wig.hsample ⟨ph, en, lm, nm, ct, ba, ro⟩ m n t = q := ⟨_, rfl⟩
  obtain ⟨g, hg⟩ : ∃ q, Wig.hgrow ⟨ph, en, lm, nm, ct, ba, ro⟩ b = q := ⟨_, rfl⟩
  have C0 := Lib.hid (fun w => awake_any w)
  have C1 := Lib.hid (fun w => sample_any ph en lm nm ct ba ro m n t a' b' c' d' f' y' r' w ok hm hn ht hsam)
  have C2 := Lib.hid (fun w => rsample_any ph en lm nm ct ba ro m n t a' b' c' d' f' y' r' w ok hm hn ht hsam)
  have C3 := Lib.hid (fun w => grow_any ph en lm nm ct ba ro b g w hb hg)
  have C4 := Lib.hid (fun w => rgrow_any ph en lm nm ct ba ro b g w hb hg)
  have C5 := Lib.hid (fun w => new_any n w)
  have C6 := Lib.hid (fun w => rnew_any n w)
  have C7 := Lib.hid (fun w => finish_any ph en lm nm ct ba ro w)
  have C8 := Lib.hid (fun w => rfinish_any ph en lm nm ct ba ro w)
  have g0 := slow_guard
  have e1 := slow_same a' b' c' d' f' y' r'
  have e2 := slow_same 0 n 18446744073709551615 18446744073709551615 0 18446744073709551615 0
  have e3 := slow_same 2 en lm nm ct ba ro
  clear ok hph hph2 hen hlm hnm hct hba hro hm hn ht hb hsam hg
  have B0 := Lib.hid (Below.refl w.heap.size w)
  go_enter Try.func4, Try.ntmps4
  go_upto_region 1 with fail
  obtain ⟨w1, hw⟩ : ∃ wx, wx = w.alloc (.cells #[.int .i64 ph, .int .u64 (en : Int), .int .u64 (lm : Int), .int .u64 (nm : Int), .int .u64 (ct : Int), .int .u64 (ba : Int), .int .u64 (ro : Int)] 25) := ⟨_, rfl⟩
  rw [← hw]
  obtain ⟨pC, hp⟩ : ∃ px, px = w.heap.size := ⟨_, rfl⟩
  rw [← hp]
  have hb : Below w.heap.size w w1 := by rw [hw]; exact (Below.refl _ _).alloc (Nat.le_refl _) _
  have hx : BxSl pC ph en lm nm ct ba ro w1 := by rw [hp, hw]; exact BxSl.new _ ph en lm nm ct ba ro
  have hs : pC < w1.heap.size := by rw [hp, hw]; simp
  have GC := Lib.hid (show w.heap.size ≤ pC by rw [hp]; exact B0.out.size)
  have B1 := Lib.hid (below_trans' B0.out hb)
  clear hb B0
  have XC1 := Lib.hid hx
  have SC1 := Lib.hid hs
  clear hx hs hw hp
  go_wp2_with fail
  refine (C0.out _).mono ?_
  rintro e w2 ⟨rfl, hb⟩
  have B2 := Lib.hid (below_trans' B1.out hb)
  have XC2 := Lib.hid (XC1.out.below hb SC1.out)
  have SC2 := Lib.hid (Nat.lt_of_lt_of_le SC1.out hb.size)
  clear hb B1 XC1 SC1
  go_wp2_with fail
  refine wp_region_held_drew (S := fun wx => BxSl pC ph en lm nm ct ba ro wx ∧ Below w2.heap.size w2 wx) (by kernel_rfl) ?_ (fun hHeld => ?_)
  · exact ⟨XC2.out.drew, (Below.refl _ _).drew⟩
  refine held_take (v := ?vv101) 0 rfl (by kernel_rfl) (by kernel_rfl) (by kernel_rfl) (fun _ _ _ h => h) (by rfl) ?yy101 (by assumption) ?nn101
  case yy101 =>
    intro w hSw
    (try dsimp only at hSw)
    go_simp
    try with_reducible rfl
  try simp only [Act.put, List.setIfInBounds_toArray, List.set_cons_zero, List.set_cons_succ]
  refine held_take (v := ?vv102) 1 rfl (by kernel_rfl) (by kernel_rfl) (by kernel_rfl) (fun _ _ _ h => h) (by rfl) ?yy102 (by assumption) ?nn102
  case yy102 =>
    intro w hSw
    (try dsimp only at hSw)
    go_simp
    try with_reducible rfl
  try simp only [Act.put, List.setIfInBounds_toArray, List.set_cons_zero, List.set_cons_succ]
  refine held_take (v := .agg #[.int .i64 ph, .int .u64 (en : Int), .int .u64 (lm : Int), .int .u64 (nm : Int), .int .u64 (ct : Int), .int .u64 (ba : Int), .int .u64 (ro : Int)]) 2 rfl (by kernel_rfl) (by kernel_rfl) (by kernel_rfl) (fun _ _ _ h => h) (by rfl) (fun wx hSw => by obtain ⟨c0, c1, c2, c3, c4, c5, c6, -, -, -, -, -, -, -⟩ := hSw.1; clear hSw; go_simp) (by assumption) ?_
  try simp only [Act.put, List.setIfInBounds_toArray, List.set_cons_zero, List.set_cons_succ]
  refine held_take (v := ?vv104) 3 rfl (by kernel_rfl) (by kernel_rfl) (by kernel_rfl) (fun _ _ _ h => h) (by rfl) ?yy104 (by assumption) ?nn104
  case yy104 =>
    intro w hSw
    (try dsimp only at hSw)
    go_simp
    try with_reducible rfl
  try simp only [Act.put, List.setIfInBounds_toArray, List.set_cons_zero, List.set_cons_succ]
  refine held_take (v := ?vv105) 4 rfl (by kernel_rfl) (by kernel_rfl) (by kernel_rfl) (fun _ _ _ h => h) (by rfl) ?yy105 (by assumption) ?nn105
  case yy105 =>
    intro w hSw
    (try dsimp only at hSw)
    go_simp
    try with_reducible rfl
  try simp only [Act.put, List.setIfInBounds_toArray, List.set_cons_zero, List.set_cons_succ]
  refine held_take (v := ?vv106) 5 rfl (by kernel_rfl) (by kernel_rfl) (by kernel_rfl) (fun _ _ _ h => h) (by rfl) ?yy106 (by assumption) ?nn106
  case yy106 =>
    intro w hSw
    (try dsimp only at hSw)
    go_simp
    try with_reducible rfl
  try simp only [Act.put, List.setIfInBounds_toArray, List.set_cons_zero, List.set_cons_succ]
  refine held_take (v := .agg #[.int .i64 ph, .int .u64 (en : Int), .int .u64 (lm : Int), .int .u64 (nm : Int), .int .u64 (ct : Int), .int .u64 (ba : Int), .int .u64 (ro : Int)]) 7 rfl (by kernel_rfl) (by kernel_rfl) (by kernel_rfl) (fun _ _ _ h => h) (by rfl) (fun wx hSw => by obtain ⟨c0, c1, c2, c3, c4, c5, c6, -, -, -, -, -, -, -⟩ := hSw.1; clear hSw; go_simp) (by assumption) ?_
  try simp only [Act.put, List.setIfInBounds_toArray, List.set_cons_zero, List.set_cons_succ]
  refine held_take (v := ?vv108) 8 rfl (by kernel_rfl) (by kernel_rfl) (by kernel_rfl) (fun _ _ _ h => h) (by rfl) ?yy108 (by assumption) ?nn108
  case yy108 =>
    intro w hSw
    (try dsimp only at hSw)
    go_simp
    try with_reducible rfl
  try simp only [Act.put, List.setIfInBounds_toArray, List.set_cons_zero, List.set_cons_succ]
  refine held_take (v := ?vv109) 9 rfl (by kernel_rfl) (by kernel_rfl) (by kernel_rfl) (fun _ _ _ h => h) (by rfl) ?yy109 (by assumption) ?nn109
  case yy109 =>
    intro w hSw
    (try dsimp only at hSw)
    go_simp
    try with_reducible rfl
  try simp only [Act.put, List.setIfInBounds_toArray, List.set_cons_zero, List.set_cons_succ]
  refine held_take (v := ?vv110) 10 rfl (by kernel_rfl) (by kernel_rfl) (by kernel_rfl) (fun _ _ _ h => h) (by rfl) ?yy110 (by assumption) ?nn110
  case yy110 =>
    intro w hSw
    (try dsimp only at hSw)
    go_simp
    try with_reducible rfl
  try simp only [Act.put, List.setIfInBounds_toArray, List.set_cons_zero, List.set_cons_succ]
  refine held_do 6 rfl (by kernel_rfl) (by rfl) (fun K hK => ?_)
  go_wp2_with (go_at_call 10; refine (C1.out _).mono ?_; rintro e w3 ⟨rfl, hb3⟩; have K3 := Lib.hid (Below.trans hHeld.2 (hb3.mono hHeld.2.size)); clear hb3)
  refine hK.out _ _ ?_ (fun hHeld => ?_)
  · exact ⟨XC2.out.below K3.out SC2.out, K3.out⟩
  clear hK K
  try simp only [Act.put, List.setIfInBounds_toArray, List.set_cons_zero, List.set_cons_succ]
  refine held_do 11 rfl (by kernel_rfl) (by rfl) (fun K hK => ?_)
  go_wp2_with (go_at_call 11; refine (C2.out _).mono ?_; rintro e w4 ⟨rfl, hb4⟩; have K4 := Lib.hid (Below.trans hHeld.2 (hb4.mono hHeld.2.size)); clear hb4)
  refine hK.out _ _ ?_ (fun hHeld => ?_)
  · exact ⟨XC2.out.below K4.out SC2.out, K4.out⟩
  clear hK K
  try simp only [Act.put, List.setIfInBounds_toArray, List.set_cons_zero, List.set_cons_succ]
  refine held_take (v := ?vv113) 12 rfl (by kernel_rfl) (by kernel_rfl) (by kernel_rfl) (fun _ _ _ h => h) (by rfl) ?yy113 (by assumption) ?nn113
  case yy113 =>
    intro w hSw
    (try dsimp only at hSw)
    go_simp
    try with_reducible rfl
  try simp only [Act.put, List.setIfInBounds_toArray, List.set_cons_zero, List.set_cons_succ]
  refine held_take (v := ?vv114) 13 rfl (by kernel_rfl) (by kernel_rfl) (by kernel_rfl) (fun _ _ _ h => h) (by rfl) ?yy114 (by assumption) ?nn114
  case yy114 =>
    intro w hSw
    (try dsimp only at hSw)
    go_simp
    try with_reducible rfl
  try simp only [Act.put, List.setIfInBounds_toArray, List.set_cons_zero, List.set_cons_succ]
  refine held_take (v := ?vv115) 14 rfl (by kernel_rfl) (by kernel_rfl) (by kernel_rfl) (fun _ _ _ h => h) (by rfl) ?yy115 (by assumption) ?nn115
  case yy115 =>
    intro w hSw
    (try dsimp only at hSw)
    go_simp
    try with_reducible rfl
  try simp only [Act.put, List.setIfInBounds_toArray, List.set_cons_zero, List.set_cons_succ]
  refine held_take (v := .agg #[.int .i64 ph, .int .u64 (en : Int), .int .u64 (lm : Int), .int .u64 (nm : Int), .int .u64 (ct : Int), .int .u64 (ba : Int), .int .u64 (ro : Int)]) 15 rfl (by kernel_rfl) (by kernel_rfl) (by kernel_rfl) (fun _ _ _ h => h) (by rfl) (fun wx hSw => by obtain ⟨c0, c1, c2, c3, c4, c5, c6, -, -, -, -, -, -, -⟩ := hSw.1; clear hSw; go_simp) (by assumption) ?_
  try simp only [Act.put, List.setIfInBounds_toArray, List.set_cons_zero, List.set_cons_succ]
  refine held_take (v := ?vv117) 16 rfl (by kernel_rfl) (by kernel_rfl) (by kernel_rfl) (fun _ _ _ h => h) (by rfl) ?yy117 (by assumption) ?nn117
  case yy117 =>
    intro w hSw
    (try dsimp only at hSw)
    go_simp
    try with_reducible rfl
  try simp only [Act.put, List.setIfInBounds_toArray, List.set_cons_zero, List.set_cons_succ]
  refine held_take (v := .agg #[.int .i64 ph, .int .u64 (en : Int), .int .u64 (lm : Int), .int .u64 (nm : Int), .int .u64 (ct : Int), .int .u64 (ba : Int), .int .u64 (ro : Int)]) 18 rfl (by kernel_rfl) (by kernel_rfl) (by kernel_rfl) (fun _ _ _ h => h) (by rfl) (fun wx hSw => by obtain ⟨c0, c1, c2, c3, c4, c5, c6, -, -, -, -, -, -, -⟩ := hSw.1; clear hSw; go_simp) (by assumption) ?_
  try simp only [Act.put, List.setIfInBounds_toArray, List.set_cons_zero, List.set_cons_succ]
  refine held_take (v := ?vv119) 19 rfl (by kernel_rfl) (by kernel_rfl) (by kernel_rfl) (fun _ _ _ h => h) (by rfl) ?yy119 (by assumption) ?nn119
  case yy119 =>
    intro w hSw
    (try dsimp only at hSw)
    go_simp
    try with_reducible rfl
  try simp only [Act.put, List.setIfInBounds_toArray, List.set_cons_zero, List.set_cons_succ]
  refine held_do 17 rfl (by kernel_rfl) (by rfl) (fun K hK => ?_)
  go_wp2_with (go_at_call 12; refine (C3.out _).mono ?_; rintro e w5 ⟨rfl, hb5⟩; have K5 := Lib.hid (Below.trans hHeld.2 (hb5.mono hHeld.2.size)); clear hb5)
  refine hK.out _ _ ?_ (fun hHeld => ?_)
  · exact ⟨XC2.out.below K5.out SC2.out, K5.out⟩
  clear hK K
  try simp only [Act.put, List.setIfInBounds_toArray, List.set_cons_zero, List.set_cons_succ]
  refine held_do 20 rfl (by kernel_rfl) (by rfl) (fun K hK => ?_)
  go_wp2_with (go_at_call 13; refine (C4.out _).mono ?_; rintro e w6 ⟨rfl, hb6⟩; have K6 := Lib.hid (Below.trans hHeld.2 (hb6.mono hHeld.2.size)); clear hb6)
  refine hK.out _ _ ?_ (fun hHeld => ?_)
  · exact ⟨XC2.out.below K6.out SC2.out, K6.out⟩
  clear hK K
  try simp only [Act.put, List.setIfInBounds_toArray, List.set_cons_zero, List.set_cons_succ]
  refine held_take (v := ?vv122) 21 rfl (by kernel_rfl) (by kernel_rfl) (by kernel_rfl) (fun _ _ _ h => h) (by rfl) ?yy122 (by assumption) ?nn122
  case yy122 =>
    intro w hSw
    (try dsimp only at hSw)
    go_simp
    try with_reducible rfl
  try simp only [Act.put, List.setIfInBounds_toArray, List.set_cons_zero, List.set_cons_succ]
  refine held_take (v := ?vv123) 22 rfl (by kernel_rfl) (by kernel_rfl) (by kernel_rfl) (fun _ _ _ h => h) (by rfl) ?yy123 (by assumption) ?nn123
  case yy123 =>
    intro w hSw
    (try dsimp only at hSw)
    go_simp
    try with_reducible rfl
  try simp only [Act.put, List.setIfInBounds_toArray, List.set_cons_zero, List.set_cons_succ]
  refine held_take (v := ?vv124) 23 rfl (by kernel_rfl) (by kernel_rfl) (by kernel_rfl) (fun _ _ _ h => h) (by rfl) ?yy124 (by assumption) ?nn124
  case yy124 =>
    intro w hSw
    (try dsimp only at hSw)
    go_simp
    try with_reducible rfl
  try simp only [Act.put, List.setIfInBounds_toArray, List.set_cons_zero, List.set_cons_succ]
  refine held_take (v := ?vv125) 24 rfl (by kernel_rfl) (by kernel_rfl) (by kernel_rfl) (fun _ _ _ h => h) (by rfl) ?yy125 (by assumption) ?nn125
  case yy125 =>
    intro w hSw
    (try dsimp only at hSw)
    go_simp
    try with_reducible rfl
  try simp only [Act.put, List.setIfInBounds_toArray, List.set_cons_zero, List.set_cons_succ]
  refine held_take (v := ?vv126) 26 rfl (by kernel_rfl) (by kernel_rfl) (by kernel_rfl) (fun _ _ _ h => h) (by rfl) ?yy126 (by assumption) ?nn126
  case yy126 =>
    intro w hSw
    (try dsimp only at hSw)
    go_simp
    try with_reducible rfl
  try simp only [Act.put, List.setIfInBounds_toArray, List.set_cons_zero, List.set_cons_succ]
  refine held_do 25 rfl (by kernel_rfl) (by rfl) (fun K hK => ?_)
  go_wp2_with (go_at_call 14; refine (C5.out _).mono ?_; rintro e w7 ⟨rfl, hb7⟩; have K7 := Lib.hid (Below.trans hHeld.2 (hb7.mono hHeld.2.size)); clear hb7)
  refine hK.out _ _ ?_ (fun hHeld => ?_)
  · exact ⟨XC2.out.below K7.out SC2.out, K7.out⟩
  clear hK K
  try simp only [Act.put, List.setIfInBounds_toArray, List.set_cons_zero, List.set_cons_succ]
  refine held_do 27 rfl (by kernel_rfl) (by rfl) (fun K hK => ?_)
  go_wp2_with (go_at_call 15; refine (C6.out _).mono ?_; rintro e w8 ⟨rfl, hb8⟩; have K8 := Lib.hid (Below.trans hHeld.2 (hb8.mono hHeld.2.size)); clear hb8)
  refine hK.out _ _ ?_ (fun hHeld => ?_)
  · exact ⟨XC2.out.below K8.out SC2.out, K8.out⟩
  clear hK K
  try simp only [Act.put, List.setIfInBounds_toArray, List.set_cons_zero, List.set_cons_succ]
  refine held_take (v := ?vv129) 28 rfl (by kernel_rfl) (by kernel_rfl) (by kernel_rfl) (fun _ _ _ h => h) (by rfl) ?yy129 (by assumption) ?nn129
  case yy129 =>
    intro w hSw
    (try dsimp only at hSw)
    go_simp
    try with_reducible rfl
  try simp only [Act.put, List.setIfInBounds_toArray, List.set_cons_zero, List.set_cons_succ]
  refine held_take (v := ?vv130) 29 rfl (by kernel_rfl) (by kernel_rfl) (by kernel_rfl) (fun _ _ _ h => h) (by rfl) ?yy130 (by assumption) ?nn130
  case yy130 =>
    intro w hSw
    (try dsimp only at hSw)
    go_simp
    try with_reducible rfl
  try simp only [Act.put, List.setIfInBounds_toArray, List.set_cons_zero, List.set_cons_succ]
  refine held_take (v := ?vv131) 30 rfl (by kernel_rfl) (by kernel_rfl) (by kernel_rfl) (fun _ _ _ h => h) (by rfl) ?yy131 (by assumption) ?nn131
  case yy131 =>
    intro w hSw
    (try dsimp only at hSw)
    go_simp
    try with_reducible rfl
  try simp only [Act.put, List.setIfInBounds_toArray, List.set_cons_zero, List.set_cons_succ]
  refine held_take (v := .agg #[.int .i64 ph, .int .u64 (en : Int), .int .u64 (lm : Int), .int .u64 (nm : Int), .int .u64 (ct : Int), .int .u64 (ba : Int), .int .u64 (ro : Int)]) 31 rfl (by kernel_rfl) (by kernel_rfl) (by kernel_rfl) (fun _ _ _ h => h) (by rfl) (fun wx hSw => by obtain ⟨c0, c1, c2, c3, c4, c5, c6, -, -, -, -, -, -, -⟩ := hSw.1; clear hSw; go_simp) (by assumption) ?_
  try simp only [Act.put, List.setIfInBounds_toArray, List.set_cons_zero, List.set_cons_succ]
  refine held_take (v := .agg #[.int .i64 ph, .int .u64 (en : Int), .int .u64 (lm : Int), .int .u64 (nm : Int), .int .u64 (ct : Int), .int .u64 (ba : Int), .int .u64 (ro : Int)]) 33 rfl (by kernel_rfl) (by kernel_rfl) (by kernel_rfl) (fun _ _ _ h => h) (by rfl) (fun wx hSw => by obtain ⟨c0, c1, c2, c3, c4, c5, c6, -, -, -, -, -, -, -⟩ := hSw.1; clear hSw; go_simp) (by assumption) ?_
  try simp only [Act.put, List.setIfInBounds_toArray, List.set_cons_zero, List.set_cons_succ]
  refine held_do 32 rfl (by kernel_rfl) (by rfl) (fun K hK => ?_)
  go_wp2_with (go_at_call 16; refine (C7.out _).mono ?_; rintro e w9 ⟨rfl, hb9⟩; have K9 := Lib.hid (Below.trans hHeld.2 (hb9.mono hHeld.2.size)); clear hb9)
  refine hK.out _ _ ?_ (fun hHeld => ?_)
  · exact ⟨XC2.out.below K9.out SC2.out, K9.out⟩
  clear hK K
  try simp only [Act.put, List.setIfInBounds_toArray, List.set_cons_zero, List.set_cons_succ]
  refine held_do 34 rfl (by kernel_rfl) (by rfl) (fun K hK => ?_)
  go_wp2_with (go_at_call 17; refine (C8.out _).mono ?_; rintro e w10 ⟨rfl, hb10⟩; have K10 := Lib.hid (Below.trans hHeld.2 (hb10.mono hHeld.2.size)); clear hb10)
  refine hK.out _ _ ?_ (fun hHeld => ?_)
  · exact ⟨XC2.out.below K10.out SC2.out, K10.out⟩
  clear hK K
  try simp only [Act.put, List.setIfInBounds_toArray, List.set_cons_zero, List.set_cons_succ]
  refine held_take (v := ?vv136) 35 rfl (by kernel_rfl) (by kernel_rfl) (by kernel_rfl) (fun _ _ _ h => h) (by rfl) ?yy136 (by assumption) ?nn136
  case yy136 =>
    intro w hSw
    (try dsimp only at hSw)
    go_simp
    try with_reducible rfl
  try simp only [Act.put, List.setIfInBounds_toArray, List.set_cons_zero, List.set_cons_succ]
  refine held_take (v := ?vv137) 36 rfl (by kernel_rfl) (by kernel_rfl) (by kernel_rfl) (fun _ _ _ h => h) (by rfl) ?yy137 (by assumption) ?nn137
  case yy137 =>
    intro w hSw
    (try dsimp only at hSw)
    go_simp
    try with_reducible rfl
  try simp only [Act.put, List.setIfInBounds_toArray, List.set_cons_zero, List.set_cons_succ]
  refine held_take (v := ?vv138) 37 rfl (by kernel_rfl) (by kernel_rfl) (by kernel_rfl) (fun _ _ _ h => h) (by rfl) ?yy138 (by assumption) ?nn138
  case yy138 =>
    intro w hSw
    (try dsimp only at hSw)
    go_simp
    try with_reducible rfl
  try simp only [Act.put, List.setIfInBounds_toArray, List.set_cons_zero, List.set_cons_succ]
  refine wpAnyH_done (by kernel_rfl) ?_ _
  clear hHeld
  have B10 := Lib.hid (below_trans' B2.out K10.out)
  have XC10 := Lib.hid (XC2.out.below K10.out SC2.out)
  have SC10 := Lib.hid (Nat.lt_of_lt_of_le SC2.out K10.out.size)
  clear B2 XC2 SC2
  go_wp2_with fail
  go_ret
  exact ⟨rfl, B10.out⟩

set_option maxRecDepth 100000 in
theorem lifted (os : Os) (started : os.Started) (H : Type) (enc : TypeId × Value → H) :
    ReturnsInHanded {} Try.checked os 4 .any (Rows.hystartTellsSpec.pre6 enc Try.prog Try.f4 Rows.hystartTellsRow.domain false) (Rows.hystartTellsSpec.post enc Try.prog Try.f4 false true false false) := by
  refine returnsInHanded_of_change (C := Try.checked) own started (by kernel_rfl) Try.func4
    (ChangeSpec.witness6 (enc := enc) (C := Try.checked) false ⟨#[], #[.agg #[.int .i64 0, .int .u64 0, .int .u64 0, .int .u64 0, .int .u64 0, .int .u64 0, .int .u64 0], .int .u64 0, .int .u64 0, .int .u64 0, .int .u64 0], []⟩ 8 (by kernel_rfl) (by kernel_rfl) (by kernel_rfl) (by kernel_rfl)) ?_
  intro W base args ds gs before hval0 hW hcnd _
  have hval : ∀ (j : Nat) t v, Try.f4.params[j]? = some t → args[j]? = some v → Value.okWide Try.prog W .any base t v := hval0
  have hW' := hW
  obtain ⟨p, q, hA0, hV, rfl, hfz, hnd⟩ := hW
  have hA : DataW.TrodAll enc Try.prog W 0 (fun _ => true) true Try.f4.params.toList args.toList ds p := hA0
  obtain ⟨rfl, rfl⟩ := trodVars_none hV
  simp only [List.append_nil] at hW'
  have hlow : ∀ x ∈ p, x.block < W.heap.size := fun x hx => hW'.lt x hx
  have hA2 := hA
  rw [Try.params4] at hval hA2
  obtain ⟨v0, vs0, d0, ds0, p0, q0, hargs, rfl, rfl, h0, r0⟩ := trodAll_cons hA2
  obtain ⟨v1, vs1, d1, ds1, p1, q1, rfl, rfl, rfl, h1, r1⟩ := trodAll_cons r0
  obtain ⟨v2, vs2, d2, ds2, p2, q2, rfl, rfl, rfl, h2, r2⟩ := trodAll_cons r1
  obtain ⟨v3, vs3, d3, ds3, p3, q3, rfl, rfl, rfl, h3, r3⟩ := trodAll_cons r2
  obtain ⟨v4, vs4, d4, ds4, p4, q4, rfl, rfl, rfl, h4, r4⟩ := trodAll_cons r3
  obtain ⟨rfl, rfl, rfl⟩ := trodAll_nil r4
  obtain rfl : args = #[v0, v1, v2, v3, v4] := by cases args; simp_all
  obtain ⟨x0_0, x0_1, x0_2, x0_3, x0_4, x0_5, x0_6, rfl, b0_0, d0_0, b0_1, b0_2, b0_3, b0_4, b0_5, b0_6⟩ := open_slow (hval 0 25 v0 rfl rfl) h0 (fun x hx => hlow x (by simp [hx]))
  obtain ⟨n1, rfl, hn1⟩ := open_u64 Try.underlying23 (hval 1 23 v1 rfl rfl) h1
  obtain ⟨n2, rfl, hn2⟩ := open_u64 Try.underlying23 (hval 2 23 v2 rfl rfl) h2
  obtain ⟨n3, rfl, hn3⟩ := open_u64 Try.underlying23 (hval 3 23 v3 rfl rfl) h3
  obtain ⟨n4, rfl, hn4⟩ := open_u64 Try.underlying23 (hval 4 23 v4 rfl rfl) h4
  refine (walk x0_0 x0_1 x0_2 x0_3 x0_4 x0_5 x0_6 n1 n2 n3 n4 b0_0 d0_0 b0_1 b0_2 b0_3 b0_4 b0_5 b0_6 hn1 hn2 hn3 hn4 W).mono fun e W' ⟨he, hg⟩ => ?_
  subst he
  exact ⟨_, rfl, law_true laid_out (by kernel_rfl) rfl Try.underlying4 (by kernel_rfl) hW' hA rfl rfl rfl hg⟩

theorem over : Rows.hystartTellsRow.holds Try.pinned (OpenSpec.ofChange Rows.hystartTellsSpec) :=
  OpenClaim.holds_of_wide 4 Try.f4 rfl rfl rfl rfl rfl rfl rfl ⟨rfl, rfl, rfl, rfl, rfl⟩ rfl rfl rfl rfl rfl (by kernel_rfl) Try.func4 (by kernel_rfl)
    (of_decide_eq_true (by kernel_rfl)) (by unfold Func.isWrapper; first | (rw [if_pos (by decide +kernel)]; kernel_rfl) | (rw [if_neg (by decide +kernel)]; exact ⟨rfl, rfl⟩))
    (fun os started H enc _ => lifted os started H enc)

/-- The statement. -/
theorem proved : Rows.HystartTellsSaid := over
end Go.Proofs.Ytaiephdacioedaa.hystartTells
