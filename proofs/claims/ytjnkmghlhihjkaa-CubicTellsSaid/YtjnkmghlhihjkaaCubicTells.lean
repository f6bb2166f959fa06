/-
  CubicTells: any window behind bytes that came, a loss, and a collapse, and what the cube says of any time, are what the document says. No condition.
-/
import Derived.Test.YtjnkmghlhihjkaaCbW
import Derived.Test.YtjnkmghlhihjkaaOpen
import Derived.Test.YtjnkmghlhihjkaaCbD
import Derived.Test.YtjnkmghlhihjkaaOpC
import Derived.Deep.CutBlock
import Derived.Deep.DeepCutAuto
namespace Go.Proofs.Ytjnkmghlhihjkaa.cubicTells
open Go.ChangeShapes Go.WideShapes Go.ChangeAt Go.RowKit Go.Deep
set_option linter.unusedVariables false

set_option maxHeartbeats 8000000 in
theorem walk (c t s : Nat) (h : Bool) (e m k es b a n tk : Nat) (l : Bool) (hc : c < 18446744073709551616) (ht : t < 18446744073709551616) (hs : s < 18446744073709551616) (he : e < 18446744073709551616) (hm : m < 18446744073709551616) (hk : k < 18446744073709551616) (hes : es < 18446744073709551616) (hb : b < 18446744073709551616) (ha : a < 18446744073709551616) (hn : n < 18446744073709551616) (htk : tk < 18446744073709551616) (w : World) :
    Calls Try.prog 3 #[aggCu c t s h e m k es, .int .u64 (b : Int), .int .u64 (a : Int), .int .u64 (n : Int), .int .u64 (tk : Int), .bool l] w fun e w' => e = .returned (.bool true) ∧ Below w.heap.size w w' := by
  have ok : Wig.Cb.Ok ⟨c, t, s, h, e, m, k, es⟩ := ⟨hc, ht, hs, he, hm, hk, hes⟩
  obtain ⟨⟨ac, a_t, as_, ah, ae, am, ak, aes⟩, hack⟩ : ∃ q, Wig.cack ⟨c, t, s, h, e, m, k, es⟩ b a n tk l = q := ⟨_, rfl⟩
  obtain ⟨⟨lc, l_t, ls, lh, le, lm, lk, les⟩, hloss⟩ : ∃ q, Wig.closs ⟨c, t, s, h, e, m, k, es⟩ a n = q := ⟨_, rfl⟩
  obtain ⟨r, hr⟩ : ∃ q, Wig.ctarget ⟨c, t, s, h, e, m, k, es⟩ tk = q := ⟨_, rfl⟩
  have C0 := Lib.hid (fun w => awake_any w)
  have C1 := Lib.hid (fun w => ack_any c t s h e m k es b a n tk ac a_t as_ ah l ae am ak aes w ok hb ha hn htk hack)
  have C2 := Lib.hid (fun w => rack_any c t s h e m k es b a n tk ac a_t as_ ah l ae am ak aes w ok hb ha hn htk hack)
  have C3 := Lib.hid (fun w => loss_any c t s h e m k es a n lc l_t ls lh le lm lk les w ok ha hn hloss)
  have C4 := Lib.hid (fun w => rloss_any c t s h e m k es a n lc l_t ls lh le lm lk les w ok ha hn hloss)
  have C5 := Lib.hid (fun w => coll_any c t s h e m k es w)
  have C6 := Lib.hid (fun w => rcoll_any c t s h e m k es w)
  have C7 := Lib.hid (fun w => target_any c t s h e m k es tk r w ok htk hr)
  have C8 := Lib.hid (fun w => rtarget_any c t s h e m k es tk r w ok htk hr)
  have CN := Lib.hid (fun w => new_any w)
  have CO := Lib.hid (fun w => rnew_any w)
  have g := cubic_guard
  have e1 := cubic_same ac a_t as_ ah ae am ak aes
  have e2 := cubic_same lc l_t ls lh le lm lk les
  have e3 := cubic_same 2400 t 0 false 0 m 0 0
  have e4 := cubic_same 12000 16777216 0 false 0 0 0 0
  clear ok hc ht hs he hm hk hes hb ha hn htk hack hloss hr
  have B0 := Lib.hid (Below.refl w.heap.size w)
  go_enter Try.func3, Try.ntmps3
  go_upto_region 1 with fail
  obtain ⟨w1, hw⟩ : ∃ wx, wx = w.alloc (.cells #[.int .u64 (c : Int), .int .u64 (t : Int), .int .u64 (s : Int), .bool h, .int .u64 (e : Int), .int .u64 (m : Int), .int .u64 (k : Int), .int .u64 (es : Int)] 24) := ⟨_, rfl⟩
  rw [← hw]
  obtain ⟨pC, hp⟩ : ∃ px, px = w.heap.size := ⟨_, rfl⟩
  rw [← hp]
  have hb : Below w.heap.size w w1 := by rw [hw]; exact (Below.refl _ _).alloc (Nat.le_refl _) _
  have hx : BxCu pC c t s h e m k es w1 := by rw [hp, hw]; exact BxCu.new _ c t s h e m k es
  have hs : pC < w1.heap.size := by rw [hp, hw]; simp
  have GC := Lib.hid (show w.heap.size ≤ pC by rw [hp]; exact B0.out.size)
  have B1 := Lib.hid (below_trans' B0.out hb)
  clear hb B0
  have XC1 := Lib.hid hx
  have SC1 := Lib.hid hs
  clear hx hs hw hp
  go_wp2_with fail
  refine (C0.out _).mono ?_
  rintro e w2 ⟨rfl, hb⟩
  have B2 := Lib.hid (below_trans' B1.out hb)
  have XC2 := Lib.hid (XC1.out.below hb SC1.out)
  have SC2 := Lib.hid (Nat.lt_of_lt_of_le SC1.out hb.size)
  clear hb B1 XC1 SC1
  go_wp2_with fail
  refine wp_region_held_drew (S := fun wx => BxCu pC c t s h e m k es wx ∧ Below w2.heap.size w2 wx) (by kernel_rfl) ?_ (fun hHeld => ?_)
  · exact ⟨XC2.out.drew, (Below.refl _ _).drew⟩
  refine held_take (v := .agg #[.int .u64 (c : Int), .int .u64 (t : Int), .int .u64 (s : Int), .bool h, .int .u64 (e : Int), .int .u64 (m : Int), .int .u64 (k : Int), .int .u64 (es : Int)]) 0 rfl (by kernel_rfl) (by kernel_rfl) (by kernel_rfl) (fun _ _ _ h => h) (by rfl) (fun wx hSw => by obtain ⟨c0, c1, c2, c3, c4, c5, c6, c7, -, -, -, -, -, -, -, -⟩ := hSw.1; clear hSw; go_simp) (by assumption) ?_
  try simp only [Act.put, List.setIfInBounds_toArray, List.set_cons_zero, List.set_cons_succ]
  refine held_take (v := ?vv102) 1 rfl (by kernel_rfl) (by kernel_rfl) (by kernel_rfl) (fun _ _ _ h => h) (by rfl) ?yy102 (by assumption) ?nn102
  case yy102 =>
    intro w hSw
    (try dsimp only at hSw)
    go_simp
    try with_reducible rfl
  try simp only [Act.put, List.setIfInBounds_toArray, List.set_cons_zero, List.set_cons_succ]
  refine held_take (v := ?vv103) 2 rfl (by kernel_rfl) (by kernel_rfl) (by kernel_rfl) (fun _ _ _ h => h) (by rfl) ?yy103 (by assumption) ?nn103
  case yy103 =>
    intro w hSw
    (try dsimp only at hSw)
    go_simp
    try with_reducible rfl
  try simp only [Act.put, List.setIfInBounds_toArray, List.set_cons_zero, List.set_cons_succ]
  refine held_take (v := ?vv104) 3 rfl (by kernel_rfl) (by kernel_rfl) (by kernel_rfl) (fun _ _ _ h => h) (by rfl) ?yy104 (by assumption) ?nn104
  case yy104 =>
    intro w hSw
    (try dsimp only at hSw)
    go_simp
    try with_reducible rfl
  try simp only [Act.put, List.setIfInBounds_toArray, List.set_cons_zero, List.set_cons_succ]
  refine held_take (v := ?vv105) 4 rfl (by kernel_rfl) (by kernel_rfl) (by kernel_rfl) (fun _ _ _ h => h) (by rfl) ?yy105 (by assumption) ?nn105
  case yy105 =>
    intro w hSw
    (try dsimp only at hSw)
    go_simp
    try with_reducible rfl
  try simp only [Act.put, List.setIfInBounds_toArray, List.set_cons_zero, List.set_cons_succ]
  refine held_take (v := ?vv106) 5 rfl (by kernel_rfl) (by kernel_rfl) (by kernel_rfl) (fun _ _ _ h => h) (by rfl) ?yy106 (by assumption) ?nn106
  case yy106 =>
    intro w hSw
    (try dsimp only at hSw)
    go_simp
    try with_reducible rfl
  try simp only [Act.put, List.setIfInBounds_toArray, List.set_cons_zero, List.set_cons_succ]
  refine held_take (v := .agg #[.int .u64 (c : Int), .int .u64 (t : Int), .int .u64 (s : Int), .bool h, .int .u64 (e : Int), .int .u64 (m : Int), .int .u64 (k : Int), .int .u64 (es : Int)]) 7 rfl (by kernel_rfl) (by kernel_rfl) (by kernel_rfl) (fun _ _ _ h => h) (by rfl) (fun wx hSw => by obtain ⟨c0, c1, c2, c3, c4, c5, c6, c7, -, -, -, -, -, -, -, -⟩ := hSw.1; clear hSw; go_simp) (by assumption) ?_
  try simp only [Act.put, List.setIfInBounds_toArray, List.set_cons_zero, List.set_cons_succ]
  refine held_take (v := ?vv108) 8 rfl (by kernel_rfl) (by kernel_rfl) (by kernel_rfl) (fun _ _ _ h => h) (by rfl) ?yy108 (by assumption) ?nn108
  case yy108 =>
    intro w hSw
    (try dsimp only at hSw)
    go_simp
    try with_reducible rfl
  try simp only [Act.put, List.setIfInBounds_toArray, List.set_cons_zero, List.set_cons_succ]
  refine held_take (v := ?vv109) 9 rfl (by kernel_rfl) (by kernel_rfl) (by kernel_rfl) (fun _ _ _ h => h) (by rfl) ?yy109 (by assumption) ?nn109
  case yy109 =>
    intro w hSw
    (try dsimp only at hSw)
    go_simp
    try with_reducible rfl
  try simp only [Act.put, List.setIfInBounds_toArray, List.set_cons_zero, List.set_cons_succ]
  refine held_take (v := ?vv110) 10 rfl (by kernel_rfl) (by kernel_rfl) (by kernel_rfl) (fun _ _ _ h => h) (by rfl) ?yy110 (by assumption) ?nn110
  case yy110 =>
    intro w hSw
    (try dsimp only at hSw)
    go_simp
    try with_reducible rfl
  try simp only [Act.put, List.setIfInBounds_toArray, List.set_cons_zero, List.set_cons_succ]
  refine held_take (v := ?vv111) 11 rfl (by kernel_rfl) (by kernel_rfl) (by kernel_rfl) (fun _ _ _ h => h) (by rfl) ?yy111 (by assumption) ?nn111
  case yy111 =>
    intro w hSw
    (try dsimp only at hSw)
    go_simp
    try with_reducible rfl
  try simp only [Act.put, List.setIfInBounds_toArray, List.set_cons_zero, List.set_cons_succ]
  refine held_take (v := ?vv112) 12 rfl (by kernel_rfl) (by kernel_rfl) (by kernel_rfl) (fun _ _ _ h => h) (by rfl) ?yy112 (by assumption) ?nn112
  case yy112 =>
    intro w hSw
    (try dsimp only at hSw)
    go_simp
    try with_reducible rfl
  try simp only [Act.put, List.setIfInBounds_toArray, List.set_cons_zero, List.set_cons_succ]
  refine held_do 6 rfl (by kernel_rfl) (by rfl) (fun K hK => ?_)
  go_wp2_with (go_at_call 9; refine (C1.out _).mono ?_; rintro e w3 ⟨rfl, hb3⟩; have K3 := Lib.hid (Below.trans hHeld.2 (hb3.mono hHeld.2.size)); clear hb3)
  refine hK.out _ _ ?_ (fun hHeld => ?_)
  · exact ⟨XC2.out.below K3.out SC2.out, K3.out⟩
  clear hK K
  try simp only [Act.put, List.setIfInBounds_toArray, List.set_cons_zero, List.set_cons_succ]
  refine held_do 13 rfl (by kernel_rfl) (by rfl) (fun K hK => ?_)
  go_wp2_with (go_at_call 10; refine (C2.out _).mono ?_; rintro e w4 ⟨rfl, hb4⟩; have K4 := Lib.hid (Below.trans hHeld.2 (hb4.mono hHeld.2.size)); clear hb4)
  refine hK.out _ _ ?_ (fun hHeld => ?_)
  · exact ⟨XC2.out.below K4.out SC2.out, K4.out⟩
  clear hK K
  try simp only [Act.put, List.setIfInBounds_toArray, List.set_cons_zero, List.set_cons_succ]
  refine held_take (v := ?vv115) 14 rfl (by kernel_rfl) (by kernel_rfl) (by kernel_rfl) (fun _ _ _ h => h) (by rfl) ?yy115 (by assumption) ?nn115
  case yy115 =>
    intro w hSw
    (try dsimp only at hSw)
    go_simp
    try with_reducible rfl
  try simp only [Act.put, List.setIfInBounds_toArray, List.set_cons_zero, List.set_cons_succ]
  refine held_take (v := ?vv116) 15 rfl (by kernel_rfl) (by kernel_rfl) (by kernel_rfl) (fun _ _ _ h => h) (by rfl) ?yy116 (by assumption) ?nn116
  case yy116 =>
    intro w hSw
    (try dsimp only at hSw)
    go_simp
    try with_reducible rfl
  try simp only [Act.put, List.setIfInBounds_toArray, List.set_cons_zero, List.set_cons_succ]
  refine wpAnyH_done (by kernel_rfl) ?_ _
  clear hHeld
  have B4 := Lib.hid (below_trans' B2.out K4.out)
  have XC4 := Lib.hid (XC2.out.below K4.out SC2.out)
  have SC4 := Lib.hid (Nat.lt_of_lt_of_le SC2.out K4.out.size)
  clear B2 XC2 SC2
  go_wp2_with fail
  refine wp_region_held_drew (S := fun wx => BxCu pC c t s h e m k es wx ∧ Below w4.heap.size w4 wx) (by kernel_rfl) ?_ (fun hHeld => ?_)
  · exact ⟨XC4.out.drew, (Below.refl _ _).drew⟩
  refine held_take (v := .agg #[.int .u64 (c : Int), .int .u64 (t : Int), .int .u64 (s : Int), .bool h, .int .u64 (e : Int), .int .u64 (m : Int), .int .u64 (k : Int), .int .u64 (es : Int)]) 0 rfl (by kernel_rfl) (by kernel_rfl) (by kernel_rfl) (fun _ _ _ h => h) (by rfl) (fun wx hSw => by obtain ⟨c0, c1, c2, c3, c4, c5, c6, c7, -, -, -, -, -, -, -, -⟩ := hSw.1; clear hSw; go_simp) (by assumption) ?_
  try simp only [Act.put, List.setIfInBounds_toArray, List.set_cons_zero, List.set_cons_succ]
  refine held_take (v := ?vv119) 1 rfl (by kernel_rfl) (by kernel_rfl) (by kernel_rfl) (fun _ _ _ h => h) (by rfl) ?yy119 (by assumption) ?nn119
  case yy119 =>
    intro w hSw
    (try dsimp only at hSw)
    go_simp
    try with_reducible rfl
  try simp only [Act.put, List.setIfInBounds_toArray, List.set_cons_zero, List.set_cons_succ]
  refine held_take (v := ?vv120) 2 rfl (by kernel_rfl) (by kernel_rfl) (by kernel_rfl) (fun _ _ _ h => h) (by rfl) ?yy120 (by assumption) ?nn120
  case yy120 =>
    intro w hSw
    (try dsimp only at hSw)
    go_simp
    try with_reducible rfl
  try simp only [Act.put, List.setIfInBounds_toArray, List.set_cons_zero, List.set_cons_succ]
  refine held_take (v := .agg #[.int .u64 (c : Int), .int .u64 (t : Int), .int .u64 (s : Int), .bool h, .int .u64 (e : Int), .int .u64 (m : Int), .int .u64 (k : Int), .int .u64 (es : Int)]) 4 rfl (by kernel_rfl) (by kernel_rfl) (by kernel_rfl) (fun _ _ _ h => h) (by rfl) (fun wx hSw => by obtain ⟨c0, c1, c2, c3, c4, c5, c6, c7, -, -, -, -, -, -, -, -⟩ := hSw.1; clear hSw; go_simp) (by assumption) ?_
  try simp only [Act.put, List.setIfInBounds_toArray, List.set_cons_zero, List.set_cons_succ]
  refine held_take (v := ?vv122) 5 rfl (by kernel_rfl) (by kernel_rfl) (by kernel_rfl) (fun _ _ _ h => h) (by rfl) ?yy122 (by assumption) ?nn122
  case yy122 =>
    intro w hSw
    (try dsimp only at hSw)
    go_simp
    try with_reducible rfl
  try simp only [Act.put, List.setIfInBounds_toArray, List.set_cons_zero, List.set_cons_succ]
  refine held_take (v := ?vv123) 6 rfl (by kernel_rfl) (by kernel_rfl) (by kernel_rfl) (fun _ _ _ h => h) (by rfl) ?yy123 (by assumption) ?nn123
  case yy123 =>
    intro w hSw
    (try dsimp only at hSw)
    go_simp
    try with_reducible rfl
  try simp only [Act.put, List.setIfInBounds_toArray, List.set_cons_zero, List.set_cons_succ]
  refine held_do 3 rfl (by kernel_rfl) (by rfl) (fun K hK => ?_)
  go_wp2_with (go_at_call 11; refine (C3.out _).mono ?_; rintro e w5 ⟨rfl, hb5⟩; have K5 := Lib.hid (Below.trans hHeld.2 (hb5.mono hHeld.2.size)); clear hb5)
  refine hK.out _ _ ?_ (fun hHeld => ?_)
  · exact ⟨XC4.out.below K5.out SC4.out, K5.out⟩
  clear hK K
  try simp only [Act.put, List.setIfInBounds_toArray, List.set_cons_zero, List.set_cons_succ]
  refine held_do 7 rfl (by kernel_rfl) (by rfl) (fun K hK => ?_)
  go_wp2_with (go_at_call 12; refine (C4.out _).mono ?_; rintro e w6 ⟨rfl, hb6⟩; have K6 := Lib.hid (Below.trans hHeld.2 (hb6.mono hHeld.2.size)); clear hb6)
  refine hK.out _ _ ?_ (fun hHeld => ?_)
  · exact ⟨XC4.out.below K6.out SC4.out, K6.out⟩
  clear hK K
  try simp only [Act.put, List.setIfInBounds_toArray, List.set_cons_zero, List.set_cons_succ]
  refine held_take (v := ?vv126) 8 rfl (by kernel_rfl) (by kernel_rfl) (by kernel_rfl) (fun _ _ _ h => h) (by rfl) ?yy126 (by assumption) ?nn126
  case yy126 =>
    intro w hSw
    (try dsimp only at hSw)
    go_simp
    try with_reducible rfl
  try simp only [Act.put, List.setIfInBounds_toArray, List.set_cons_zero, List.set_cons_succ]
  refine held_take (v := ?vv127) 9 rfl (by kernel_rfl) (by kernel_rfl) (by kernel_rfl) (fun _ _ _ h => h) (by rfl) ?yy127 (by assumption) ?nn127
  case yy127 =>
    intro w hSw
    (try dsimp only at hSw)
    go_simp
    try with_reducible rfl
  try simp only [Act.put, List.setIfInBounds_toArray, List.set_cons_zero, List.set_cons_succ]
  refine held_take (v := .agg #[.int .u64 (c : Int), .int .u64 (t : Int), .int .u64 (s : Int), .bool h, .int .u64 (e : Int), .int .u64 (m : Int), .int .u64 (k : Int), .int .u64 (es : Int)]) 10 rfl (by kernel_rfl) (by kernel_rfl) (by kernel_rfl) (fun _ _ _ h => h) (by rfl) (fun wx hSw => by obtain ⟨c0, c1, c2, c3, c4, c5, c6, c7, -, -, -, -, -, -, -, -⟩ := hSw.1; clear hSw; go_simp) (by assumption) ?_
  try simp only [Act.put, List.setIfInBounds_toArray, List.set_cons_zero, List.set_cons_succ]
  refine held_take (v := .agg #[.int .u64 (c : Int), .int .u64 (t : Int), .int .u64 (s : Int), .bool h, .int .u64 (e : Int), .int .u64 (m : Int), .int .u64 (k : Int), .int .u64 (es : Int)]) 12 rfl (by kernel_rfl) (by kernel_rfl) (by kernel_rfl) (fun _ _ _ h => h) (by rfl) (fun wx hSw => by obtain ⟨c0, c1, c2, c3, c4, c5, c6, c7, -, -, -, -, -, -, -, -⟩ := hSw.1; clear hSw; go_simp) (by assumption) ?_
  try simp only [Act.put, List.setIfInBounds_toArray, List.set_cons_zero, List.set_cons_succ]
  refine held_do 11 rfl (by kernel_rfl) (by rfl) (fun K hK => ?_)
  go_wp2_with (go_at_call 13; refine (C5.out _).mono ?_; rintro e w7 ⟨rfl, hb7⟩; have K7 := Lib.hid (Below.trans hHeld.2 (hb7.mono hHeld.2.size)); clear hb7)
  refine hK.out _ _ ?_ (fun hHeld => ?_)
  · exact ⟨XC4.out.below K7.out SC4.out, K7.out⟩
  clear hK K
  try simp only [Act.put, List.setIfInBounds_toArray, List.set_cons_zero, List.set_cons_succ]
  refine held_do 13 rfl (by kernel_rfl) (by rfl) (fun K hK => ?_)
  go_wp2_with (go_at_call 14; refine (C6.out _).mono ?_; rintro e w8 ⟨rfl, hb8⟩; have K8 := Lib.hid (Below.trans hHeld.2 (hb8.mono hHeld.2.size)); clear hb8)
  refine hK.out _ _ ?_ (fun hHeld => ?_)
  · exact ⟨XC4.out.below K8.out SC4.out, K8.out⟩
  clear hK K
  try simp only [Act.put, List.setIfInBounds_toArray, List.set_cons_zero, List.set_cons_succ]
  refine held_take (v := ?vv132) 14 rfl (by kernel_rfl) (by kernel_rfl) (by kernel_rfl) (fun _ _ _ h => h) (by rfl) ?yy132 (by assumption) ?nn132
  case yy132 =>
    intro w hSw
    (try dsimp only at hSw)
    go_simp
    try with_reducible rfl
  try simp only [Act.put, List.setIfInBounds_toArray, List.set_cons_zero, List.set_cons_succ]
  refine held_take (v := ?vv133) 15 rfl (by kernel_rfl) (by kernel_rfl) (by kernel_rfl) (fun _ _ _ h => h) (by rfl) ?yy133 (by assumption) ?nn133
  case yy133 =>
    intro w hSw
    (try dsimp only at hSw)
    go_simp
    try with_reducible rfl
  try simp only [Act.put, List.setIfInBounds_toArray, List.set_cons_zero, List.set_cons_succ]
  refine held_take (v := ?vv134) 16 rfl (by kernel_rfl) (by kernel_rfl) (by kernel_rfl) (fun _ _ _ h => h) (by rfl) ?yy134 (by assumption) ?nn134
  case yy134 =>
    intro w hSw
    (try dsimp only at hSw)
    go_simp
    try with_reducible rfl
  try simp only [Act.put, List.setIfInBounds_toArray, List.set_cons_zero, List.set_cons_succ]
  refine wpAnyH_done (by kernel_rfl) ?_ _
  clear hHeld
  have B8 := Lib.hid (below_trans' B4.out K8.out)
  have XC8 := Lib.hid (XC4.out.below K8.out SC4.out)
  have SC8 := Lib.hid (Nat.lt_of_lt_of_le SC4.out K8.out.size)
  clear B4 XC4 SC4
  go_wp2_with fail
  refine wp_region_held_drew (S := fun wx => BxCu pC c t s h e m k es wx ∧ Below w8.heap.size w8 wx) (by kernel_rfl) ?_ (fun hHeld => ?_)
  · exact ⟨XC8.out.drew, (Below.refl _ _).drew⟩
  refine held_take (v := ?vv136) 0 rfl (by kernel_rfl) (by kernel_rfl) (by kernel_rfl) (fun _ _ _ h => h) (by rfl) ?yy136 (by assumption) ?nn136
  case yy136 =>
    intro w hSw
    (try dsimp only at hSw)
    go_simp
    try with_reducible rfl
  try simp only [Act.put, List.setIfInBounds_toArray, List.set_cons_zero, List.set_cons_succ]
  refine held_take (v := ?vv137) 1 rfl (by kernel_rfl) (by kernel_rfl) (by kernel_rfl) (fun _ _ _ h => h) (by rfl) ?yy137 (by assumption) ?nn137
  case yy137 =>
    intro w hSw
    (try dsimp only at hSw)
    go_simp
    try with_reducible rfl
  try simp only [Act.put, List.setIfInBounds_toArray, List.set_cons_zero, List.set_cons_succ]
  refine held_take (v := ?vv138) 2 rfl (by kernel_rfl) (by kernel_rfl) (by kernel_rfl) (fun _ _ _ h => h) (by rfl) ?yy138 (by assumption) ?nn138
  case yy138 =>
    intro w hSw
    (try dsimp only at hSw)
    go_simp
    try with_reducible rfl
  try simp only [Act.put, List.setIfInBounds_toArray, List.set_cons_zero, List.set_cons_succ]
  refine held_take (v := ?vv139) 3 rfl (by kernel_rfl) (by kernel_rfl) (by kernel_rfl) (fun _ _ _ h => h) (by rfl) ?yy139 (by assumption) ?nn139
  case yy139 =>
    intro w hSw
    (try dsimp only at hSw)
    go_simp
    try with_reducible rfl
  try simp only [Act.put, List.setIfInBounds_toArray, List.set_cons_zero, List.set_cons_succ]
  refine held_take (v := ?vv140) 4 rfl (by kernel_rfl) (by kernel_rfl) (by kernel_rfl) (fun _ _ _ h => h) (by rfl) ?yy140 (by assumption) ?nn140
  case yy140 =>
    intro w hSw
    (try dsimp only at hSw)
    go_simp
    try with_reducible rfl
  try simp only [Act.put, List.setIfInBounds_toArray, List.set_cons_zero, List.set_cons_succ]
  refine held_take (v := ?vv141) 5 rfl (by kernel_rfl) (by kernel_rfl) (by kernel_rfl) (fun _ _ _ h => h) (by rfl) ?yy141 (by assumption) ?nn141
  case yy141 =>
    intro w hSw
    (try dsimp only at hSw)
    go_simp
    try with_reducible rfl
  try simp only [Act.put, List.setIfInBounds_toArray, List.set_cons_zero, List.set_cons_succ]
  refine held_take (v := ?vv142) 6 rfl (by kernel_rfl) (by kernel_rfl) (by kernel_rfl) (fun _ _ _ h => h) (by rfl) ?yy142 (by assumption) ?nn142
  case yy142 =>
    intro w hSw
    (try dsimp only at hSw)
    go_simp
    try with_reducible rfl
  try simp only [Act.put, List.setIfInBounds_toArray, List.set_cons_zero, List.set_cons_succ]
  refine held_take (v := ?vv143) 7 rfl (by kernel_rfl) (by kernel_rfl) (by kernel_rfl) (fun _ _ _ h => h) (by rfl) ?yy143 (by assumption) ?nn143
  case yy143 =>
    intro w hSw
    (try dsimp only at hSw)
    go_simp
    try with_reducible rfl
  try simp only [Act.put, List.setIfInBounds_toArray, List.set_cons_zero, List.set_cons_succ]
  refine held_take (v := .agg #[.int .u64 (c : Int), .int .u64 (t : Int), .int .u64 (s : Int), .bool h, .int .u64 (e : Int), .int .u64 (m : Int), .int .u64 (k : Int), .int .u64 (es : Int)]) 8 rfl (by kernel_rfl) (by kernel_rfl) (by kernel_rfl) (fun _ _ _ h => h) (by rfl) (fun wx hSw => by obtain ⟨c0, c1, c2, c3, c4, c5, c6, c7, -, -, -, -, -, -, -, -⟩ := hSw.1; clear hSw; go_simp) (by assumption) ?_
  try simp only [Act.put, List.setIfInBounds_toArray, List.set_cons_zero, List.set_cons_succ]
  refine held_take (v := ?vv145) 9 rfl (by kernel_rfl) (by kernel_rfl) (by kernel_rfl) (fun _ _ _ h => h) (by rfl) ?yy145 (by assumption) ?nn145
  case yy145 =>
    intro w hSw
    (try dsimp only at hSw)
    go_simp
    try with_reducible rfl
  try simp only [Act.put, List.setIfInBounds_toArray, List.set_cons_zero, List.set_cons_succ]
  refine held_take (v := .agg #[.int .u64 (c : Int), .int .u64 (t : Int), .int .u64 (s : Int), .bool h, .int .u64 (e : Int), .int .u64 (m : Int), .int .u64 (k : Int), .int .u64 (es : Int)]) 11 rfl (by kernel_rfl) (by kernel_rfl) (by kernel_rfl) (fun _ _ _ h => h) (by rfl) (fun wx hSw => by obtain ⟨c0, c1, c2, c3, c4, c5, c6, c7, -, -, -, -, -, -, -, -⟩ := hSw.1; clear hSw; go_simp) (by assumption) ?_
  try simp only [Act.put, List.setIfInBounds_toArray, List.set_cons_zero, List.set_cons_succ]
  refine held_take (v := ?vv147) 12 rfl (by kernel_rfl) (by kernel_rfl) (by kernel_rfl) (fun _ _ _ h => h) (by rfl) ?yy147 (by assumption) ?nn147
  case yy147 =>
    intro w hSw
    (try dsimp only at hSw)
    go_simp
    try with_reducible rfl
  try simp only [Act.put, List.setIfInBounds_toArray, List.set_cons_zero, List.set_cons_succ]
  refine held_do 10 rfl (by kernel_rfl) (by rfl) (fun K hK => ?_)
  go_wp2_with (go_at_call 15; refine (C7.out _).mono ?_; rintro e w9 ⟨rfl, hb9⟩; have K9 := Lib.hid (Below.trans hHeld.2 (hb9.mono hHeld.2.size)); clear hb9)
  refine hK.out _ _ ?_ (fun hHeld => ?_)
  · exact ⟨XC8.out.below K9.out SC8.out, K9.out⟩
  clear hK K
  try simp only [Act.put, List.setIfInBounds_toArray, List.set_cons_zero, List.set_cons_succ]
  refine held_do 13 rfl (by kernel_rfl) (by rfl) (fun K hK => ?_)
  go_wp2_with (go_at_call 16; refine (C8.out _).mono ?_; rintro e w10 ⟨rfl, hb10⟩; have K10 := Lib.hid (Below.trans hHeld.2 (hb10.mono hHeld.2.size)); clear hb10)
  refine hK.out _ _ ?_ (fun hHeld => ?_)
  · exact ⟨XC8.out.below K10.out SC8.out, K10.out⟩
  clear hK K
  try simp only [Act.put, List.setIfInBounds_toArray, List.set_cons_zero, List.set_cons_succ]
  refine held_take (v := ?vv150) 14 rfl (by kernel_rfl) (by kernel_rfl) (by kernel_rfl) (fun _ _ _ h => h) (by rfl) ?yy150 (by assumption) ?nn150
  case yy150 =>
    intro w hSw
    (try dsimp only at hSw)
    go_simp
    try with_reducible rfl
  try simp only [Act.put, List.setIfInBounds_toArray, List.set_cons_zero, List.set_cons_succ]
  refine held_take (v := ?vv151) 15 rfl (by kernel_rfl) (by kernel_rfl) (by kernel_rfl) (fun _ _ _ h => h) (by rfl) ?yy151 (by assumption) ?nn151
  case yy151 =>
    intro w hSw
    (try dsimp only at hSw)
    go_simp
    try with_reducible rfl
  try simp only [Act.put, List.setIfInBounds_toArray, List.set_cons_zero, List.set_cons_succ]
  refine held_take (v := ?vv152) 16 rfl (by kernel_rfl) (by kernel_rfl) (by kernel_rfl) (fun _ _ _ h => h) (by rfl) ?yy152 (by assumption) ?nn152
  case yy152 =>
    intro w hSw
    (try dsimp only at hSw)
    go_simp
    try with_reducible rfl
  try simp only [Act.put, List.setIfInBounds_toArray, List.set_cons_zero, List.set_cons_succ]
  refine held_do 17 rfl (by kernel_rfl) (by rfl) (fun K hK => ?_)
  go_wp2_with (go_at_call 17; refine (CN.out _).mono ?_; rintro e w11 ⟨rfl, hb11⟩; have K11 := Lib.hid (Below.trans hHeld.2 (hb11.mono hHeld.2.size)); clear hb11)
  refine hK.out _ _ ?_ (fun hHeld => ?_)
  · exact ⟨XC8.out.below K11.out SC8.out, K11.out⟩
  clear hK K
  try simp only [Act.put, List.setIfInBounds_toArray, List.set_cons_zero, List.set_cons_succ]
  refine held_do 18 rfl (by kernel_rfl) (by rfl) (fun K hK => ?_)
  go_wp2_with (go_at_call 18; refine (CO.out _).mono ?_; rintro e w12 ⟨rfl, hb12⟩; have K12 := Lib.hid (Below.trans hHeld.2 (hb12.mono hHeld.2.size)); clear hb12)
  refine hK.out _ _ ?_ (fun hHeld => ?_)
  · exact ⟨XC8.out.below K12.out SC8.out, K12.out⟩
  clear hK K
  try simp only [Act.put, List.setIfInBounds_toArray, List.set_cons_zero, List.set_cons_succ]
  refine held_take (v := ?vv155) 19 rfl (by kernel_rfl) (by kernel_rfl) (by kernel_rfl) (fun _ _ _ h => h) (by rfl) ?yy155 (by assumption) ?nn155
  case yy155 =>
    intro w hSw
    (try dsimp only at hSw)
    go_simp
    try with_reducible rfl
  try simp only [Act.put, List.setIfInBounds_toArray, List.set_cons_zero, List.set_cons_succ]
  refine held_take (v := ?vv156) 20 rfl (by kernel_rfl) (by kernel_rfl) (by kernel_rfl) (fun _ _ _ h => h) (by rfl) ?yy156 (by assumption) ?nn156
  case yy156 =>
    intro w hSw
    (try dsimp only at hSw)
    go_simp
    try with_reducible rfl
  try simp only [Act.put, List.setIfInBounds_toArray, List.set_cons_zero, List.set_cons_succ]
  refine held_take (v := ?vv157) 21 rfl (by kernel_rfl) (by kernel_rfl) (by kernel_rfl) (fun _ _ _ h => h) (by rfl) ?yy157 (by assumption) ?nn157
  case yy157 =>
    intro w hSw
    (try dsimp only at hSw)
    go_simp
    try with_reducible rfl
  try simp only [Act.put, List.setIfInBounds_toArray, List.set_cons_zero, List.set_cons_succ]
  refine wpAnyH_done (by kernel_rfl) ?_ _
  clear hHeld
  have B12 := Lib.hid (below_trans' B8.out K12.out)
  have XC12 := Lib.hid (XC8.out.below K12.out SC8.out)
  have SC12 := Lib.hid (Nat.lt_of_lt_of_le SC8.out K12.out.size)
  clear B8 XC8 SC8
  go_wp2_with fail
  go_ret
  exact ⟨rfl, B12.out⟩

set_option maxRecDepth 100000 in
theorem lifted (os : Os) (started : os.Started) (H : Type) (enc : TypeId × Value → H) :
    ReturnsInHanded {} Try.checked os 3 .any (Rows.cubicTellsSpec.pre6 enc Try.prog Try.f3 Rows.cubicTellsRow.domain false) (Rows.cubicTellsSpec.post enc Try.prog Try.f3 false true false false) := by
  refine returnsInHanded_of_change (C := Try.checked) own started (by kernel_rfl) Try.func3
    (ChangeSpec.witness6 (enc := enc) (C := Try.checked) false ⟨#[], #[.agg #[.int .u64 0, .int .u64 0, .int .u64 0, .bool false, .int .u64 0, .int .u64 0, .int .u64 0, .int .u64 0], .int .u64 0, .int .u64 0, .int .u64 0, .int .u64 0, .bool false], []⟩ 8 (by kernel_rfl) (by kernel_rfl) (by kernel_rfl) (by kernel_rfl)) ?_
  intro W base args ds gs before hval0 hW hcnd _
  have hval : ∀ (j : Nat) t v, Try.f3.params[j]? = some t → args[j]? = some v → Value.okWide Try.prog W .any base t v := hval0
  have hW' := hW
  obtain ⟨p, q, hA0, hV, rfl, hfz, hnd⟩ := hW
  have hA : DataW.TrodAll enc Try.prog W 0 (fun _ => true) true Try.f3.params.toList args.toList ds p := hA0
  obtain ⟨rfl, rfl⟩ := trodVars_none hV
  simp only [List.append_nil] at hW'
  have hlow : ∀ x ∈ p, x.block < W.heap.size := fun x hx => hW'.lt x hx
  have hA2 := hA
  rw [Try.params3] at hval hA2
  obtain ⟨v0, vs0, d0, ds0, p0, q0, hargs, rfl, rfl, h0, r0⟩ := trodAll_cons hA2
  obtain ⟨v1, vs1, d1, ds1, p1, q1, rfl, rfl, rfl, h1, r1⟩ := trodAll_cons r0
  obtain ⟨v2, vs2, d2, ds2, p2, q2, rfl, rfl, rfl, h2, r2⟩ := trodAll_cons r1
  obtain ⟨v3, vs3, d3, ds3, p3, q3, rfl, rfl, rfl, h3, r3⟩ := trodAll_cons r2
  obtain ⟨v4, vs4, d4, ds4, p4, q4, rfl, rfl, rfl, h4, r4⟩ := trodAll_cons r3
  obtain ⟨v5, vs5, d5, ds5, p5, q5, rfl, rfl, rfl, h5, r5⟩ := trodAll_cons r4
  obtain ⟨rfl, rfl, rfl⟩ := trodAll_nil r5
  obtain rfl : args = #[v0, v1, v2, v3, v4, v5] := by cases args; simp_all
  obtain ⟨x0_0, x0_1, x0_2, x0_3, x0_4, x0_5, x0_6, x0_7, rfl, b0_0, b0_1, b0_2, b0_4, b0_5, b0_6, b0_7⟩ := open_cubic (hval 0 24 v0 rfl rfl) h0 (fun x hx => hlow x (by simp [hx]))
  obtain ⟨n1, rfl, hn1⟩ := open_u64 Try.underlying22 (hval 1 22 v1 rfl rfl) h1
  obtain ⟨n2, rfl, hn2⟩ := open_u64 Try.underlying22 (hval 2 22 v2 rfl rfl) h2
  obtain ⟨n3, rfl, hn3⟩ := open_u64 Try.underlying22 (hval 3 22 v3 rfl rfl) h3
  obtain ⟨n4, rfl, hn4⟩ := open_u64 Try.underlying22 (hval 4 22 v4 rfl rfl) h4
  obtain ⟨q5, rfl, _, _⟩ := Go.RowKit.open_bool Try.underlying4 (hval 5 4 v5 rfl rfl) h5
  refine (walk x0_0 x0_1 x0_2 x0_3 x0_4 x0_5 x0_6 x0_7 n1 n2 n3 n4 q5 b0_0 b0_1 b0_2 b0_4 b0_5 b0_6 b0_7 hn1 hn2 hn3 hn4 W).mono fun e W' ⟨he, hg⟩ => ?_
  subst he
  exact ⟨_, rfl, law_true laid_out (by kernel_rfl) rfl Try.underlying4 (by kernel_rfl) hW' hA rfl rfl rfl hg⟩

theorem over : Rows.cubicTellsRow.holds Try.pinned (OpenSpec.ofChange Rows.cubicTellsSpec) :=
  OpenClaim.holds_of_wide 3 Try.f3 rfl rfl rfl rfl rfl rfl rfl ⟨rfl, rfl, rfl, rfl, rfl⟩ rfl rfl rfl rfl rfl (by kernel_rfl) Try.func3 (by kernel_rfl)
    (of_decide_eq_true (by kernel_rfl)) (by unfold Func.isWrapper; first | (rw [if_pos (by decide +kernel)]; kernel_rfl) | (rw [if_neg (by decide +kernel)]; exact ⟨rfl, rfl⟩))
    (fun os started H enc _ => lifted os started H enc)

/-- The statement. -/
theorem proved : Rows.CubicTellsSaid := over
end Go.Proofs.Ytjnkmghlhihjkaa.cubicTells
