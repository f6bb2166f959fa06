/-
  RenoTells: any window behind bytes that came, a loss, and a collapse, is what the document says; so are Held and New. No condition.
-/
import Derived.Test.YtfifhllckhdkfaaRnW
import Derived.Test.YtfifhllckhdkfaaOpen
import Derived.Test.YtfifhllckhdkfaaRnD
import Derived.Test.YtfifhllckhdkfaaOpN
import Derived.Deep.CutBlock
import Derived.Deep.DeepCutAuto
namespace Go.Proofs.Ytfifhllckhdkfaa.renoTells
open Go.ChangeShapes Go.WideShapes Go.ChangeAt Go.RowKit Go.Deep
set_option linter.unusedVariables false

set_option maxHeartbeats 4000000 in
theorem walk (c t s r b a n : Nat) (l : Bool) (hc : c < 18446744073709551616) (ht : t < 18446744073709551616) (hs : s < 18446744073709551616) (hr : r < 18446744073709551616) (hb : b < 18446744073709551616) (ha : a < 18446744073709551616) (hn : n < 18446744073709551616) (w : World) :
    Calls Try.prog 4 #[aggRn c t s r, .int .u64 (b : Int), .int .u64 (a : Int), .int .u64 (n : Int), .bool l] w fun e w' => e = .returned (.bool true) ∧ Below w.heap.size w w' := by
  have ok : Wig.Rn.Ok ⟨c, t, s, r⟩ := ⟨hc, ht, hs, hr⟩
  obtain ⟨⟨ac, a_t, as_, ar⟩, hack⟩ : ∃ q, Wig.nack ⟨c, t, s, r⟩ b a l = q := ⟨_, rfl⟩
  obtain ⟨⟨lc, l_t, ls, lr⟩, hloss⟩ : ∃ q, Wig.nloss ⟨c, t, s, r⟩ a n = q := ⟨_, rfl⟩
  obtain ⟨hh, hheld⟩ : ∃ q, Wig.nheld b = q := ⟨_, rfl⟩
  have C0 := Lib.hid (fun w => awake_any w)
  have C1 := Lib.hid (fun w => ack_any c t s r b a ac a_t as_ ar l w ok hb ha hack)
  have C2 := Lib.hid (fun w => rack_any c t s r b a ac a_t as_ ar l w ok hb ha hack)
  have C3 := Lib.hid (fun w => loss_any c t s r a n lc l_t ls lr w ok ha hn hloss)
  have C4 := Lib.hid (fun w => rloss_any c t s r a n lc l_t ls lr w ok ha hn hloss)
  have C5 := Lib.hid (fun w => coll_any c t s r w)
  have C6 := Lib.hid (fun w => rcoll_any c t s r w)
  have C7 := Lib.hid (fun w => held_any b hh w hheld)
  have C8 := Lib.hid (fun w => rheld_any b hh w hheld)
  have CN := Lib.hid (fun w => new_any w)
  have CO := Lib.hid (fun w => rnew_any w)
  have g := reno_guard
  have e1 := reno_same ac a_t as_ ar
  have e2 := reno_same lc l_t ls lr
  have e3 := reno_same 2400 t 0 0
  have e4 := reno_same 12000 16777216 0 0
  clear ok hc ht hs hr hb ha hn hack hloss hheld
  have B0 := Lib.hid (Below.refl w.heap.size w)
  go_enter Try.func4, Try.ntmps4
  go_upto_region 1 with fail
  obtain ⟨w1, hw⟩ : ∃ wx, wx = w.alloc (.cells #[.int .u64 (c : Int), .int .u64 (t : Int), .int .u64 (s : Int), .int .u64 (r : Int)] 25) := ⟨_, rfl⟩
  rw [← hw]
  obtain ⟨pC, hp⟩ : ∃ px, px = w.heap.size := ⟨_, rfl⟩
  rw [← hp]
  have hb : Below w.heap.size w w1 := by rw [hw]; exact (Below.refl _ _).alloc (Nat.le_refl _) _
  have hx : BxRn pC c t s r w1 := by rw [hp, hw]; exact BxRn.new _ c t s r
  have hs : pC < w1.heap.size := by rw [hp, hw]; simp
  have GC := Lib.hid (show w.heap.size ≤ pC by rw [hp]; exact B0.out.size)
  have B1 := Lib.hid (below_trans' B0.out hb)
  clear hb B0
  have XC1 := Lib.hid hx
  have SC1 := Lib.hid hs
  clear hx hs hw hp
  go_wp2_with fail
  refine (C0.out _).mono ?_
  rintro e w2 ⟨rfl, hb⟩
  have B2 := Lib.hid (below_trans' B1.out hb)
  have XC2 := Lib.hid (XC1.out.below hb SC1.out)
  have SC2 := Lib.hid (Nat.lt_of_lt_of_le SC1.out hb.size)
  clear hb B1 XC1 SC1
  go_wp2_with fail
  refine wp_region_held_drew (S := fun wx => BxRn pC c t s r wx ∧ Below w2.heap.size w2 wx) (by kernel_rfl) ?_ (fun hHeld => ?_)
  · exact ⟨XC2.out.drew, (Below.refl _ _).drew⟩
  refine held_take (v := .agg #[.int .u64 (c : Int), .int .u64 (t : Int), .int .u64 (s : Int), .int .u64 (r : Int)]) 0 rfl (by kernel_rfl) (by kernel_rfl) (by kernel_rfl) (fun _ _ _ h => h) (by rfl) (fun wx hSw => by obtain ⟨c0, c1, c2, c3, -, -, -, -⟩ := hSw.1; clear hSw; go_simp) (by assumption) ?_
  try simp only [Act.put, List.setIfInBounds_toArray, List.set_cons_zero, List.set_cons_succ]
  refine held_take (v := ?vv102) 1 rfl (by kernel_rfl) (by kernel_rfl) (by kernel_rfl) (fun _ _ _ h => h) (by rfl) ?yy102 (by assumption) ?nn102
  case yy102 =>
    intro w hSw
    (try dsimp only at hSw)
    go_simp
    try with_reducible rfl
  try simp only [Act.put, List.setIfInBounds_toArray, List.set_cons_zero, List.set_cons_succ]
  refine held_take (v := ?vv103) 2 rfl (by kernel_rfl) (by kernel_rfl) (by kernel_rfl) (fun _ _ _ h => h) (by rfl) ?yy103 (by assumption) ?nn103
  case yy103 =>
    intro w hSw
    (try dsimp only at hSw)
    go_simp
    try with_reducible rfl
  try simp only [Act.put, List.setIfInBounds_toArray, List.set_cons_zero, List.set_cons_succ]
  refine held_take (v := ?vv104) 3 rfl (by kernel_rfl) (by kernel_rfl) (by kernel_rfl) (fun _ _ _ h => h) (by rfl) ?yy104 (by assumption) ?nn104
  case yy104 =>
    intro w hSw
    (try dsimp only at hSw)
    go_simp
    try with_reducible rfl
  try simp only [Act.put, List.setIfInBounds_toArray, List.set_cons_zero, List.set_cons_succ]
  refine held_take (v := .agg #[.int .u64 (c : Int), .int .u64 (t : Int), .int .u64 (s : Int), .int .u64 (r : Int)]) 5 rfl (by kernel_rfl) (by kernel_rfl) (by kernel_rfl) (fun _ _ _ h => h) (by rfl) (fun wx hSw => by obtain ⟨c0, c1, c2, c3, -, -, -, -⟩ := hSw.1; clear hSw; go_simp) (by assumption) ?_
  try simp only [Act.put, List.setIfInBounds_toArray, List.set_cons_zero, List.set_cons_succ]
  refine held_take (v := ?vv106) 6 rfl (by kernel_rfl) (by kernel_rfl) (by kernel_rfl) (fun _ _ _ h => h) (by rfl) ?yy106 (by assumption) ?nn106
  case yy106 =>
    intro w hSw
    (try dsimp only at hSw)
    go_simp
    try with_reducible rfl
  try simp only [Act.put, List.setIfInBounds_toArray, List.set_cons_zero, List.set_cons_succ]
  refine held_take (v := ?vv107) 7 rfl (by kernel_rfl) (by kernel_rfl) (by kernel_rfl) (fun _ _ _ h => h) (by rfl) ?yy107 (by assumption) ?nn107
  case yy107 =>
    intro w hSw
    (try dsimp only at hSw)
    go_simp
    try with_reducible rfl
  try simp only [Act.put, List.setIfInBounds_toArray, List.set_cons_zero, List.set_cons_succ]
  refine held_take (v := ?vv108) 8 rfl (by kernel_rfl) (by kernel_rfl) (by kernel_rfl) (fun _ _ _ h => h) (by rfl) ?yy108 (by assumption) ?nn108
  case yy108 =>
    intro w hSw
    (try dsimp only at hSw)
    go_simp
    try with_reducible rfl
  try simp only [Act.put, List.setIfInBounds_toArray, List.set_cons_zero, List.set_cons_succ]
  refine held_do 4 rfl (by kernel_rfl) (by rfl) (fun K hK => ?_)
  go_wp2_with (go_at_call 11; refine (C1.out _).mono ?_; rintro e w3 ⟨rfl, hb3⟩; have K3 := Lib.hid (Below.trans hHeld.2 (hb3.mono hHeld.2.size)); clear hb3)
  refine hK.out _ _ ?_ (fun hHeld => ?_)
  · exact ⟨XC2.out.below K3.out SC2.out, K3.out⟩
  clear hK K
  try simp only [Act.put, List.setIfInBounds_toArray, List.set_cons_zero, List.set_cons_succ]
  refine held_do 9 rfl (by kernel_rfl) (by rfl) (fun K hK => ?_)
  go_wp2_with (go_at_call 12; refine (C2.out _).mono ?_; rintro e w4 ⟨rfl, hb4⟩; have K4 := Lib.hid (Below.trans hHeld.2 (hb4.mono hHeld.2.size)); clear hb4)
  refine hK.out _ _ ?_ (fun hHeld => ?_)
  · exact ⟨XC2.out.below K4.out SC2.out, K4.out⟩
  clear hK K
  try simp only [Act.put, List.setIfInBounds_toArray, List.set_cons_zero, List.set_cons_succ]
  refine held_take (v := ?vv111) 10 rfl (by kernel_rfl) (by kernel_rfl) (by kernel_rfl) (fun _ _ _ h => h) (by rfl) ?yy111 (by assumption) ?nn111
  case yy111 =>
    intro w hSw
    (try dsimp only at hSw)
    go_simp
    try with_reducible rfl
  try simp only [Act.put, List.setIfInBounds_toArray, List.set_cons_zero, List.set_cons_succ]
  refine held_take (v := ?vv112) 11 rfl (by kernel_rfl) (by kernel_rfl) (by kernel_rfl) (fun _ _ _ h => h) (by rfl) ?yy112 (by assumption) ?nn112
  case yy112 =>
    intro w hSw
    (try dsimp only at hSw)
    go_simp
    try with_reducible rfl
  try simp only [Act.put, List.setIfInBounds_toArray, List.set_cons_zero, List.set_cons_succ]
  refine wpAnyH_done (by kernel_rfl) ?_ _
  clear hHeld
  have B4 := Lib.hid (below_trans' B2.out K4.out)
  have XC4 := Lib.hid (XC2.out.below K4.out SC2.out)
  have SC4 := Lib.hid (Nat.lt_of_lt_of_le SC2.out K4.out.size)
  clear B2 XC2 SC2
  go_wp2_with fail
  refine wp_region_held_drew (S := fun wx => BxRn pC c t s r wx ∧ Below w4.heap.size w4 wx) (by kernel_rfl) ?_ (fun hHeld => ?_)
  · exact ⟨XC4.out.drew, (Below.refl _ _).drew⟩
  refine held_take (v := ?vv114) 0 rfl (by kernel_rfl) (by kernel_rfl) (by kernel_rfl) (fun _ _ _ h => h) (by rfl) ?yy114 (by assumption) ?nn114
  case yy114 =>
    intro w hSw
    (try dsimp only at hSw)
    go_simp
    try with_reducible rfl
  try simp only [Act.put, List.setIfInBounds_toArray, List.set_cons_zero, List.set_cons_succ]
  refine held_take (v := ?vv115) 1 rfl (by kernel_rfl) (by kernel_rfl) (by kernel_rfl) (fun _ _ _ h => h) (by rfl) ?yy115 (by assumption) ?nn115
  case yy115 =>
    intro w hSw
    (try dsimp only at hSw)
    go_simp
    try with_reducible rfl
  try simp only [Act.put, List.setIfInBounds_toArray, List.set_cons_zero, List.set_cons_succ]
  refine held_take (v := ?vv116) 2 rfl (by kernel_rfl) (by kernel_rfl) (by kernel_rfl) (fun _ _ _ h => h) (by rfl) ?yy116 (by assumption) ?nn116
  case yy116 =>
    intro w hSw
    (try dsimp only at hSw)
    go_simp
    try with_reducible rfl
  try simp only [Act.put, List.setIfInBounds_toArray, List.set_cons_zero, List.set_cons_succ]
  refine held_take (v := ?vv117) 3 rfl (by kernel_rfl) (by kernel_rfl) (by kernel_rfl) (fun _ _ _ h => h) (by rfl) ?yy117 (by assumption) ?nn117
  case yy117 =>
    intro w hSw
    (try dsimp only at hSw)
    go_simp
    try with_reducible rfl
  try simp only [Act.put, List.setIfInBounds_toArray, List.set_cons_zero, List.set_cons_succ]
  refine held_take (v := ?vv118) 4 rfl (by kernel_rfl) (by kernel_rfl) (by kernel_rfl) (fun _ _ _ h => h) (by rfl) ?yy118 (by assumption) ?nn118
  case yy118 =>
    intro w hSw
    (try dsimp only at hSw)
    go_simp
    try with_reducible rfl
  try simp only [Act.put, List.setIfInBounds_toArray, List.set_cons_zero, List.set_cons_succ]
  refine held_take (v := .agg #[.int .u64 (c : Int), .int .u64 (t : Int), .int .u64 (s : Int), .int .u64 (r : Int)]) 5 rfl (by kernel_rfl) (by kernel_rfl) (by kernel_rfl) (fun _ _ _ h => h) (by rfl) (fun wx hSw => by obtain ⟨c0, c1, c2, c3, -, -, -, -⟩ := hSw.1; clear hSw; go_simp) (by assumption) ?_
  try simp only [Act.put, List.setIfInBounds_toArray, List.set_cons_zero, List.set_cons_succ]
  refine held_take (v := ?vv120) 6 rfl (by kernel_rfl) (by kernel_rfl) (by kernel_rfl) (fun _ _ _ h => h) (by rfl) ?yy120 (by assumption) ?nn120
  case yy120 =>
    intro w hSw
    (try dsimp only at hSw)
    go_simp
    try with_reducible rfl
  try simp only [Act.put, List.setIfInBounds_toArray, List.set_cons_zero, List.set_cons_succ]
  refine held_take (v := ?vv121) 7 rfl (by kernel_rfl) (by kernel_rfl) (by kernel_rfl) (fun _ _ _ h => h) (by rfl) ?yy121 (by assumption) ?nn121
  case yy121 =>
    intro w hSw
    (try dsimp only at hSw)
    go_simp
    try with_reducible rfl
  try simp only [Act.put, List.setIfInBounds_toArray, List.set_cons_zero, List.set_cons_succ]
  refine held_take (v := .agg #[.int .u64 (c : Int), .int .u64 (t : Int), .int .u64 (s : Int), .int .u64 (r : Int)]) 9 rfl (by kernel_rfl) (by kernel_rfl) (by kernel_rfl) (fun _ _ _ h => h) (by rfl) (fun wx hSw => by obtain ⟨c0, c1, c2, c3, -, -, -, -⟩ := hSw.1; clear hSw; go_simp) (by assumption) ?_
  try simp only [Act.put, List.setIfInBounds_toArray, List.set_cons_zero, List.set_cons_succ]
  refine held_take (v := ?vv123) 10 rfl (by kernel_rfl) (by kernel_rfl) (by kernel_rfl) (fun _ _ _ h => h) (by rfl) ?yy123 (by assumption) ?nn123
  case yy123 =>
    intro w hSw
    (try dsimp only at hSw)
    go_simp
    try with_reducible rfl
  try simp only [Act.put, List.setIfInBounds_toArray, List.set_cons_zero, List.set_cons_succ]
  refine held_take (v := ?vv124) 11 rfl (by kernel_rfl) (by kernel_rfl) (by kernel_rfl) (fun _ _ _ h => h) (by rfl) ?yy124 (by assumption) ?nn124
  case yy124 =>
    intro w hSw
    (try dsimp only at hSw)
    go_simp
    try with_reducible rfl
  try simp only [Act.put, List.setIfInBounds_toArray, List.set_cons_zero, List.set_cons_succ]
  refine held_do 8 rfl (by kernel_rfl) (by rfl) (fun K hK => ?_)
  go_wp2_with (go_at_call 13; refine (C3.out _).mono ?_; rintro e w5 ⟨rfl, hb5⟩; have K5 := Lib.hid (Below.trans hHeld.2 (hb5.mono hHeld.2.size)); clear hb5)
  refine hK.out _ _ ?_ (fun hHeld => ?_)
  · exact ⟨XC4.out.below K5.out SC4.out, K5.out⟩
  clear hK K
  try simp only [Act.put, List.setIfInBounds_toArray, List.set_cons_zero, List.set_cons_succ]
  refine held_do 12 rfl (by kernel_rfl) (by rfl) (fun K hK => ?_)
  go_wp2_with (go_at_call 14; refine (C4.out _).mono ?_; rintro e w6 ⟨rfl, hb6⟩; have K6 := Lib.hid (Below.trans hHeld.2 (hb6.mono hHeld.2.size)); clear hb6)
  refine hK.out _ _ ?_ (fun hHeld => ?_)
  · exact ⟨XC4.out.below K6.out SC4.out, K6.out⟩
  clear hK K
  try simp only [Act.put, List.setIfInBounds_toArray, List.set_cons_zero, List.set_cons_succ]
  refine held_take (v := ?vv127) 13 rfl (by kernel_rfl) (by kernel_rfl) (by kernel_rfl) (fun _ _ _ h => h) (by rfl) ?yy127 (by assumption) ?nn127
  case yy127 =>
    intro w hSw
    (try dsimp only at hSw)
    go_simp
    try with_reducible rfl
  try simp only [Act.put, List.setIfInBounds_toArray, List.set_cons_zero, List.set_cons_succ]
  refine held_take (v := ?vv128) 14 rfl (by kernel_rfl) (by kernel_rfl) (by kernel_rfl) (fun _ _ _ h => h) (by rfl) ?yy128 (by assumption) ?nn128
  case yy128 =>
    intro w hSw
    (try dsimp only at hSw)
    go_simp
    try with_reducible rfl
  try simp only [Act.put, List.setIfInBounds_toArray, List.set_cons_zero, List.set_cons_succ]
  refine held_take (v := ?vv129) 15 rfl (by kernel_rfl) (by kernel_rfl) (by kernel_rfl) (fun _ _ _ h => h) (by rfl) ?yy129 (by assumption) ?nn129
  case yy129 =>
    intro w hSw
    (try dsimp only at hSw)
    go_simp
    try with_reducible rfl
  try simp only [Act.put, List.setIfInBounds_toArray, List.set_cons_zero, List.set_cons_succ]
  refine held_take (v := .agg #[.int .u64 (c : Int), .int .u64 (t : Int), .int .u64 (s : Int), .int .u64 (r : Int)]) 16 rfl (by kernel_rfl) (by kernel_rfl) (by kernel_rfl) (fun _ _ _ h => h) (by rfl) (fun wx hSw => by obtain ⟨c0, c1, c2, c3, -, -, -, -⟩ := hSw.1; clear hSw; go_simp) (by assumption) ?_
  try simp only [Act.put, List.setIfInBounds_toArray, List.set_cons_zero, List.set_cons_succ]
  refine held_take (v := .agg #[.int .u64 (c : Int), .int .u64 (t : Int), .int .u64 (s : Int), .int .u64 (r : Int)]) 18 rfl (by kernel_rfl) (by kernel_rfl) (by kernel_rfl) (fun _ _ _ h => h) (by rfl) (fun wx hSw => by obtain ⟨c0, c1, c2, c3, -, -, -, -⟩ := hSw.1; clear hSw; go_simp) (by assumption) ?_
  try simp only [Act.put, List.setIfInBounds_toArray, List.set_cons_zero, List.set_cons_succ]
  refine held_do 17 rfl (by kernel_rfl) (by rfl) (fun K hK => ?_)
  go_wp2_with (go_at_call 15; refine (C5.out _).mono ?_; rintro e w7 ⟨rfl, hb7⟩; have K7 := Lib.hid (Below.trans hHeld.2 (hb7.mono hHeld.2.size)); clear hb7)
  refine hK.out _ _ ?_ (fun hHeld => ?_)
  · exact ⟨XC4.out.below K7.out SC4.out, K7.out⟩
  clear hK K
  try simp only [Act.put, List.setIfInBounds_toArray, List.set_cons_zero, List.set_cons_succ]
  refine held_do 19 rfl (by kernel_rfl) (by rfl) (fun K hK => ?_)
  go_wp2_with (go_at_call 16; refine (C6.out _).mono ?_; rintro e w8 ⟨rfl, hb8⟩; have K8 := Lib.hid (Below.trans hHeld.2 (hb8.mono hHeld.2.size)); clear hb8)
  refine hK.out _ _ ?_ (fun hHeld => ?_)
  · exact ⟨XC4.out.below K8.out SC4.out, K8.out⟩
  clear hK K
  try simp only [Act.put, List.setIfInBounds_toArray, List.set_cons_zero, List.set_cons_succ]
  refine held_take (v := ?vv134) 20 rfl (by kernel_rfl) (by kernel_rfl) (by kernel_rfl) (fun _ _ _ h => h) (by rfl) ?yy134 (by assumption) ?nn134
  case yy134 =>
    intro w hSw
    (try dsimp only at hSw)
    go_simp
    try with_reducible rfl
  try simp only [Act.put, List.setIfInBounds_toArray, List.set_cons_zero, List.set_cons_succ]
  refine held_take (v := ?vv135) 21 rfl (by kernel_rfl) (by kernel_rfl) (by kernel_rfl) (fun _ _ _ h => h) (by rfl) ?yy135 (by assumption) ?nn135
  case yy135 =>
    intro w hSw
    (try dsimp only at hSw)
    go_simp
    try with_reducible rfl
  try simp only [Act.put, List.setIfInBounds_toArray, List.set_cons_zero, List.set_cons_succ]
  refine held_take (v := ?vv136) 22 rfl (by kernel_rfl) (by kernel_rfl) (by kernel_rfl) (fun _ _ _ h => h) (by rfl) ?yy136 (by assumption) ?nn136
  case yy136 =>
    intro w hSw
    (try dsimp only at hSw)
    go_simp
    try with_reducible rfl
  try simp only [Act.put, List.setIfInBounds_toArray, List.set_cons_zero, List.set_cons_succ]
  refine held_take (v := ?vv137) 23 rfl (by kernel_rfl) (by kernel_rfl) (by kernel_rfl) (fun _ _ _ h => h) (by rfl) ?yy137 (by assumption) ?nn137
  case yy137 =>
    intro w hSw
    (try dsimp only at hSw)
    go_simp
    try with_reducible rfl
  try simp only [Act.put, List.setIfInBounds_toArray, List.set_cons_zero, List.set_cons_succ]
  refine held_take (v := ?vv138) 25 rfl (by kernel_rfl) (by kernel_rfl) (by kernel_rfl) (fun _ _ _ h => h) (by rfl) ?yy138 (by assumption) ?nn138
  case yy138 =>
    intro w hSw
    (try dsimp only at hSw)
    go_simp
    try with_reducible rfl
  try simp only [Act.put, List.setIfInBounds_toArray, List.set_cons_zero, List.set_cons_succ]
  refine held_do 24 rfl (by kernel_rfl) (by rfl) (fun K hK => ?_)
  go_wp2_with (go_at_call 17; with_reducible refine (C7.out _).mono ?_; rintro e _ ⟨rfl, rfl⟩)
  refine hK.out _ _ ?_ (fun hHeld => ?_)
  · exact hHeld
  clear hK K
  try simp only [Act.put, List.setIfInBounds_toArray, List.set_cons_zero, List.set_cons_succ]
  refine held_do 26 rfl (by kernel_rfl) (by rfl) (fun K hK => ?_)
  go_wp2_with (go_at_call 18; with_reducible refine (C8.out _).mono ?_; rintro e _ ⟨rfl, rfl⟩)
  refine hK.out _ _ ?_ (fun hHeld => ?_)
  · exact hHeld
  clear hK K
  try simp only [Act.put, List.setIfInBounds_toArray, List.set_cons_zero, List.set_cons_succ]
  refine held_take (v := ?vv141) 27 rfl (by kernel_rfl) (by kernel_rfl) (by kernel_rfl) (fun _ _ _ h => h) (by rfl) ?yy141 (by assumption) ?nn141
  case yy141 =>
    intro w hSw
    (try dsimp only at hSw)
    go_simp
    try with_reducible rfl
  try simp only [Act.put, List.setIfInBounds_toArray, List.set_cons_zero, List.set_cons_succ]
  refine held_take (v := ?vv142) 28 rfl (by kernel_rfl) (by kernel_rfl) (by kernel_rfl) (fun _ _ _ h => h) (by rfl) ?yy142 (by assumption) ?nn142
  case yy142 =>
    intro w hSw
    (try dsimp only at hSw)
    go_simp
    try with_reducible rfl
  try simp only [Act.put, List.setIfInBounds_toArray, List.set_cons_zero, List.set_cons_succ]
  refine held_take (v := ?vv143) 29 rfl (by kernel_rfl) (by kernel_rfl) (by kernel_rfl) (fun _ _ _ h => h) (by rfl) ?yy143 (by assumption) ?nn143
  case yy143 =>
    intro w hSw
    (try dsimp only at hSw)
    go_simp
    try with_reducible rfl
  try simp only [Act.put, List.setIfInBounds_toArray, List.set_cons_zero, List.set_cons_succ]
  refine held_do 30 rfl (by kernel_rfl) (by rfl) (fun K hK => ?_)
  go_wp2_with (go_at_call 19; refine (CN.out _).mono ?_; rintro e w9 ⟨rfl, hb9⟩; have K9 := Lib.hid (Below.trans hHeld.2 (hb9.mono hHeld.2.size)); clear hb9)
  refine hK.out _ _ ?_ (fun hHeld => ?_)
  · exact ⟨XC4.out.below K9.out SC4.out, K9.out⟩
  clear hK K
  try simp only [Act.put, List.setIfInBounds_toArray, List.set_cons_zero, List.set_cons_succ]
  refine held_do 31 rfl (by kernel_rfl) (by rfl) (fun K hK => ?_)
  go_wp2_with (go_at_call 20; refine (CO.out _).mono ?_; rintro e w10 ⟨rfl, hb10⟩; have K10 := Lib.hid (Below.trans hHeld.2 (hb10.mono hHeld.2.size)); clear hb10)
  refine hK.out _ _ ?_ (fun hHeld => ?_)
  · exact ⟨XC4.out.below K10.out SC4.out, K10.out⟩
  clear hK K
  try simp only [Act.put, List.setIfInBounds_toArray, List.set_cons_zero, List.set_cons_succ]
  refine held_take (v := ?vv146) 32 rfl (by kernel_rfl) (by kernel_rfl) (by kernel_rfl) (fun _ _ _ h => h) (by rfl) ?yy146 (by assumption) ?nn146
  case yy146 =>
    intro w hSw
    (try dsimp only at hSw)
    go_simp
    try with_reducible rfl
  try simp only [Act.put, List.setIfInBounds_toArray, List.set_cons_zero, List.set_cons_succ]
  refine held_take (v := ?vv147) 33 rfl (by kernel_rfl) (by kernel_rfl) (by kernel_rfl) (fun _ _ _ h => h) (by rfl) ?yy147 (by assumption) ?nn147
  case yy147 =>
    intro w hSw
    (try dsimp only at hSw)
    go_simp
    try with_reducible rfl
  try simp only [Act.put, List.setIfInBounds_toArray, List.set_cons_zero, List.set_cons_succ]
  refine held_take (v := ?vv148) 34 rfl (by kernel_rfl) (by kernel_rfl) (by kernel_rfl) (fun _ _ _ h => h) (by rfl) ?yy148 (by assumption) ?nn148
  case yy148 =>
    intro w hSw
    (try dsimp only at hSw)
    go_simp
    try with_reducible rfl
  try simp only [Act.put, List.setIfInBounds_toArray, List.set_cons_zero, List.set_cons_succ]
  refine wpAnyH_done (by kernel_rfl) ?_ _
  clear hHeld
  have B10 := Lib.hid (below_trans' B4.out K10.out)
  have XC10 := Lib.hid (XC4.out.below K10.out SC4.out)
  have SC10 := Lib.hid (Nat.lt_of_lt_of_le SC4.out K10.out.size)
  clear B4 XC4 SC4
  go_wp2_with fail
  go_ret
  exact ⟨rfl, B10.out⟩

set_option maxRecDepth 100000 in
theorem lifted (os : Os) (started : os.Started) (H : Type) (enc : TypeId × Value → H) :
    ReturnsInHanded {} Try.checked os 4 .any (Rows.renoTellsSpec.pre6 enc Try.prog Try.f4 Rows.renoTellsRow.domain false) (Rows.renoTellsSpec.post enc Try.prog Try.f4 false true false false) := by
  refine returnsInHanded_of_change (C := Try.checked) own started (by kernel_rfl) Try.func4
    (ChangeSpec.witness6 (enc := enc) (C := Try.checked) false ⟨#[], #[.agg #[.int .u64 0, .int .u64 0, .int .u64 0, .int .u64 0], .int .u64 0, .int .u64 0, .int .u64 0, .bool false], []⟩ 8 (by kernel_rfl) (by kernel_rfl) (by kernel_rfl) (by kernel_rfl)) ?_
  intro W base args ds gs before hval0 hW hcnd _
  have hval : ∀ (j : Nat) t v, Try.f4.params[j]? = some t → args[j]? = some v → Value.okWide Try.prog W .any base t v := hval0
  have hW' := hW
  obtain ⟨p, q, hA0, hV, rfl, hfz, hnd⟩ := hW
  have hA : DataW.TrodAll enc Try.prog W 0 (fun _ => true) true Try.f4.params.toList args.toList ds p := hA0
  obtain ⟨rfl, rfl⟩ := trodVars_none hV
  simp only [List.append_nil] at hW'
  have hlow : ∀ x ∈ p, x.block < W.heap.size := fun x hx => hW'.lt x hx
  have hA2 := hA
  rw [Try.params4] at hval hA2
  obtain ⟨v0, vs0, d0, ds0, p0, q0, hargs, rfl, rfl, h0, r0⟩ := trodAll_cons hA2
  obtain ⟨v1, vs1, d1, ds1, p1, q1, rfl, rfl, rfl, h1, r1⟩ := trodAll_cons r0
  obtain ⟨v2, vs2, d2, ds2, p2, q2, rfl, rfl, rfl, h2, r2⟩ := trodAll_cons r1
  obtain ⟨v3, vs3, d3, ds3, p3, q3, rfl, rfl, rfl, h3, r3⟩ := trodAll_cons r2
  obtain ⟨v4, vs4, d4, ds4, p4, q4, rfl, rfl, rfl, h4, r4⟩ := trodAll_cons r3
  obtain ⟨rfl, rfl, rfl⟩ := trodAll_nil r4
  obtain rfl : args = #[v0, v1, v2, v3, v4] := by cases args; simp_all
  obtain ⟨x0_0, x0_1, x0_2, x0_3, rfl, b0_0, b0_1, b0_2, b0_3⟩ := open_reno (hval 0 25 v0 rfl rfl) h0 (fun x hx => hlow x (by simp [hx]))
  obtain ⟨n1, rfl, hn1⟩ := open_u64 Try.underlying23 (hval 1 23 v1 rfl rfl) h1
  obtain ⟨n2, rfl, hn2⟩ := open_u64 Try.underlying23 (hval 2 23 v2 rfl rfl) h2
  obtain ⟨n3, rfl, hn3⟩ := open_u64 Try.underlying23 (hval 3 23 v3 rfl rfl) h3
  obtain ⟨q4, rfl, _, _⟩ := Go.RowKit.open_bool Try.underlying4 (hval 4 4 v4 rfl rfl) h4
  refine (walk x0_0 x0_1 x0_2 x0_3 n1 n2 n3 q4 b0_0 b0_1 b0_2 b0_3 hn1 hn2 hn3 W).mono fun e W' ⟨he, hg⟩ => ?_
  subst he
  exact ⟨_, rfl, law_true laid_out (by kernel_rfl) rfl Try.underlying4 (by kernel_rfl) hW' hA rfl rfl rfl hg⟩

theorem over : Rows.renoTellsRow.holds Try.pinned (OpenSpec.ofChange Rows.renoTellsSpec) :=
  OpenClaim.holds_of_wide 4 Try.f4 rfl rfl rfl rfl rfl rfl rfl ⟨rfl, rfl, rfl, rfl, rfl⟩ rfl rfl rfl rfl rfl (by kernel_rfl) Try.func4 (by kernel_rfl)
    (of_decide_eq_true (by kernel_rfl)) (by unfold Func.isWrapper; first | (rw [if_pos (by decide +kernel)]; kernel_rfl) | (rw [if_neg (by decide +kernel)]; exact ⟨rfl, rfl⟩))
    (fun os started H enc _ => lifted os started H enc)

/-- The statement. -/
theorem proved : Rows.RenoTellsSaid := over
end Go.Proofs.Ytfifhllckhdkfaa.renoTells
