/-
  CubicOnce: behind a loss none of a packet that was sent before it changes the window again, nor do bytes that came of one; and a second loss in a row is remembered as less. No condition.
-/
import Derived.Test.YtjnkmghlhihjkaaCbW
import Derived.Test.YtjnkmghlhihjkaaOpen
import Derived.Test.YtjnkmghlhihjkaaOpC
import Derived.Test.YtjnkmghlhihjkaaRgn
import Derived.Deep.CutBlock
import Derived.Deep.DeepCutAuto
namespace Go.Proofs.Ytjnkmghlhihjkaa.cubicOnce
open Go.ChangeShapes Go.WideShapes Go.ChangeAt Go.RowKit Go.Deep
set_option linter.unusedVariables false

set_option maxHeartbeats 8000000 in
theorem walk (c t s : Nat) (h : Bool) (e m k es a n y b : Nat) (hc : c < 18446744073709551616) (ht : t < 18446744073709551616) (hs : s < 18446744073709551616) (he : e < 18446744073709551616) (hm : m < 18446744073709551616) (hk : k < 18446744073709551616) (hes : es < 18446744073709551616) (ha : a < 4294967296) (hn : n < 4294967296) (hy : y < 4294967296) (hb : b < 18446744073709551616) (w : World) :
    Calls Try.prog 6 #[aggCu c t s h e m k es, .int .u32 (a : Int), .int .u32 (n : Int), .int .u32 (y : Int), .int .u64 (b : Int)] w fun e w' => e = .returned (.bool true) ∧ Below w.heap.size w w' := by
  have ok : Wig.Cb.Ok ⟨c, t, s, h, e, m, k, es⟩ := ⟨hc, ht, hs, he, hm, hk, hes⟩
  have C0 := Lib.hid (fun w => awake_any w)
  have v1 : IntKind.u64.wrap (a : Int) = (a : Int) := by rw [IntKind.wrap_u64]; omega
  have v2 : IntKind.u64.wrap (n : Int) = (n : Int) := by rw [IntKind.wrap_u64]; omega
  have v3 : IntKind.u64.wrap (y : Int) = (y : Int) := by rw [IntKind.wrap_u64]; omega
  have g0 := cubic_guard
  by_cases g : a < s
  · have t1 : decide (a < s) = true := decide_eq_true g
    have C1 := Lib.hid (fun w => loss_any c t s h e m k es a n c t s h e m k es w ok (by omega) (by omega) (Wig.closs_none g))
    have ee := cubic_same c t s h e m k es
    clear ok hc ht hs he hm hk hes ha hn hy hb g v3
    have B0 := Lib.hid (Below.refl w.heap.size w)
    go_enter Try.func6, Try.ntmps6
    go_upto_region 1 with fail
    obtain ⟨w1, hw⟩ : ∃ wx, wx = w.alloc (.cells #[.int .u64 (c : Int), .int .u64 (t : Int), .int .u64 (s : Int), .bool h, .int .u64 (e : Int), .int .u64 (m : Int), .int .u64 (k : Int), .int .u64 (es : Int)] 24) := ⟨_, rfl⟩
    rw [← hw]
    obtain ⟨pC, hp⟩ : ∃ px, px = w.heap.size := ⟨_, rfl⟩
    rw [← hp]
    have hb : Below w.heap.size w w1 := by rw [hw]; exact (Below.refl _ _).alloc (Nat.le_refl _) _
    have hx : BxCu pC c t s h e m k es w1 := by rw [hp, hw]; exact BxCu.new _ c t s h e m k es
    have hs : pC < w1.heap.size := by rw [hp, hw]; simp
    have GC := Lib.hid (show w.heap.size ≤ pC by rw [hp]; exact B0.out.size)
    have B1 := Lib.hid (below_trans' B0.out hb)
    clear hb B0
    have XC1 := Lib.hid hx
    have SC1 := Lib.hid hs
    clear hx hs hw hp
    go_wp2_with fail
    refine (C0.out _).mono ?_
    rintro e w2 ⟨rfl, hb⟩
    have B2 := Lib.hid (below_trans' B1.out hb)
    have XC2 := Lib.hid (XC1.out.below hb SC1.out)
    have SC2 := Lib.hid (Nat.lt_of_lt_of_le SC1.out hb.size)
    clear hb B1 XC1 SC1
    obtain ⟨c0, c1, c2, c3, c4, c5, c6, c7, -, -, -, -, -, -, -, -⟩ := XC2.out
    go_wp2_with fail
    refine (C1.out _).mono ?_
    rintro e w3 ⟨rfl, hb⟩
    have B3 := Lib.hid (below_trans' B2.out hb)
    have XC3 := Lib.hid (XC2.out.below hb SC2.out)
    have SC3 := Lib.hid (Nat.lt_of_lt_of_le SC2.out hb.size)
    clear c0 c1 c2 c3 c4 c5 c6 c7
    clear hb B2 XC2 SC2
    go_upto_region 3 with fail
    obtain ⟨w4, hw⟩ : ∃ wx, wx = w3.alloc (.cells #[.int .u64 (c : Int), .int .u64 (t : Int), .int .u64 (s : Int), .bool h, .int .u64 (e : Int), .int .u64 (m : Int), .int .u64 (k : Int), .int .u64 (es : Int)] 24) := ⟨_, rfl⟩
    rw [← hw]
    obtain ⟨pL, hp⟩ : ∃ px, px = w3.heap.size := ⟨_, rfl⟩
    rw [← hp]
    have hb : Below w3.heap.size w3 w4 := by rw [hw]; exact (Below.refl _ _).alloc (Nat.le_refl _) _
    have hx : BxCu pL c t s h e m k es w4 := by rw [hp, hw]; exact BxCu.new _ c t s h e m k es
    have hs : pL < w4.heap.size := by rw [hp, hw]; simp
    have GL := Lib.hid (show w.heap.size ≤ pL by rw [hp]; exact B3.out.size)
    have OCL := Lib.hid (show pC < pL by rw [hp]; exact SC3.out)
    have B4 := Lib.hid (below_trans' B3.out hb)
    have XC4 := Lib.hid (XC3.out.below hb SC3.out)
    have SC4 := Lib.hid (Nat.lt_of_lt_of_le SC3.out hb.size)
    clear hb B3 XC3 SC3
    have XL4 := Lib.hid hx
    have SL4 := Lib.hid hs
    clear hx hs hw hp
    obtain ⟨c0, c1, c2, c3, c4, c5, c6, c7, -, -, -, -, -, -, -, -⟩ := XC4.out
    obtain ⟨l0, l1, l2, l3, l4, l5, l6, l7, -, -, -, -, -, -, -, -⟩ := XL4.out
    go_wp2_with fail
    go_ret
    exact ⟨rfl, B4.out⟩
  · have t1 : decide (a < s) = false := decide_eq_false g
    obtain ⟨f, hf⟩ : ∃ f, f = Wig.cless ⟨c, t, s, h, e, m, k, es⟩ := ⟨_, rfl⟩
    obtain ⟨z, hz⟩ : ∃ z, z = Wig.fadd n 1 := ⟨_, rfl⟩
    obtain ⟨o, ho⟩ : ∃ o, o = Wig.cmost ⟨c, t, s, h, e, m, k, es⟩ := ⟨_, rfl⟩
    have hl : Wig.closs ⟨c, t, s, h, e, m, k, es⟩ a n = ⟨f, f, z, false, 0, o, 0, 0⟩ := by rw [Wig.closs_some g, hf, hz, ho]
    have ok2 : Wig.Cb.Ok ⟨f, f, z, false, 0, o, 0, 0⟩ := hl ▸ Wig.closs_ok (a := a) (n := n) ok
    obtain ⟨n1, hn1⟩ : ∃ q, q = n + 1 := ⟨_, rfl⟩
    have wn1 : IntKind.u64.wrap ((n : Int) + 1) = (n1 : Int) := by rw [IntKind.wrap_u64]; omega
    obtain ⟨n2, hn2⟩ : ∃ q, q = n + 2 := ⟨_, rfl⟩
    have wn2 : IntKind.u64.wrap ((n : Int) + 2) = (n2 : Int) := by rw [IntKind.wrap_u64]; omega
    obtain ⟨n5, hn5⟩ : ∃ q, q = n + 5 := ⟨_, rfl⟩
    have wn5 : IntKind.u64.wrap ((n : Int) + 5) = (n5 : Int) := by rw [IntKind.wrap_u64]; omega
    obtain ⟨q, hq⟩ : ∃ q, q = min y n := ⟨_, rfl⟩
    have hqn : q ≤ n := by omega
    have m1 : ∀ ts ty w, (Builtin.min_ ts ty #[.int .u64 (y : Int), .int .u64 (n : Int)]).run Try.prog w = .ok (.int .u64 (q : Int)) w := by
      intro ts ty w
      rw [run_min_int2, show (if (n : Int) < (y : Int) then (n : Int) else (y : Int)) = (q : Int) by split <;> omega]
    obtain ⟨⟨mc, mt, ms, mh, me, mm, mk, mes⟩, hmm⟩ : ∃ q, Wig.closs ⟨f, f, z, false, 0, o, 0, 0⟩ n1 n2 = q := ⟨_, rfl⟩
    have hor : mm ≤ o ∨ o ≤ f := by have := Wig.closs_most (m := n2) ok g hn; rw [hl, ← hn1, hmm] at this; exact this
    have C1 := Lib.hid (fun w => loss_any c t s h e m k es a n f f z false 0 o 0 0 w ok (by omega) (by omega) hl)
    have C2 := Lib.hid (fun w => loss_any f f z false 0 o 0 0 n1 n2 mc mt ms mh me mm mk mes w ok2 (by omega) (by omega) hmm)
    have C3 := Lib.hid (fun w => loss_any f f z false 0 o 0 0 q n5 f f z false 0 o 0 0 w ok2 (by omega) (by omega) (by rw [← hl]; exact Wig.closs_again g hn hqn))
    have C4 := Lib.hid (fun w => ack_any f f z false 0 o 0 0 b q n 5 f f z false false 0 o 0 0 w ok2 hb (by omega) (by omega) (by omega) (by rw [← hl]; exact Wig.cack_behind g hn hqn))
    have C5 := Lib.hid (fun w => ack_any c t s h e m k es b a n 5 c t s h true e m k es w ok hb (by omega) (by omega) (by omega) Wig.cack_limited)
    have e1 := cubic_same f f z false 0 o 0 0
    have e2 := cubic_same c t s h e m k es
    clear ok hc ht hs he hm hk hes ok2 ha hn hy hb g hf hz ho hl hn1 hn2 hn5 hq hqn hmm
    have HOR := Lib.hid hor
    clear hor
    have B0 := Lib.hid (Below.refl w.heap.size w)
    go_enter Try.func6, Try.ntmps6
    go_upto_region 1 with fail
    obtain ⟨w1, hw⟩ : ∃ wx, wx = w.alloc (.cells #[.int .u64 (c : Int), .int .u64 (t : Int), .int .u64 (s : Int), .bool h, .int .u64 (e : Int), .int .u64 (m : Int), .int .u64 (k : Int), .int .u64 (es : Int)] 24) := ⟨_, rfl⟩
    rw [← hw]
    obtain ⟨pC, hp⟩ : ∃ px, px = w.heap.size := ⟨_, rfl⟩
    rw [← hp]
    have hb : Below w.heap.size w w1 := by rw [hw]; exact (Below.refl _ _).alloc (Nat.le_refl _) _
    have hx : BxCu pC c t s h e m k es w1 := by rw [hp, hw]; exact BxCu.new _ c t s h e m k es
    have hs : pC < w1.heap.size := by rw [hp, hw]; simp
    have GC := Lib.hid (show w.heap.size ≤ pC by rw [hp]; exact B0.out.size)
    have B1 := Lib.hid (below_trans' B0.out hb)
    clear hb B0
    have XC1 := Lib.hid hx
    have SC1 := Lib.hid hs
    clear hx hs hw hp
    go_wp2_with fail
    refine (C0.out _).mono ?_
    rintro e w2 ⟨rfl, hb⟩
    have B2 := Lib.hid (below_trans' B1.out hb)
    have XC2 := Lib.hid (XC1.out.below hb SC1.out)
    have SC2 := Lib.hid (Nat.lt_of_lt_of_le SC1.out hb.size)
    clear hb B1 XC1 SC1
    obtain ⟨c0, c1, c2, c3, c4, c5, c6, c7, -, -, -, -, -, -, -, -⟩ := XC2.out
    go_wp2_with fail
    refine (C1.out _).mono ?_
    rintro e w3 ⟨rfl, hb⟩
    have B3 := Lib.hid (below_trans' B2.out hb)
    have XC3 := Lib.hid (XC2.out.below hb SC2.out)
    have SC3 := Lib.hid (Nat.lt_of_lt_of_le SC2.out hb.size)
    clear c0 c1 c2 c3 c4 c5 c6 c7
    clear hb B2 XC2 SC2
    go_upto_region 3 with fail
    obtain ⟨w4, hw⟩ : ∃ wx, wx = w3.alloc (.cells #[.int .u64 (f : Int), .int .u64 (f : Int), .int .u64 (z : Int), .bool false, .int .u64 0, .int .u64 (o : Int), .int .u64 0, .int .u64 0] 24) := ⟨_, rfl⟩
    rw [← hw]
    obtain ⟨pL, hp⟩ : ∃ px, px = w3.heap.size := ⟨_, rfl⟩
    rw [← hp]
    have hb : Below w3.heap.size w3 w4 := by rw [hw]; exact (Below.refl _ _).alloc (Nat.le_refl _) _
    have hx : BxCu pL f f z false 0 o 0 0 w4 := by rw [hp, hw]; exact BxCu.new _ f f z false 0 o 0 0
    have hs : pL < w4.heap.size := by rw [hp, hw]; simp
    have GL := Lib.hid (show w.heap.size ≤ pL by rw [hp]; exact B3.out.size)
    have OCL := Lib.hid (show pC < pL by rw [hp]; exact SC3.out)
    have B4 := Lib.hid (below_trans' B3.out hb)
    have XC4 := Lib.hid (XC3.out.below hb SC3.out)
    have SC4 := Lib.hid (Nat.lt_of_lt_of_le SC3.out hb.size)
    clear hb B3 XC3 SC3
    have XL4 := Lib.hid hx
    have SL4 := Lib.hid hs
    clear hx hs hw hp
    obtain ⟨c0, c1, c2, c3, c4, c5, c6, c7, -, -, -, -, -, -, -, -⟩ := XC4.out
    obtain ⟨l0, l1, l2, l3, l4, l5, l6, l7, -, -, -, -, -, -, -, -⟩ := XL4.out
    go_wp2_with fail
    refine (C2.out _).mono ?_
    rintro e w5 ⟨rfl, hb⟩
    have B5 := Lib.hid (below_trans' B4.out hb)
    have XC5 := Lib.hid (XC4.out.below hb SC4.out)
    have SC5 := Lib.hid (Nat.lt_of_lt_of_le SC4.out hb.size)
    have XL5 := Lib.hid (XL4.out.below hb SL4.out)
    have SL5 := Lib.hid (Nat.lt_of_lt_of_le SL4.out hb.size)
    clear c0 c1 c2 c3 c4 c5 c6 c7 l0 l1 l2 l3 l4 l5 l6 l7
    clear hb B4 XC4 SC4 XL4 SL4
    go_upto_region 7 with fail
    obtain ⟨w6, hw⟩ : ∃ wx, wx = w5.alloc (.cells #[.int .u64 (mc : Int), .int .u64 (mt : Int), .int .u64 (ms : Int), .bool mh, .int .u64 (me : Int), .int .u64 (mm : Int), .int .u64 (mk : Int), .int .u64 (mes : Int)] 24) := ⟨_, rfl⟩
    rw [← hw]
    obtain ⟨pM, hp⟩ : ∃ px, px = w5.heap.size := ⟨_, rfl⟩
    rw [← hp]
    have hb : Below w5.heap.size w5 w6 := by rw [hw]; exact (Below.refl _ _).alloc (Nat.le_refl _) _
    have hx : BxCu pM mc mt ms mh me mm mk mes w6 := by rw [hp, hw]; exact BxCu.new _ mc mt ms mh me mm mk mes
    have hs : pM < w6.heap.size := by rw [hp, hw]; simp
    have GM := Lib.hid (show w.heap.size ≤ pM by rw [hp]; exact B5.out.size)
    have OCM := Lib.hid (show pC < pM by rw [hp]; exact SC5.out)
    have OLM := Lib.hid (show pL < pM by rw [hp]; exact SL5.out)
    have B6 := Lib.hid (below_trans' B5.out hb)
    have XC6 := Lib.hid (XC5.out.below hb SC5.out)
    have SC6 := Lib.hid (Nat.lt_of_lt_of_le SC5.out hb.size)
    have XL6 := Lib.hid (XL5.out.below hb SL5.out)
    have SL6 := Lib.hid (Nat.lt_of_lt_of_le SL5.out hb.size)
    clear hb B5 XC5 SC5 XL5 SL5
    have XM6 := Lib.hid hx
    have SM6 := Lib.hid hs
    clear hx hs hw hp
    refine wp_region_held_drew (S := fun wx => BxCu pC c t s h e m k es wx ∧ BxCu pL f f z false 0 o 0 0 wx ∧ BxCu pM mc mt ms mh me mm mk mes wx ∧ Below w6.heap.size w6 wx) (by kernel_rfl) ?_ (fun hHeld => ?_)
    · exact ⟨XC6.out.drew, XL6.out.drew, XM6.out.drew, (Below.refl _ _).drew⟩
    refine held_take (v := .agg #[.int .u64 (f : Int), .int .u64 (f : Int), .int .u64 (z : Int), .bool false, .int .u64 0, .int .u64 (o : Int), .int .u64 0, .int .u64 0]) 0 rfl (by kernel_rfl) (by kernel_rfl) (by kernel_rfl) (fun _ _ _ h => h) (by rfl) (fun wx hSw => by obtain ⟨c0, c1, c2, c3, c4, c5, c6, c7, -, -, -, -, -, -, -, -⟩ := hSw.2.1; clear hSw; go_simp) (by assumption) ?_
    try simp only [Act.put, List.setIfInBounds_toArray, List.set_cons_zero, List.set_cons_succ]
    refine held_take (v := ?vv102) 1 rfl (by kernel_rfl) (by kernel_rfl) (by kernel_rfl) (fun _ _ _ h => h) (by rfl) ?yy102 (by assumption) ?nn102
    case yy102 =>
      intro w hSw
      (try dsimp only at hSw)
      go_simp
      try with_reducible rfl
    try simp only [Act.put, List.setIfInBounds_toArray, List.set_cons_zero, List.set_cons_succ]
    refine held_take (v := ?vv103) 2 rfl (by kernel_rfl) (by kernel_rfl) (by kernel_rfl) (fun _ _ _ h => h) (by rfl) ?yy103 (by assumption) ?nn103
    case yy103 =>
      intro w hSw
      (try dsimp only at hSw)
      go_simp
      try with_reducible rfl
    try simp only [Act.put, List.setIfInBounds_toArray, List.set_cons_zero, List.set_cons_succ]
    refine held_take (v := ?vv104) 3 rfl (by kernel_rfl) (by kernel_rfl) (by kernel_rfl) (fun _ _ _ h => h) (by rfl) ?yy104 (by assumption) ?nn104
    case yy104 =>
      intro w hSw
      (try dsimp only at hSw)
      go_simp
      try with_reducible rfl
    try simp only [Act.put, List.setIfInBounds_toArray, List.set_cons_zero, List.set_cons_succ]
    refine held_take (v := ?vv105) 4 rfl (by kernel_rfl) (by kernel_rfl) (by kernel_rfl) (fun _ _ _ h => h) (by rfl) ?yy105 (by assumption) ?nn105
    case yy105 =>
      intro w hSw
      (try dsimp only at hSw)
      go_simp
      try with_reducible rfl
    try simp only [Act.put, List.setIfInBounds_toArray, List.set_cons_zero, List.set_cons_succ]
    refine held_take (v := .agg #[.int .u64 (f : Int), .int .u64 (f : Int), .int .u64 (z : Int), .bool false, .int .u64 0, .int .u64 (o : Int), .int .u64 0, .int .u64 0]) 6 rfl (by kernel_rfl) (by kernel_rfl) (by kernel_rfl) (fun _ _ _ h => h) (by rfl) (fun wx hSw => by obtain ⟨c0, c1, c2, c3, c4, c5, c6, c7, -, -, -, -, -, -, -, -⟩ := hSw.2.1; clear hSw; go_simp) (by assumption) ?_
    try simp only [Act.put, List.setIfInBounds_toArray, List.set_cons_zero, List.set_cons_succ]
    refine held_do 5 rfl (by kernel_rfl) (by rfl) (fun K hK => ?_)
    go_wp2_with (go_at_call 11; refine (C3.out _).mono ?_; rintro e w7 ⟨rfl, hb7⟩; have K7 := Lib.hid (Below.trans hHeld.2.2.2 (hb7.mono hHeld.2.2.2.size)); clear hb7)
    refine hK.out _ _ ?_ (fun hHeld => ?_)
    · exact ⟨XC6.out.below K7.out SC6.out, XL6.out.below K7.out SL6.out, XM6.out.below K7.out SM6.out, K7.out⟩
    clear hK K
    try simp only [Act.put, List.setIfInBounds_toArray, List.set_cons_zero, List.set_cons_succ]
    refine held_take (v := ?vv108) 7 rfl (by kernel_rfl) (by kernel_rfl) (by kernel_rfl) (fun _ _ _ h => h) (by rfl) ?yy108 (by assumption) ?nn108
    case yy108 =>
      intro w hSw
      (try dsimp only at hSw)
      go_simp
      try with_reducible rfl
    try simp only [Act.put, List.setIfInBounds_toArray, List.set_cons_zero, List.set_cons_succ]
    refine held_take (v := ?vv109) 8 rfl (by kernel_rfl) (by kernel_rfl) (by kernel_rfl) (fun _ _ _ h => h) (by rfl) ?yy109 (by assumption) ?nn109
    case yy109 =>
      intro w hSw
      (try dsimp only at hSw)
      go_simp
      try with_reducible rfl
    try simp only [Act.put, List.setIfInBounds_toArray, List.set_cons_zero, List.set_cons_succ]
    refine held_take (v := .agg #[.int .u64 (f : Int), .int .u64 (f : Int), .int .u64 (z : Int), .bool false, .int .u64 0, .int .u64 (o : Int), .int .u64 0, .int .u64 0]) 9 rfl (by kernel_rfl) (by kernel_rfl) (by kernel_rfl) (fun _ _ _ h => h) (by rfl) (fun wx hSw => by obtain ⟨c0, c1, c2, c3, c4, c5, c6, c7, -, -, -, -, -, -, -, -⟩ := hSw.2.1; clear hSw; go_simp) (by assumption) ?_
    try simp only [Act.put, List.setIfInBounds_toArray, List.set_cons_zero, List.set_cons_succ]
    refine held_take (v := ?vv111) 10 rfl (by kernel_rfl) (by kernel_rfl) (by kernel_rfl) (fun _ _ _ h => h) (by rfl) ?yy111 (by assumption) ?nn111
    case yy111 =>
      intro w hSw
      (try dsimp only at hSw)
      go_simp
      try with_reducible rfl
    try simp only [Act.put, List.setIfInBounds_toArray, List.set_cons_zero, List.set_cons_succ]
    refine held_take (v := ?vv112) 11 rfl (by kernel_rfl) (by kernel_rfl) (by kernel_rfl) (fun _ _ _ h => h) (by rfl) ?yy112 (by assumption) ?nn112
    case yy112 =>
      intro w hSw
      (try dsimp only at hSw)
      go_simp
      try with_reducible rfl
    try simp only [Act.put, List.setIfInBounds_toArray, List.set_cons_zero, List.set_cons_succ]
    refine held_take (v := ?vv113) 12 rfl (by kernel_rfl) (by kernel_rfl) (by kernel_rfl) (fun _ _ _ h => h) (by rfl) ?yy113 (by assumption) ?nn113
    case yy113 =>
      intro w hSw
      (try dsimp only at hSw)
      go_simp
      try with_reducible rfl
    try simp only [Act.put, List.setIfInBounds_toArray, List.set_cons_zero, List.set_cons_succ]
    refine held_take (v := ?vv114) 13 rfl (by kernel_rfl) (by kernel_rfl) (by kernel_rfl) (fun _ _ _ h => h) (by rfl) ?yy114 (by assumption) ?nn114
    case yy114 =>
      intro w hSw
      (try dsimp only at hSw)
      go_simp
      try with_reducible rfl
    try simp only [Act.put, List.setIfInBounds_toArray, List.set_cons_zero, List.set_cons_succ]
    refine held_take (v := .agg #[.int .u64 (f : Int), .int .u64 (f : Int), .int .u64 (z : Int), .bool false, .int .u64 0, .int .u64 (o : Int), .int .u64 0, .int .u64 0]) 15 rfl (by kernel_rfl) (by kernel_rfl) (by kernel_rfl) (fun _ _ _ h => h) (by rfl) (fun wx hSw => by obtain ⟨c0, c1, c2, c3, c4, c5, c6, c7, -, -, -, -, -, -, -, -⟩ := hSw.2.1; clear hSw; go_simp) (by assumption) ?_
    try simp only [Act.put, List.setIfInBounds_toArray, List.set_cons_zero, List.set_cons_succ]
    refine held_do 14 rfl (by kernel_rfl) (by rfl) (fun K hK => ?_)
    go_wp2_with (go_at_call 9; refine (C4.out _).mono ?_; rintro e w8 ⟨rfl, hb8⟩; have K8 := Lib.hid (Below.trans hHeld.2.2.2 (hb8.mono hHeld.2.2.2.size)); clear hb8)
    refine hK.out _ _ ?_ (fun hHeld => ?_)
    · exact ⟨XC6.out.below K8.out SC6.out, XL6.out.below K8.out SL6.out, XM6.out.below K8.out SM6.out, K8.out⟩
    clear hK K
    try simp only [Act.put, List.setIfInBounds_toArray, List.set_cons_zero, List.set_cons_succ]
    refine held_take (v := ?vv117) 16 rfl (by kernel_rfl) (by kernel_rfl) (by kernel_rfl) (fun _ _ _ h => h) (by rfl) ?yy117 (by assumption) ?nn117
    case yy117 =>
      intro w hSw
      (try dsimp only at hSw)
      go_simp
      try with_reducible rfl
    try simp only [Act.put, List.setIfInBounds_toArray, List.set_cons_zero, List.set_cons_succ]
    refine held_take (v := ?vv118) 17 rfl (by kernel_rfl) (by kernel_rfl) (by kernel_rfl) (fun _ _ _ h => h) (by rfl) ?yy118 (by assumption) ?nn118
    case yy118 =>
      intro w hSw
      (try dsimp only at hSw)
      go_simp
      try with_reducible rfl
    try simp only [Act.put, List.setIfInBounds_toArray, List.set_cons_zero, List.set_cons_succ]
    refine held_take (v := ?vv119) 18 rfl (by kernel_rfl) (by kernel_rfl) (by kernel_rfl) (fun _ _ _ h => h) (by rfl) ?yy119 (by assumption) ?nn119
    case yy119 =>
      intro w hSw
      (try dsimp only at hSw)
      go_simp
      try with_reducible rfl
    try simp only [Act.put, List.setIfInBounds_toArray, List.set_cons_zero, List.set_cons_succ]
    refine held_take (v := .agg #[.int .u64 (c : Int), .int .u64 (t : Int), .int .u64 (s : Int), .bool h, .int .u64 (e : Int), .int .u64 (m : Int), .int .u64 (k : Int), .int .u64 (es : Int)]) 19 rfl (by kernel_rfl) (by kernel_rfl) (by kernel_rfl) (fun _ _ _ h => h) (by rfl) (fun wx hSw => by obtain ⟨c0, c1, c2, c3, c4, c5, c6, c7, -, -, -, -, -, -, -, -⟩ := hSw.1; clear hSw; go_simp) (by assumption) ?_
    try simp only [Act.put, List.setIfInBounds_toArray, List.set_cons_zero, List.set_cons_succ]
    refine held_take (v := ?vv121) 20 rfl (by kernel_rfl) (by kernel_rfl) (by kernel_rfl) (fun _ _ _ h => h) (by rfl) ?yy121 (by assumption) ?nn121
    case yy121 =>
      intro w hSw
      (try dsimp only at hSw)
      go_simp
      try with_reducible rfl
    try simp only [Act.put, List.setIfInBounds_toArray, List.set_cons_zero, List.set_cons_succ]
    refine held_take (v := ?vv122) 21 rfl (by kernel_rfl) (by kernel_rfl) (by kernel_rfl) (fun _ _ _ h => h) (by rfl) ?yy122 (by assumption) ?nn122
    case yy122 =>
      intro w hSw
      (try dsimp only at hSw)
      go_simp
      try with_reducible rfl
    try simp only [Act.put, List.setIfInBounds_toArray, List.set_cons_zero, List.set_cons_succ]
    refine held_take (v := ?vv123) 22 rfl (by kernel_rfl) (by kernel_rfl) (by kernel_rfl) (fun _ _ _ h => h) (by rfl) ?yy123 (by assumption) ?nn123
    case yy123 =>
      intro w hSw
      (try dsimp only at hSw)
      go_simp
      try with_reducible rfl
    try simp only [Act.put, List.setIfInBounds_toArray, List.set_cons_zero, List.set_cons_succ]
    refine held_take (v := ?vv124) 23 rfl (by kernel_rfl) (by kernel_rfl) (by kernel_rfl) (fun _ _ _ h => h) (by rfl) ?yy124 (by assumption) ?nn124
    case yy124 =>
      intro w hSw
      (try dsimp only at hSw)
      go_simp
      try with_reducible rfl
    try simp only [Act.put, List.setIfInBounds_toArray, List.set_cons_zero, List.set_cons_succ]
    refine held_take (v := ?vv125) 24 rfl (by kernel_rfl) (by kernel_rfl) (by kernel_rfl) (fun _ _ _ h => h) (by rfl) ?yy125 (by assumption) ?nn125
    case yy125 =>
      intro w hSw
      (try dsimp only at hSw)
      go_simp
      try with_reducible rfl
    try simp only [Act.put, List.setIfInBounds_toArray, List.set_cons_zero, List.set_cons_succ]
    refine held_take (v := .agg #[.int .u64 (c : Int), .int .u64 (t : Int), .int .u64 (s : Int), .bool h, .int .u64 (e : Int), .int .u64 (m : Int), .int .u64 (k : Int), .int .u64 (es : Int)]) 26 rfl (by kernel_rfl) (by kernel_rfl) (by kernel_rfl) (fun _ _ _ h => h) (by rfl) (fun wx hSw => by obtain ⟨c0, c1, c2, c3, c4, c5, c6, c7, -, -, -, -, -, -, -, -⟩ := hSw.1; clear hSw; go_simp) (by assumption) ?_
    try simp only [Act.put, List.setIfInBounds_toArray, List.set_cons_zero, List.set_cons_succ]
    refine held_do 25 rfl (by kernel_rfl) (by rfl) (fun K hK => ?_)
    go_wp2_with (go_at_call 9; refine (C5.out _).mono ?_; rintro e w9 ⟨rfl, hb9⟩; have K9 := Lib.hid (Below.trans hHeld.2.2.2 (hb9.mono hHeld.2.2.2.size)); clear hb9)
    refine hK.out _ _ ?_ (fun hHeld => ?_)
    · exact ⟨XC6.out.below K9.out SC6.out, XL6.out.below K9.out SL6.out, XM6.out.below K9.out SM6.out, K9.out⟩
    clear hK K
    try simp only [Act.put, List.setIfInBounds_toArray, List.set_cons_zero, List.set_cons_succ]
    refine held_take (v := ?vv128) 27 rfl (by kernel_rfl) (by kernel_rfl) (by kernel_rfl) (fun _ _ _ h => h) (by rfl) ?yy128 (by assumption) ?nn128
    case yy128 =>
      intro w hSw
      (try dsimp only at hSw)
      go_simp
      try with_reducible rfl
    try simp only [Act.put, List.setIfInBounds_toArray, List.set_cons_zero, List.set_cons_succ]
    refine held_take (v := ?vv129) 28 rfl (by kernel_rfl) (by kernel_rfl) (by kernel_rfl) (fun _ _ _ h => h) (by rfl) ?yy129 (by assumption) ?nn129
    case yy129 =>
      intro w hSw
      (try dsimp only at hSw)
      go_simp
      try with_reducible rfl
    try simp only [Act.put, List.setIfInBounds_toArray, List.set_cons_zero, List.set_cons_succ]
    refine held_take (v := ?vv130) 29 rfl (by kernel_rfl) (by kernel_rfl) (by kernel_rfl) (fun _ _ _ h => h) (by rfl) ?yy130 (by assumption) ?nn130
    case yy130 =>
      intro w hSw
      (try dsimp only at hSw)
      go_simp
      try with_reducible rfl
    try simp only [Act.put, List.setIfInBounds_toArray, List.set_cons_zero, List.set_cons_succ]
    refine wpAnyH_done (by kernel_rfl) ?_ _
    clear hHeld
    have B9 := Lib.hid (below_trans' B6.out K9.out)
    have XC9 := Lib.hid (XC6.out.below K9.out SC6.out)
    have SC9 := Lib.hid (Nat.lt_of_lt_of_le SC6.out K9.out.size)
    have XL9 := Lib.hid (XL6.out.below K9.out SL6.out)
    have SL9 := Lib.hid (Nat.lt_of_lt_of_le SL6.out K9.out.size)
    have XM9 := Lib.hid (XM6.out.below K9.out SM6.out)
    have SM9 := Lib.hid (Nat.lt_of_lt_of_le SM6.out K9.out.size)
    clear B6 XC6 SC6 XL6 SL6 XM6 SM6
    obtain ⟨c0, c1, c2, c3, c4, c5, c6, c7, -, -, -, -, -, -, -, -⟩ := XC9.out
    obtain ⟨l0, l1, l2, l3, l4, l5, l6, l7, -, -, -, -, -, -, -, -⟩ := XL9.out
    obtain ⟨m0, m1, m2, m3, m4, m5, m6, m7, -, -, -, -, -, -, -, -⟩ := XM9.out
    by_cases g4 : mm ≤ o
    · have t4 : decide (mm ≤ o) = true := decide_eq_true g4
      clear g4 HOR
      go_wp2_with fail
      go_ret
      exact ⟨rfl, B9.out⟩
    · have t4 : decide (mm ≤ o) = false := decide_eq_false g4
      have t5 : decide (o ≤ f) = true := decide_eq_true (by have := HOR.out; omega)
      clear g4 HOR
      go_wp2_with fail
      go_ret
      exact ⟨rfl, B9.out⟩

set_option maxRecDepth 100000 in
theorem lifted (os : Os) (started : os.Started) (H : Type) (enc : TypeId × Value → H) :
    ReturnsInHanded {} Try.checked os 6 .any (Rows.cubicOnceSpec.pre6 enc Try.prog Try.f6 Rows.cubicOnceRow.domain false) (Rows.cubicOnceSpec.post enc Try.prog Try.f6 false true false false) := by
  refine returnsInHanded_of_change (C := Try.checked) own started (by kernel_rfl) Try.func6
    (ChangeSpec.witness6 (enc := enc) (C := Try.checked) false ⟨#[], #[.agg #[.int .u64 0, .int .u64 0, .int .u64 0, .bool false, .int .u64 0, .int .u64 0, .int .u64 0, .int .u64 0], .int .u32 0, .int .u32 0, .int .u32 0, .int .u64 0], []⟩ 8 (by kernel_rfl) (by kernel_rfl) (by kernel_rfl) (by kernel_rfl)) ?_
  intro W base args ds gs before hval0 hW hcnd _
  have hval : ∀ (j : Nat) t v, Try.f6.params[j]? = some t → args[j]? = some v → Value.okWide Try.prog W .any base t v := hval0
  have hW' := hW
  obtain ⟨p, q, hA0, hV, rfl, hfz, hnd⟩ := hW
  have hA : DataW.TrodAll enc Try.prog W 0 (fun _ => true) true Try.f6.params.toList args.toList ds p := hA0
  obtain ⟨rfl, rfl⟩ := trodVars_none hV
  simp only [List.append_nil] at hW'
  have hlow : ∀ x ∈ p, x.block < W.heap.size := fun x hx => hW'.lt x hx
  have hA2 := hA
  rw [Try.params6] at hval hA2
  obtain ⟨v0, vs0, d0, ds0, p0, q0, hargs, rfl, rfl, h0, r0⟩ := trodAll_cons hA2
  obtain ⟨v1, vs1, d1, ds1, p1, q1, rfl, rfl, rfl, h1, r1⟩ := trodAll_cons r0
  obtain ⟨v2, vs2, d2, ds2, p2, q2, rfl, rfl, rfl, h2, r2⟩ := trodAll_cons r1
  obtain ⟨v3, vs3, d3, ds3, p3, q3, rfl, rfl, rfl, h3, r3⟩ := trodAll_cons r2
  obtain ⟨v4, vs4, d4, ds4, p4, q4, rfl, rfl, rfl, h4, r4⟩ := trodAll_cons r3
  obtain ⟨rfl, rfl, rfl⟩ := trodAll_nil r4
  obtain rfl : args = #[v0, v1, v2, v3, v4] := by cases args; simp_all
  obtain ⟨x0_0, x0_1, x0_2, x0_3, x0_4, x0_5, x0_6, x0_7, rfl, b0_0, b0_1, b0_2, b0_4, b0_5, b0_6, b0_7⟩ := open_cubic (hval 0 24 v0 rfl rfl) h0 (fun x hx => hlow x (by simp [hx]))
  obtain ⟨n1, rfl, hn1⟩ := open_u32 Try.underlying37 (hval 1 37 v1 rfl rfl) h1
  obtain ⟨n2, rfl, hn2⟩ := open_u32 Try.underlying37 (hval 2 37 v2 rfl rfl) h2
  obtain ⟨n3, rfl, hn3⟩ := open_u32 Try.underlying37 (hval 3 37 v3 rfl rfl) h3
  obtain ⟨n4, rfl, hn4⟩ := open_u64 Try.underlying22 (hval 4 22 v4 rfl rfl) h4
  refine (walk x0_0 x0_1 x0_2 x0_3 x0_4 x0_5 x0_6 x0_7 n1 n2 n3 n4 b0_0 b0_1 b0_2 b0_4 b0_5 b0_6 b0_7 hn1 hn2 hn3 hn4 W).mono fun e W' ⟨he, hg⟩ => ?_
  subst he
  exact ⟨_, rfl, law_true laid_out (by kernel_rfl) rfl Try.underlying4 (by kernel_rfl) hW' hA rfl rfl rfl hg⟩

theorem over : Rows.cubicOnceRow.holds Try.pinned (OpenSpec.ofChange Rows.cubicOnceSpec) :=
  OpenClaim.holds_of_wide 6 Try.f6 rfl rfl rfl rfl rfl rfl rfl ⟨rfl, rfl, rfl, rfl, rfl⟩ rfl rfl rfl rfl rfl (by kernel_rfl) Try.func6 (by kernel_rfl)
    (of_decide_eq_true (by kernel_rfl)) (by unfold Func.isWrapper; first | (rw [if_pos (by decide +kernel)]; kernel_rfl) | (rw [if_neg (by decide +kernel)]; exact ⟨rfl, rfl⟩))
    (fun os started H enc _ => lifted os started H enc)

/-- The statement. -/
theorem proved : Rows.CubicOnceSaid := over
end Go.Proofs.Ytjnkmghlhihjkaa.cubicOnce
