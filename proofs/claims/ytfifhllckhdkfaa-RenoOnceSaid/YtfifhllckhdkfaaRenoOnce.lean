/-
  RenoOnce: behind a loss none of a packet that was sent before it changes the window again, nor do bytes that came of one; a sender without more to send lets it be. No condition.
-/
import Derived.Test.YtfifhllckhdkfaaRnW
import Derived.Test.YtfifhllckhdkfaaOpen
import Derived.Test.YtfifhllckhdkfaaOpN
import Derived.Deep.CutBlock
import Derived.Deep.DeepCutAuto
namespace Go.Proofs.Ytfifhllckhdkfaa.renoOnce
open Go.ChangeShapes Go.WideShapes Go.ChangeAt Go.RowKit Go.Deep
set_option linter.unusedVariables false

set_option maxHeartbeats 4000000 in
theorem walk (c t s r a n e b : Nat) (hc : c < 18446744073709551616) (ht : t < 18446744073709551616) (hs : s < 18446744073709551616) (hr : r < 18446744073709551616) (ha : a < 4294967296) (hn : n < 4294967296) (he : e < 4294967296) (hb : b < 18446744073709551616) (w : World) :
    Calls Try.prog 6 #[aggRn c t s r, .int .u32 (a : Int), .int .u32 (n : Int), .int .u32 (e : Int), .int .u64 (b : Int)] w fun e w' => e = .returned (.bool true) ∧ Below w.heap.size w w' := by
  have ok : Wig.Rn.Ok ⟨c, t, s, r⟩ := ⟨hc, ht, hs, hr⟩
  have C0 := Lib.hid (fun w => awake_any w)
  have v1 : IntKind.u64.wrap (a : Int) = (a : Int) := by rw [IntKind.wrap_u64]; omega
  have v2 : IntKind.u64.wrap (n : Int) = (n : Int) := by rw [IntKind.wrap_u64]; omega
  have v3 : IntKind.u64.wrap (e : Int) = (e : Int) := by rw [IntKind.wrap_u64]; omega
  have g0 := reno_guard
  by_cases h : a < s
  · have t1 : decide (a < s) = true := decide_eq_true h
    have C1 := Lib.hid (fun w => loss_any c t s r a n c t s r w ok (by omega) (by omega) (Wig.nloss_none h))
    have ee := reno_same c t s r
    clear ok hc ht hs hr ha hn he hb h v3
    have B0 := Lib.hid (Below.refl w.heap.size w)
    go_enter Try.func6, Try.ntmps6
    go_upto_region 1 with fail
    obtain ⟨w1, hw⟩ : ∃ wx, wx = w.alloc (.cells #[.int .u64 (c : Int), .int .u64 (t : Int), .int .u64 (s : Int), .int .u64 (r : Int)] 25) := ⟨_, rfl⟩
    rw [← hw]
    obtain ⟨pC, hp⟩ : ∃ px, px = w.heap.size := ⟨_, rfl⟩
    rw [← hp]
    have hb : Below w.heap.size w w1 := by rw [hw]; exact (Below.refl _ _).alloc (Nat.le_refl _) _
    have hx : BxRn pC c t s r w1 := by rw [hp, hw]; exact BxRn.new _ c t s r
    have hs : pC < w1.heap.size := by rw [hp, hw]; simp
    have GC := Lib.hid (show w.heap.size ≤ pC by rw [hp]; exact B0.out.size)
    have B1 := Lib.hid (below_trans' B0.out hb)
    clear hb B0
    have XC1 := Lib.hid hx
    have SC1 := Lib.hid hs
    clear hx hs hw hp
    go_wp2_with fail
    refine (C0.out _).mono ?_
    rintro e w2 ⟨rfl, hb⟩
    have B2 := Lib.hid (below_trans' B1.out hb)
    have XC2 := Lib.hid (XC1.out.below hb SC1.out)
    have SC2 := Lib.hid (Nat.lt_of_lt_of_le SC1.out hb.size)
    clear hb B1 XC1 SC1
    obtain ⟨c0, c1, c2, c3, -, -, -, -⟩ := XC2.out
    go_wp2_with fail
    refine (C1.out _).mono ?_
    rintro e w3 ⟨rfl, hb⟩
    have B3 := Lib.hid (below_trans' B2.out hb)
    have XC3 := Lib.hid (XC2.out.below hb SC2.out)
    have SC3 := Lib.hid (Nat.lt_of_lt_of_le SC2.out hb.size)
    clear c0 c1 c2 c3
    clear hb B2 XC2 SC2
    go_upto_region 3 with fail
    obtain ⟨w4, hw⟩ : ∃ wx, wx = w3.alloc (.cells #[.int .u64 (c : Int), .int .u64 (t : Int), .int .u64 (s : Int), .int .u64 (r : Int)] 25) := ⟨_, rfl⟩
    rw [← hw]
    obtain ⟨pL, hp⟩ : ∃ px, px = w3.heap.size := ⟨_, rfl⟩
    rw [← hp]
    have hb : Below w3.heap.size w3 w4 := by rw [hw]; exact (Below.refl _ _).alloc (Nat.le_refl _) _
    have hx : BxRn pL c t s r w4 := by rw [hp, hw]; exact BxRn.new _ c t s r
    have hs : pL < w4.heap.size := by rw [hp, hw]; simp
    have GL := Lib.hid (show w.heap.size ≤ pL by rw [hp]; exact B3.out.size)
    have OCL := Lib.hid (show pC < pL by rw [hp]; exact SC3.out)
    have B4 := Lib.hid (below_trans' B3.out hb)
    have XC4 := Lib.hid (XC3.out.below hb SC3.out)
    have SC4 := Lib.hid (Nat.lt_of_lt_of_le SC3.out hb.size)
    clear hb B3 XC3 SC3
    have XL4 := Lib.hid hx
    have SL4 := Lib.hid hs
    clear hx hs hw hp
    obtain ⟨c0, c1, c2, c3, -, -, -, -⟩ := XC4.out
    obtain ⟨l0, l1, l2, l3, -, -, -, -⟩ := XL4.out
    go_wp2_with fail
    go_ret
    exact ⟨rfl, B4.out⟩
  · by_cases g : n < e
    · have t1 : decide (a < s) = false := decide_eq_false h
      obtain ⟨f, hf⟩ : ∃ f, f = Wig.nheld (c / 2) := ⟨_, rfl⟩
      obtain ⟨z, hz⟩ : ∃ z, z = Wig.fadd n 1 := ⟨_, rfl⟩
      have hl : Wig.nloss ⟨c, t, s, r⟩ a n = ⟨f, f, z, 0⟩ := by rw [Wig.nloss_some h, hf, hz]
      have ok2 : Wig.Rn.Ok ⟨f, f, z, 0⟩ := hl ▸ Wig.nloss_ok ok a n
      obtain ⟨q, hq⟩ : ∃ q, q = n + 5 := ⟨_, rfl⟩
      have eq : IntKind.u64.wrap ((n : Int) + 5) = (q : Int) := by rw [IntKind.wrap_u64]; omega
      have t2 : decide (n < e) = true := decide_eq_true g
      have hm : n ≤ n := Nat.le_refl _
      have C1 := Lib.hid (fun w => loss_any c t s r a n f f z 0 w ok (by omega) (by omega) hl)
      have C2 := Lib.hid (fun w => loss_any f f z 0 n q f f z 0 w ok2 (by omega) (by omega) (by rw [← hl]; exact Wig.nloss_again h hn hm))
      have C3 := Lib.hid (fun w => ack_any f f z 0 b n f f z 0 false w ok2 hb (by omega) (by rw [← hl]; exact Wig.nack_behind h hn hm))
      have C4 := Lib.hid (fun w => ack_any c t s r b a c t s r true w ok hb (by omega) Wig.nack_limited)
      have e1 := reno_same f f z 0
      have e2 := reno_same c t s r
      clear ok ok2 hc ht hs hr ha hn he hb h hf hz hl hq hm g
      have B0 := Lib.hid (Below.refl w.heap.size w)
      go_enter Try.func6, Try.ntmps6
      go_upto_region 1 with fail
      obtain ⟨w1, hw⟩ : ∃ wx, wx = w.alloc (.cells #[.int .u64 (c : Int), .int .u64 (t : Int), .int .u64 (s : Int), .int .u64 (r : Int)] 25) := ⟨_, rfl⟩
      rw [← hw]
      obtain ⟨pC, hp⟩ : ∃ px, px = w.heap.size := ⟨_, rfl⟩
      rw [← hp]
      have hb : Below w.heap.size w w1 := by rw [hw]; exact (Below.refl _ _).alloc (Nat.le_refl _) _
      have hx : BxRn pC c t s r w1 := by rw [hp, hw]; exact BxRn.new _ c t s r
      have hs : pC < w1.heap.size := by rw [hp, hw]; simp
      have GC := Lib.hid (show w.heap.size ≤ pC by rw [hp]; exact B0.out.size)
      have B1 := Lib.hid (below_trans' B0.out hb)
      clear hb B0
      have XC1 := Lib.hid hx
      have SC1 := Lib.hid hs
      clear hx hs hw hp
      go_wp2_with fail
      refine (C0.out _).mono ?_
      rintro e w2 ⟨rfl, hb⟩
      have B2 := Lib.hid (below_trans' B1.out hb)
      have XC2 := Lib.hid (XC1.out.below hb SC1.out)
      have SC2 := Lib.hid (Nat.lt_of_lt_of_le SC1.out hb.size)
      clear hb B1 XC1 SC1
      obtain ⟨c0, c1, c2, c3, -, -, -, -⟩ := XC2.out
      go_wp2_with fail
      refine (C1.out _).mono ?_
      rintro e w3 ⟨rfl, hb⟩
      have B3 := Lib.hid (below_trans' B2.out hb)
      have XC3 := Lib.hid (XC2.out.below hb SC2.out)
      have SC3 := Lib.hid (Nat.lt_of_lt_of_le SC2.out hb.size)
      clear c0 c1 c2 c3
      clear hb B2 XC2 SC2
      go_upto_region 3 with fail
      obtain ⟨w4, hw⟩ : ∃ wx, wx = w3.alloc (.cells #[.int .u64 (f : Int), .int .u64 (f : Int), .int .u64 (z : Int), .int .u64 0] 25) := ⟨_, rfl⟩
      rw [← hw]
      obtain ⟨pL, hp⟩ : ∃ px, px = w3.heap.size := ⟨_, rfl⟩
      rw [← hp]
      have hb : Below w3.heap.size w3 w4 := by rw [hw]; exact (Below.refl _ _).alloc (Nat.le_refl _) _
      have hx : BxRn pL f f z 0 w4 := by rw [hp, hw]; exact BxRn.new _ f f z 0
      have hs : pL < w4.heap.size := by rw [hp, hw]; simp
      have GL := Lib.hid (show w.heap.size ≤ pL by rw [hp]; exact B3.out.size)
      have OCL := Lib.hid (show pC < pL by rw [hp]; exact SC3.out)
      have B4 := Lib.hid (below_trans' B3.out hb)
      have XC4 := Lib.hid (XC3.out.below hb SC3.out)
      have SC4 := Lib.hid (Nat.lt_of_lt_of_le SC3.out hb.size)
      clear hb B3 XC3 SC3
      have XL4 := Lib.hid hx
      have SL4 := Lib.hid hs
      clear hx hs hw hp
      obtain ⟨c0, c1, c2, c3, -, -, -, -⟩ := XC4.out
      obtain ⟨l0, l1, l2, l3, -, -, -, -⟩ := XL4.out
      go_wp2_with fail
      clear c0 c1 c2 c3 l0 l1 l2 l3
      refine wp_region_held_drew (S := fun wx => BxRn pC c t s r wx ∧ BxRn pL f f z 0 wx ∧ Below w4.heap.size w4 wx) (by kernel_rfl) ?_ (fun hHeld => ?_)
      · exact ⟨XC4.out.drew, XL4.out.drew, (Below.refl _ _).drew⟩
      refine held_take (v := ?vv101) 0 rfl (by kernel_rfl) (by kernel_rfl) (by kernel_rfl) (fun _ _ _ h => h) (by rfl) ?yy101 (by assumption) ?nn101
      case yy101 =>
        intro w hSw
        (try dsimp only at hSw)
        go_simp
        try with_reducible rfl
      try simp only [Act.put, List.setIfInBounds_toArray, List.set_cons_zero, List.set_cons_succ]
      refine held_take (v := ?vv102) 1 rfl (by kernel_rfl) (by kernel_rfl) (by kernel_rfl) (fun _ _ _ h => h) (by rfl) ?yy102 (by assumption) ?nn102
      case yy102 =>
        intro w hSw
        (try dsimp only at hSw)
        go_simp
        try with_reducible rfl
      try simp only [Act.put, List.setIfInBounds_toArray, List.set_cons_zero, List.set_cons_succ]
      refine held_take (v := .agg #[.int .u64 (f : Int), .int .u64 (f : Int), .int .u64 (z : Int), .int .u64 0]) 2 rfl (by kernel_rfl) (by kernel_rfl) (by kernel_rfl) (fun _ _ _ h => h) (by rfl) (fun wx hSw => by obtain ⟨c0, c1, c2, c3, -, -, -, -⟩ := hSw.2.1; clear hSw; go_simp) (by assumption) ?_
      try simp only [Act.put, List.setIfInBounds_toArray, List.set_cons_zero, List.set_cons_succ]
      refine held_take (v := ?vv104) 3 rfl (by kernel_rfl) (by kernel_rfl) (by kernel_rfl) (fun _ _ _ h => h) (by rfl) ?yy104 (by assumption) ?nn104
      case yy104 =>
        intro w hSw
        (try dsimp only at hSw)
        go_simp
        try with_reducible rfl
      try simp only [Act.put, List.setIfInBounds_toArray, List.set_cons_zero, List.set_cons_succ]
      refine held_take (v := ?vv105) 4 rfl (by kernel_rfl) (by kernel_rfl) (by kernel_rfl) (fun _ _ _ h => h) (by rfl) ?yy105 (by assumption) ?nn105
      case yy105 =>
        intro w hSw
        (try dsimp only at hSw)
        go_simp
        try with_reducible rfl
      try simp only [Act.put, List.setIfInBounds_toArray, List.set_cons_zero, List.set_cons_succ]
      refine held_take (v := ?vv106) 5 rfl (by kernel_rfl) (by kernel_rfl) (by kernel_rfl) (fun _ _ _ h => h) (by rfl) ?yy106 (by assumption) ?nn106
      case yy106 =>
        intro w hSw
        (try dsimp only at hSw)
        go_simp
        try with_reducible rfl
      try simp only [Act.put, List.setIfInBounds_toArray, List.set_cons_zero, List.set_cons_succ]
      refine held_take (v := ?vv107) 6 rfl (by kernel_rfl) (by kernel_rfl) (by kernel_rfl) (fun _ _ _ h => h) (by rfl) ?yy107 (by assumption) ?nn107
      case yy107 =>
        intro w hSw
        (try dsimp only at hSw)
        go_simp
        try with_reducible rfl
      try simp only [Act.put, List.setIfInBounds_toArray, List.set_cons_zero, List.set_cons_succ]
      refine held_take (v := .agg #[.int .u64 (f : Int), .int .u64 (f : Int), .int .u64 (z : Int), .int .u64 0]) 8 rfl (by kernel_rfl) (by kernel_rfl) (by kernel_rfl) (fun _ _ _ h => h) (by rfl) (fun wx hSw => by obtain ⟨c0, c1, c2, c3, -, -, -, -⟩ := hSw.2.1; clear hSw; go_simp) (by assumption) ?_
      try simp only [Act.put, List.setIfInBounds_toArray, List.set_cons_zero, List.set_cons_succ]
      refine held_do 7 rfl (by kernel_rfl) (by rfl) (fun K hK => ?_)
      go_wp2_with (go_at_call 13; refine (C2.out _).mono ?_; rintro e w5 ⟨rfl, hb5⟩; have K5 := Lib.hid (Below.trans hHeld.2.2 (hb5.mono hHeld.2.2.size)); clear hb5)
      refine hK.out _ _ ?_ (fun hHeld => ?_)
      · exact ⟨XC4.out.below K5.out SC4.out, XL4.out.below K5.out SL4.out, K5.out⟩
      clear hK K
      try simp only [Act.put, List.setIfInBounds_toArray, List.set_cons_zero, List.set_cons_succ]
      refine held_take (v := ?vv110) 9 rfl (by kernel_rfl) (by kernel_rfl) (by kernel_rfl) (fun _ _ _ h => h) (by rfl) ?yy110 (by assumption) ?nn110
      case yy110 =>
        intro w hSw
        (try dsimp only at hSw)
        go_simp
        try with_reducible rfl
      try simp only [Act.put, List.setIfInBounds_toArray, List.set_cons_zero, List.set_cons_succ]
      refine held_take (v := ?vv111) 10 rfl (by kernel_rfl) (by kernel_rfl) (by kernel_rfl) (fun _ _ _ h => h) (by rfl) ?yy111 (by assumption) ?nn111
      case yy111 =>
        intro w hSw
        (try dsimp only at hSw)
        go_simp
        try with_reducible rfl
      try simp only [Act.put, List.setIfInBounds_toArray, List.set_cons_zero, List.set_cons_succ]
      refine held_take (v := ?vv112) 11 rfl (by kernel_rfl) (by kernel_rfl) (by kernel_rfl) (fun _ _ _ h => h) (by rfl) ?yy112 (by assumption) ?nn112
      case yy112 =>
        intro w hSw
        (try dsimp only at hSw)
        go_simp
        try with_reducible rfl
      try simp only [Act.put, List.setIfInBounds_toArray, List.set_cons_zero, List.set_cons_succ]
      refine held_take (v := .agg #[.int .u64 (f : Int), .int .u64 (f : Int), .int .u64 (z : Int), .int .u64 0]) 12 rfl (by kernel_rfl) (by kernel_rfl) (by kernel_rfl) (fun _ _ _ h => h) (by rfl) (fun wx hSw => by obtain ⟨c0, c1, c2, c3, -, -, -, -⟩ := hSw.2.1; clear hSw; go_simp) (by assumption) ?_
      try simp only [Act.put, List.setIfInBounds_toArray, List.set_cons_zero, List.set_cons_succ]
      refine held_take (v := ?vv114) 13 rfl (by kernel_rfl) (by kernel_rfl) (by kernel_rfl) (fun _ _ _ h => h) (by rfl) ?yy114 (by assumption) ?nn114
      case yy114 =>
        intro w hSw
        (try dsimp only at hSw)
        go_simp
        try with_reducible rfl
      try simp only [Act.put, List.setIfInBounds_toArray, List.set_cons_zero, List.set_cons_succ]
      refine held_take (v := ?vv115) 14 rfl (by kernel_rfl) (by kernel_rfl) (by kernel_rfl) (fun _ _ _ h => h) (by rfl) ?yy115 (by assumption) ?nn115
      case yy115 =>
        intro w hSw
        (try dsimp only at hSw)
        go_simp
        try with_reducible rfl
      try simp only [Act.put, List.setIfInBounds_toArray, List.set_cons_zero, List.set_cons_succ]
      refine held_take (v := .agg #[.int .u64 (f : Int), .int .u64 (f : Int), .int .u64 (z : Int), .int .u64 0]) 16 rfl (by kernel_rfl) (by kernel_rfl) (by kernel_rfl) (fun _ _ _ h => h) (by rfl) (fun wx hSw => by obtain ⟨c0, c1, c2, c3, -, -, -, -⟩ := hSw.2.1; clear hSw; go_simp) (by assumption) ?_
      try simp only [Act.put, List.setIfInBounds_toArray, List.set_cons_zero, List.set_cons_succ]
      refine held_do 15 rfl (by kernel_rfl) (by rfl) (fun K hK => ?_)
      go_wp2_with (go_at_call 11; refine (C3.out _).mono ?_; rintro e w6 ⟨rfl, hb6⟩; have K6 := Lib.hid (Below.trans hHeld.2.2 (hb6.mono hHeld.2.2.size)); clear hb6)
      refine hK.out _ _ ?_ (fun hHeld => ?_)
      · exact ⟨XC4.out.below K6.out SC4.out, XL4.out.below K6.out SL4.out, K6.out⟩
      clear hK K
      try simp only [Act.put, List.setIfInBounds_toArray, List.set_cons_zero, List.set_cons_succ]
      refine held_take (v := ?vv118) 17 rfl (by kernel_rfl) (by kernel_rfl) (by kernel_rfl) (fun _ _ _ h => h) (by rfl) ?yy118 (by assumption) ?nn118
      case yy118 =>
        intro w hSw
        (try dsimp only at hSw)
        go_simp
        try with_reducible rfl
      try simp only [Act.put, List.setIfInBounds_toArray, List.set_cons_zero, List.set_cons_succ]
      refine held_take (v := ?vv119) 18 rfl (by kernel_rfl) (by kernel_rfl) (by kernel_rfl) (fun _ _ _ h => h) (by rfl) ?yy119 (by assumption) ?nn119
      case yy119 =>
        intro w hSw
        (try dsimp only at hSw)
        go_simp
        try with_reducible rfl
      try simp only [Act.put, List.setIfInBounds_toArray, List.set_cons_zero, List.set_cons_succ]
      refine held_take (v := ?vv120) 19 rfl (by kernel_rfl) (by kernel_rfl) (by kernel_rfl) (fun _ _ _ h => h) (by rfl) ?yy120 (by assumption) ?nn120
      case yy120 =>
        intro w hSw
        (try dsimp only at hSw)
        go_simp
        try with_reducible rfl
      try simp only [Act.put, List.setIfInBounds_toArray, List.set_cons_zero, List.set_cons_succ]
      refine held_take (v := .agg #[.int .u64 (c : Int), .int .u64 (t : Int), .int .u64 (s : Int), .int .u64 (r : Int)]) 20 rfl (by kernel_rfl) (by kernel_rfl) (by kernel_rfl) (fun _ _ _ h => h) (by rfl) (fun wx hSw => by obtain ⟨c0, c1, c2, c3, -, -, -, -⟩ := hSw.1; clear hSw; go_simp) (by assumption) ?_
      try simp only [Act.put, List.setIfInBounds_toArray, List.set_cons_zero, List.set_cons_succ]
      refine held_take (v := ?vv122) 21 rfl (by kernel_rfl) (by kernel_rfl) (by kernel_rfl) (fun _ _ _ h => h) (by rfl) ?yy122 (by assumption) ?nn122
      case yy122 =>
        intro w hSw
        (try dsimp only at hSw)
        go_simp
        try with_reducible rfl
      try simp only [Act.put, List.setIfInBounds_toArray, List.set_cons_zero, List.set_cons_succ]
      refine held_take (v := ?vv123) 22 rfl (by kernel_rfl) (by kernel_rfl) (by kernel_rfl) (fun _ _ _ h => h) (by rfl) ?yy123 (by assumption) ?nn123
      case yy123 =>
        intro w hSw
        (try dsimp only at hSw)
        go_simp
        try with_reducible rfl
      try simp only [Act.put, List.setIfInBounds_toArray, List.set_cons_zero, List.set_cons_succ]
      refine held_take (v := ?vv124) 23 rfl (by kernel_rfl) (by kernel_rfl) (by kernel_rfl) (fun _ _ _ h => h) (by rfl) ?yy124 (by assumption) ?nn124
      case yy124 =>
        intro w hSw
        (try dsimp only at hSw)
        go_simp
        try with_reducible rfl
      try simp only [Act.put, List.setIfInBounds_toArray, List.set_cons_zero, List.set_cons_succ]
      refine held_take (v := .agg #[.int .u64 (c : Int), .int .u64 (t : Int), .int .u64 (s : Int), .int .u64 (r : Int)]) 25 rfl (by kernel_rfl) (by kernel_rfl) (by kernel_rfl) (fun _ _ _ h => h) (by rfl) (fun wx hSw => by obtain ⟨c0, c1, c2, c3, -, -, -, -⟩ := hSw.1; clear hSw; go_simp) (by assumption) ?_
      try simp only [Act.put, List.setIfInBounds_toArray, List.set_cons_zero, List.set_cons_succ]
      refine held_do 24 rfl (by kernel_rfl) (by rfl) (fun K hK => ?_)
      go_wp2_with (go_at_call 11; refine (C4.out _).mono ?_; rintro e w7 ⟨rfl, hb7⟩; have K7 := Lib.hid (Below.trans hHeld.2.2 (hb7.mono hHeld.2.2.size)); clear hb7)
      refine hK.out _ _ ?_ (fun hHeld => ?_)
      · exact ⟨XC4.out.below K7.out SC4.out, XL4.out.below K7.out SL4.out, K7.out⟩
      clear hK K
      try simp only [Act.put, List.setIfInBounds_toArray, List.set_cons_zero, List.set_cons_succ]
      refine held_take (v := ?vv127) 26 rfl (by kernel_rfl) (by kernel_rfl) (by kernel_rfl) (fun _ _ _ h => h) (by rfl) ?yy127 (by assumption) ?nn127
      case yy127 =>
        intro w hSw
        (try dsimp only at hSw)
        go_simp
        try with_reducible rfl
      try simp only [Act.put, List.setIfInBounds_toArray, List.set_cons_zero, List.set_cons_succ]
      refine held_take (v := ?vv128) 27 rfl (by kernel_rfl) (by kernel_rfl) (by kernel_rfl) (fun _ _ _ h => h) (by rfl) ?yy128 (by assumption) ?nn128
      case yy128 =>
        intro w hSw
        (try dsimp only at hSw)
        go_simp
        try with_reducible rfl
      try simp only [Act.put, List.setIfInBounds_toArray, List.set_cons_zero, List.set_cons_succ]
      refine held_take (v := ?vv129) 28 rfl (by kernel_rfl) (by kernel_rfl) (by kernel_rfl) (fun _ _ _ h => h) (by rfl) ?yy129 (by assumption) ?nn129
      case yy129 =>
        intro w hSw
        (try dsimp only at hSw)
        go_simp
        try with_reducible rfl
      try simp only [Act.put, List.setIfInBounds_toArray, List.set_cons_zero, List.set_cons_succ]
      refine held_take (v := ?vv130) 29 rfl (by kernel_rfl) (by kernel_rfl) (by kernel_rfl) (fun _ _ _ h => h) (by rfl) ?yy130 (by assumption) ?nn130
      case yy130 =>
        intro w hSw
        (try dsimp only at hSw)
        go_simp
        try with_reducible rfl
      try simp only [Act.put, List.setIfInBounds_toArray, List.set_cons_zero, List.set_cons_succ]
      refine held_take (v := .int .u64 (f : Int)) 30 rfl (by kernel_rfl) (by kernel_rfl) (by kernel_rfl) (fun _ _ _ h => h) (by rfl) (fun wx hSw => by have c := hSw.2.1.c0; clear hSw; go_simp) (by assumption) ?_
      try simp only [Act.put, List.setIfInBounds_toArray, List.set_cons_zero, List.set_cons_succ]
      refine held_take (v := ?vv132) 31 rfl (by kernel_rfl) (by kernel_rfl) (by kernel_rfl) (fun _ _ _ h => h) (by rfl) ?yy132 (by assumption) ?nn132
      case yy132 =>
        intro w hSw
        (try dsimp only at hSw)
        go_simp
        try with_reducible rfl
      try simp only [Act.put, List.setIfInBounds_toArray, List.set_cons_zero, List.set_cons_succ]
      refine held_take (v := .int .u64 (f : Int)) 32 rfl (by kernel_rfl) (by kernel_rfl) (by kernel_rfl) (fun _ _ _ h => h) (by rfl) (fun wx hSw => by have c := hSw.2.1.c1; clear hSw; go_simp) (by assumption) ?_
      try simp only [Act.put, List.setIfInBounds_toArray, List.set_cons_zero, List.set_cons_succ]
      refine held_take (v := ?vv134) 33 rfl (by kernel_rfl) (by kernel_rfl) (by kernel_rfl) (fun _ _ _ h => h) (by rfl) ?yy134 (by assumption) ?nn134
      case yy134 =>
        intro w hSw
        (try dsimp only at hSw)
        go_simp
        try with_reducible rfl
      try simp only [Act.put, List.setIfInBounds_toArray, List.set_cons_zero, List.set_cons_succ]
      refine held_take (v := ?vv135) 34 rfl (by kernel_rfl) (by kernel_rfl) (by kernel_rfl) (fun _ _ _ h => h) (by rfl) ?yy135 (by assumption) ?nn135
      case yy135 =>
        intro w hSw
        (try dsimp only at hSw)
        go_simp
        try with_reducible rfl
      try simp only [Act.put, List.setIfInBounds_toArray, List.set_cons_zero, List.set_cons_succ]
      refine held_take (v := ?vv136) 35 rfl (by kernel_rfl) (by kernel_rfl) (by kernel_rfl) (fun _ _ _ h => h) (by rfl) ?yy136 (by assumption) ?nn136
      case yy136 =>
        intro w hSw
        (try dsimp only at hSw)
        go_simp
        try with_reducible rfl
      try simp only [Act.put, List.setIfInBounds_toArray, List.set_cons_zero, List.set_cons_succ]
      refine held_take (v := ?vv137) 36 rfl (by kernel_rfl) (by kernel_rfl) (by kernel_rfl) (fun _ _ _ h => h) (by rfl) ?yy137 (by assumption) ?nn137
      case yy137 =>
        intro w hSw
        (try dsimp only at hSw)
        go_simp
        try with_reducible rfl
      try simp only [Act.put, List.setIfInBounds_toArray, List.set_cons_zero, List.set_cons_succ]
      refine held_take (v := .int .u64 0) 37 rfl (by kernel_rfl) (by kernel_rfl) (by kernel_rfl) (fun _ _ _ h => h) (by rfl) (fun wx hSw => by have c := hSw.2.1.c3; clear hSw; go_simp) (by assumption) ?_
      try simp only [Act.put, List.setIfInBounds_toArray, List.set_cons_zero, List.set_cons_succ]
      refine held_take (v := ?vv139) 38 rfl (by kernel_rfl) (by kernel_rfl) (by kernel_rfl) (fun _ _ _ h => h) (by rfl) ?yy139 (by assumption) ?nn139
      case yy139 =>
        intro w hSw
        (try dsimp only at hSw)
        go_simp
        try with_reducible rfl
      try simp only [Act.put, List.setIfInBounds_toArray, List.set_cons_zero, List.set_cons_succ]
      refine held_take (v := ?vv140) 39 rfl (by kernel_rfl) (by kernel_rfl) (by kernel_rfl) (fun _ _ _ h => h) (by rfl) ?yy140 (by assumption) ?nn140
      case yy140 =>
        intro w hSw
        (try dsimp only at hSw)
        go_simp
        try with_reducible rfl
      try simp only [Act.put, List.setIfInBounds_toArray, List.set_cons_zero, List.set_cons_succ]
      refine held_take (v := ?vv141) 40 rfl (by kernel_rfl) (by kernel_rfl) (by kernel_rfl) (fun _ _ _ h => h) (by rfl) ?yy141 (by assumption) ?nn141
      case yy141 =>
        intro w hSw
        (try dsimp only at hSw)
        go_simp
        try with_reducible rfl
      try simp only [Act.put, List.setIfInBounds_toArray, List.set_cons_zero, List.set_cons_succ]
      refine wpAnyH_done (by kernel_rfl) ?_ _
      clear hHeld
      have B7 := Lib.hid (below_trans' B4.out K7.out)
      have XC7 := Lib.hid (XC4.out.below K7.out SC4.out)
      have SC7 := Lib.hid (Nat.lt_of_lt_of_le SC4.out K7.out.size)
      have XL7 := Lib.hid (XL4.out.below K7.out SL4.out)
      have SL7 := Lib.hid (Nat.lt_of_lt_of_le SL4.out K7.out.size)
      clear B4 XC4 SC4 XL4 SL4
      go_wp2_with fail
      go_ret
      exact ⟨rfl, B7.out⟩
    · have t1 : decide (a < s) = false := decide_eq_false h
      obtain ⟨f, hf⟩ : ∃ f, f = Wig.nheld (c / 2) := ⟨_, rfl⟩
      obtain ⟨z, hz⟩ : ∃ z, z = Wig.fadd n 1 := ⟨_, rfl⟩
      have hl : Wig.nloss ⟨c, t, s, r⟩ a n = ⟨f, f, z, 0⟩ := by rw [Wig.nloss_some h, hf, hz]
      have ok2 : Wig.Rn.Ok ⟨f, f, z, 0⟩ := hl ▸ Wig.nloss_ok ok a n
      obtain ⟨q, hq⟩ : ∃ q, q = n + 5 := ⟨_, rfl⟩
      have eq : IntKind.u64.wrap ((n : Int) + 5) = (q : Int) := by rw [IntKind.wrap_u64]; omega
      have t2 : decide (n < e) = false := decide_eq_false g
      have hm : e ≤ n := by omega
      have C1 := Lib.hid (fun w => loss_any c t s r a n f f z 0 w ok (by omega) (by omega) hl)
      have C2 := Lib.hid (fun w => loss_any f f z 0 e q f f z 0 w ok2 (by omega) (by omega) (by rw [← hl]; exact Wig.nloss_again h hn hm))
      have C3 := Lib.hid (fun w => ack_any f f z 0 b e f f z 0 false w ok2 hb (by omega) (by rw [← hl]; exact Wig.nack_behind h hn hm))
      have C4 := Lib.hid (fun w => ack_any c t s r b a c t s r true w ok hb (by omega) Wig.nack_limited)
      have e1 := reno_same f f z 0
      have e2 := reno_same c t s r
      clear ok ok2 hc ht hs hr ha hn he hb h hf hz hl hq hm g
      have B0 := Lib.hid (Below.refl w.heap.size w)
      go_enter Try.func6, Try.ntmps6
      go_upto_region 1 with fail
      obtain ⟨w1, hw⟩ : ∃ wx, wx = w.alloc (.cells #[.int .u64 (c : Int), .int .u64 (t : Int), .int .u64 (s : Int), .int .u64 (r : Int)] 25) := ⟨_, rfl⟩
      rw [← hw]
      obtain ⟨pC, hp⟩ : ∃ px, px = w.heap.size := ⟨_, rfl⟩
      rw [← hp]
      have hb : Below w.heap.size w w1 := by rw [hw]; exact (Below.refl _ _).alloc (Nat.le_refl _) _
      have hx : BxRn pC c t s r w1 := by rw [hp, hw]; exact BxRn.new _ c t s r
      have hs : pC < w1.heap.size := by rw [hp, hw]; simp
      have GC := Lib.hid (show w.heap.size ≤ pC by rw [hp]; exact B0.out.size)
      have B1 := Lib.hid (below_trans' B0.out hb)
      clear hb B0
      have XC1 := Lib.hid hx
      have SC1 := Lib.hid hs
      clear hx hs hw hp
      go_wp2_with fail
      refine (C0.out _).mono ?_
      rintro e w2 ⟨rfl, hb⟩
      have B2 := Lib.hid (below_trans' B1.out hb)
      have XC2 := Lib.hid (XC1.out.below hb SC1.out)
      have SC2 := Lib.hid (Nat.lt_of_lt_of_le SC1.out hb.size)
      clear hb B1 XC1 SC1
      obtain ⟨c0, c1, c2, c3, -, -, -, -⟩ := XC2.out
      go_wp2_with fail
      refine (C1.out _).mono ?_
      rintro e w3 ⟨rfl, hb⟩
      have B3 := Lib.hid (below_trans' B2.out hb)
      have XC3 := Lib.hid (XC2.out.below hb SC2.out)
      have SC3 := Lib.hid (Nat.lt_of_lt_of_le SC2.out hb.size)
      clear c0 c1 c2 c3
      clear hb B2 XC2 SC2
      go_upto_region 3 with fail
      obtain ⟨w4, hw⟩ : ∃ wx, wx = w3.alloc (.cells #[.int .u64 (f : Int), .int .u64 (f : Int), .int .u64 (z : Int), .int .u64 0] 25) := ⟨_, rfl⟩
      rw [← hw]
      obtain ⟨pL, hp⟩ : ∃ px, px = w3.heap.size := ⟨_, rfl⟩
      rw [← hp]
      have hb : Below w3.heap.size w3 w4 := by rw [hw]; exact (Below.refl _ _).alloc (Nat.le_refl _) _
      have hx : BxRn pL f f z 0 w4 := by rw [hp, hw]; exact BxRn.new _ f f z 0
      have hs : pL < w4.heap.size := by rw [hp, hw]; simp
      have GL := Lib.hid (show w.heap.size ≤ pL by rw [hp]; exact B3.out.size)
      have OCL := Lib.hid (show pC < pL by rw [hp]; exact SC3.out)
      have B4 := Lib.hid (below_trans' B3.out hb)
      have XC4 := Lib.hid (XC3.out.below hb SC3.out)
      have SC4 := Lib.hid (Nat.lt_of_lt_of_le SC3.out hb.size)
      clear hb B3 XC3 SC3
      have XL4 := Lib.hid hx
      have SL4 := Lib.hid hs
      clear hx hs hw hp
      obtain ⟨c0, c1, c2, c3, -, -, -, -⟩ := XC4.out
      obtain ⟨l0, l1, l2, l3, -, -, -, -⟩ := XL4.out
      go_wp2_with fail
      clear c0 c1 c2 c3 l0 l1 l2 l3
      refine wp_region_held_drew (S := fun wx => BxRn pC c t s r wx ∧ BxRn pL f f z 0 wx ∧ Below w4.heap.size w4 wx) (by kernel_rfl) ?_ (fun hHeld => ?_)
      · exact ⟨XC4.out.drew, XL4.out.drew, (Below.refl _ _).drew⟩
      refine held_take (v := ?vv143) 0 rfl (by kernel_rfl) (by kernel_rfl) (by kernel_rfl) (fun _ _ _ h => h) (by rfl) ?yy143 (by assumption) ?nn143
      case yy143 =>
        intro w hSw
        (try dsimp only at hSw)
        go_simp
        try with_reducible rfl
      try simp only [Act.put, List.setIfInBounds_toArray, List.set_cons_zero, List.set_cons_succ]
      refine held_take (v := ?vv144) 1 rfl (by kernel_rfl) (by kernel_rfl) (by kernel_rfl) (fun _ _ _ h => h) (by rfl) ?yy144 (by assumption) ?nn144
      case yy144 =>
        intro w hSw
        (try dsimp only at hSw)
        go_simp
        try with_reducible rfl
      try simp only [Act.put, List.setIfInBounds_toArray, List.set_cons_zero, List.set_cons_succ]
      refine held_take (v := .agg #[.int .u64 (f : Int), .int .u64 (f : Int), .int .u64 (z : Int), .int .u64 0]) 2 rfl (by kernel_rfl) (by kernel_rfl) (by kernel_rfl) (fun _ _ _ h => h) (by rfl) (fun wx hSw => by obtain ⟨c0, c1, c2, c3, -, -, -, -⟩ := hSw.2.1; clear hSw; go_simp) (by assumption) ?_
      try simp only [Act.put, List.setIfInBounds_toArray, List.set_cons_zero, List.set_cons_succ]
      refine held_take (v := ?vv146) 3 rfl (by kernel_rfl) (by kernel_rfl) (by kernel_rfl) (fun _ _ _ h => h) (by rfl) ?yy146 (by assumption) ?nn146
      case yy146 =>
        intro w hSw
        (try dsimp only at hSw)
        go_simp
        try with_reducible rfl
      try simp only [Act.put, List.setIfInBounds_toArray, List.set_cons_zero, List.set_cons_succ]
      refine held_take (v := ?vv147) 4 rfl (by kernel_rfl) (by kernel_rfl) (by kernel_rfl) (fun _ _ _ h => h) (by rfl) ?yy147 (by assumption) ?nn147
      case yy147 =>
        intro w hSw
        (try dsimp only at hSw)
        go_simp
        try with_reducible rfl
      try simp only [Act.put, List.setIfInBounds_toArray, List.set_cons_zero, List.set_cons_succ]
      refine held_take (v := ?vv148) 5 rfl (by kernel_rfl) (by kernel_rfl) (by kernel_rfl) (fun _ _ _ h => h) (by rfl) ?yy148 (by assumption) ?nn148
      case yy148 =>
        intro w hSw
        (try dsimp only at hSw)
        go_simp
        try with_reducible rfl
      try simp only [Act.put, List.setIfInBounds_toArray, List.set_cons_zero, List.set_cons_succ]
      refine held_take (v := ?vv149) 6 rfl (by kernel_rfl) (by kernel_rfl) (by kernel_rfl) (fun _ _ _ h => h) (by rfl) ?yy149 (by assumption) ?nn149
      case yy149 =>
        intro w hSw
        (try dsimp only at hSw)
        go_simp
        try with_reducible rfl
      try simp only [Act.put, List.setIfInBounds_toArray, List.set_cons_zero, List.set_cons_succ]
      refine held_take (v := .agg #[.int .u64 (f : Int), .int .u64 (f : Int), .int .u64 (z : Int), .int .u64 0]) 8 rfl (by kernel_rfl) (by kernel_rfl) (by kernel_rfl) (fun _ _ _ h => h) (by rfl) (fun wx hSw => by obtain ⟨c0, c1, c2, c3, -, -, -, -⟩ := hSw.2.1; clear hSw; go_simp) (by assumption) ?_
      try simp only [Act.put, List.setIfInBounds_toArray, List.set_cons_zero, List.set_cons_succ]
      refine held_do 7 rfl (by kernel_rfl) (by rfl) (fun K hK => ?_)
      go_wp2_with (go_at_call 13; refine (C2.out _).mono ?_; rintro e w5 ⟨rfl, hb5⟩; have K5 := Lib.hid (Below.trans hHeld.2.2 (hb5.mono hHeld.2.2.size)); clear hb5)
      refine hK.out _ _ ?_ (fun hHeld => ?_)
      · exact ⟨XC4.out.below K5.out SC4.out, XL4.out.below K5.out SL4.out, K5.out⟩
      clear hK K
      try simp only [Act.put, List.setIfInBounds_toArray, List.set_cons_zero, List.set_cons_succ]
      refine held_take (v := ?vv152) 9 rfl (by kernel_rfl) (by kernel_rfl) (by kernel_rfl) (fun _ _ _ h => h) (by rfl) ?yy152 (by assumption) ?nn152
      case yy152 =>
        intro w hSw
        (try dsimp only at hSw)
        go_simp
        try with_reducible rfl
      try simp only [Act.put, List.setIfInBounds_toArray, List.set_cons_zero, List.set_cons_succ]
      refine held_take (v := ?vv153) 10 rfl (by kernel_rfl) (by kernel_rfl) (by kernel_rfl) (fun _ _ _ h => h) (by rfl) ?yy153 (by assumption) ?nn153
      case yy153 =>
        intro w hSw
        (try dsimp only at hSw)
        go_simp
        try with_reducible rfl
      try simp only [Act.put, List.setIfInBounds_toArray, List.set_cons_zero, List.set_cons_succ]
      refine held_take (v := ?vv154) 11 rfl (by kernel_rfl) (by kernel_rfl) (by kernel_rfl) (fun _ _ _ h => h) (by rfl) ?yy154 (by assumption) ?nn154
      case yy154 =>
        intro w hSw
        (try dsimp only at hSw)
        go_simp
        try with_reducible rfl
      try simp only [Act.put, List.setIfInBounds_toArray, List.set_cons_zero, List.set_cons_succ]
      refine held_take (v := .agg #[.int .u64 (f : Int), .int .u64 (f : Int), .int .u64 (z : Int), .int .u64 0]) 12 rfl (by kernel_rfl) (by kernel_rfl) (by kernel_rfl) (fun _ _ _ h => h) (by rfl) (fun wx hSw => by obtain ⟨c0, c1, c2, c3, -, -, -, -⟩ := hSw.2.1; clear hSw; go_simp) (by assumption) ?_
      try simp only [Act.put, List.setIfInBounds_toArray, List.set_cons_zero, List.set_cons_succ]
      refine held_take (v := ?vv156) 13 rfl (by kernel_rfl) (by kernel_rfl) (by kernel_rfl) (fun _ _ _ h => h) (by rfl) ?yy156 (by assumption) ?nn156
      case yy156 =>
        intro w hSw
        (try dsimp only at hSw)
        go_simp
        try with_reducible rfl
      try simp only [Act.put, List.setIfInBounds_toArray, List.set_cons_zero, List.set_cons_succ]
      refine held_take (v := ?vv157) 14 rfl (by kernel_rfl) (by kernel_rfl) (by kernel_rfl) (fun _ _ _ h => h) (by rfl) ?yy157 (by assumption) ?nn157
      case yy157 =>
        intro w hSw
        (try dsimp only at hSw)
        go_simp
        try with_reducible rfl
      try simp only [Act.put, List.setIfInBounds_toArray, List.set_cons_zero, List.set_cons_succ]
      refine held_take (v := .agg #[.int .u64 (f : Int), .int .u64 (f : Int), .int .u64 (z : Int), .int .u64 0]) 16 rfl (by kernel_rfl) (by kernel_rfl) (by kernel_rfl) (fun _ _ _ h => h) (by rfl) (fun wx hSw => by obtain ⟨c0, c1, c2, c3, -, -, -, -⟩ := hSw.2.1; clear hSw; go_simp) (by assumption) ?_
      try simp only [Act.put, List.setIfInBounds_toArray, List.set_cons_zero, List.set_cons_succ]
      refine held_do 15 rfl (by kernel_rfl) (by rfl) (fun K hK => ?_)
      go_wp2_with (go_at_call 11; refine (C3.out _).mono ?_; rintro e w6 ⟨rfl, hb6⟩; have K6 := Lib.hid (Below.trans hHeld.2.2 (hb6.mono hHeld.2.2.size)); clear hb6)
      refine hK.out _ _ ?_ (fun hHeld => ?_)
      · exact ⟨XC4.out.below K6.out SC4.out, XL4.out.below K6.out SL4.out, K6.out⟩
      clear hK K
      try simp only [Act.put, List.setIfInBounds_toArray, List.set_cons_zero, List.set_cons_succ]
      refine held_take (v := ?vv160) 17 rfl (by kernel_rfl) (by kernel_rfl) (by kernel_rfl) (fun _ _ _ h => h) (by rfl) ?yy160 (by assumption) ?nn160
      case yy160 =>
        intro w hSw
        (try dsimp only at hSw)
        go_simp
        try with_reducible rfl
      try simp only [Act.put, List.setIfInBounds_toArray, List.set_cons_zero, List.set_cons_succ]
      refine held_take (v := ?vv161) 18 rfl (by kernel_rfl) (by kernel_rfl) (by kernel_rfl) (fun _ _ _ h => h) (by rfl) ?yy161 (by assumption) ?nn161
      case yy161 =>
        intro w hSw
        (try dsimp only at hSw)
        go_simp
        try with_reducible rfl
      try simp only [Act.put, List.setIfInBounds_toArray, List.set_cons_zero, List.set_cons_succ]
      refine held_take (v := ?vv162) 19 rfl (by kernel_rfl) (by kernel_rfl) (by kernel_rfl) (fun _ _ _ h => h) (by rfl) ?yy162 (by assumption) ?nn162
      case yy162 =>
        intro w hSw
        (try dsimp only at hSw)
        go_simp
        try with_reducible rfl
      try simp only [Act.put, List.setIfInBounds_toArray, List.set_cons_zero, List.set_cons_succ]
      refine held_take (v := .agg #[.int .u64 (c : Int), .int .u64 (t : Int), .int .u64 (s : Int), .int .u64 (r : Int)]) 20 rfl (by kernel_rfl) (by kernel_rfl) (by kernel_rfl) (fun _ _ _ h => h) (by rfl) (fun wx hSw => by obtain ⟨c0, c1, c2, c3, -, -, -, -⟩ := hSw.1; clear hSw; go_simp) (by assumption) ?_
      try simp only [Act.put, List.setIfInBounds_toArray, List.set_cons_zero, List.set_cons_succ]
      refine held_take (v := ?vv164) 21 rfl (by kernel_rfl) (by kernel_rfl) (by kernel_rfl) (fun _ _ _ h => h) (by rfl) ?yy164 (by assumption) ?nn164
      case yy164 =>
        intro w hSw
        (try dsimp only at hSw)
        go_simp
        try with_reducible rfl
      try simp only [Act.put, List.setIfInBounds_toArray, List.set_cons_zero, List.set_cons_succ]
      refine held_take (v := ?vv165) 22 rfl (by kernel_rfl) (by kernel_rfl) (by kernel_rfl) (fun _ _ _ h => h) (by rfl) ?yy165 (by assumption) ?nn165
      case yy165 =>
        intro w hSw
        (try dsimp only at hSw)
        go_simp
        try with_reducible rfl
      try simp only [Act.put, List.setIfInBounds_toArray, List.set_cons_zero, List.set_cons_succ]
      refine held_take (v := ?vv166) 23 rfl (by kernel_rfl) (by kernel_rfl) (by kernel_rfl) (fun _ _ _ h => h) (by rfl) ?yy166 (by assumption) ?nn166
      case yy166 =>
        intro w hSw
        (try dsimp only at hSw)
        go_simp
        try with_reducible rfl
      try simp only [Act.put, List.setIfInBounds_toArray, List.set_cons_zero, List.set_cons_succ]
      refine held_take (v := .agg #[.int .u64 (c : Int), .int .u64 (t : Int), .int .u64 (s : Int), .int .u64 (r : Int)]) 25 rfl (by kernel_rfl) (by kernel_rfl) (by kernel_rfl) (fun _ _ _ h => h) (by rfl) (fun wx hSw => by obtain ⟨c0, c1, c2, c3, -, -, -, -⟩ := hSw.1; clear hSw; go_simp) (by assumption) ?_
      try simp only [Act.put, List.setIfInBounds_toArray, List.set_cons_zero, List.set_cons_succ]
      refine held_do 24 rfl (by kernel_rfl) (by rfl) (fun K hK => ?_)
      go_wp2_with (go_at_call 11; refine (C4.out _).mono ?_; rintro e w7 ⟨rfl, hb7⟩; have K7 := Lib.hid (Below.trans hHeld.2.2 (hb7.mono hHeld.2.2.size)); clear hb7)
      refine hK.out _ _ ?_ (fun hHeld => ?_)
      · exact ⟨XC4.out.below K7.out SC4.out, XL4.out.below K7.out SL4.out, K7.out⟩
      clear hK K
      try simp only [Act.put, List.setIfInBounds_toArray, List.set_cons_zero, List.set_cons_succ]
      refine held_take (v := ?vv169) 26 rfl (by kernel_rfl) (by kernel_rfl) (by kernel_rfl) (fun _ _ _ h => h) (by rfl) ?yy169 (by assumption) ?nn169
      case yy169 =>
        intro w hSw
        (try dsimp only at hSw)
        go_simp
        try with_reducible rfl
      try simp only [Act.put, List.setIfInBounds_toArray, List.set_cons_zero, List.set_cons_succ]
      refine held_take (v := ?vv170) 27 rfl (by kernel_rfl) (by kernel_rfl) (by kernel_rfl) (fun _ _ _ h => h) (by rfl) ?yy170 (by assumption) ?nn170
      case yy170 =>
        intro w hSw
        (try dsimp only at hSw)
        go_simp
        try with_reducible rfl
      try simp only [Act.put, List.setIfInBounds_toArray, List.set_cons_zero, List.set_cons_succ]
      refine held_take (v := ?vv171) 28 rfl (by kernel_rfl) (by kernel_rfl) (by kernel_rfl) (fun _ _ _ h => h) (by rfl) ?yy171 (by assumption) ?nn171
      case yy171 =>
        intro w hSw
        (try dsimp only at hSw)
        go_simp
        try with_reducible rfl
      try simp only [Act.put, List.setIfInBounds_toArray, List.set_cons_zero, List.set_cons_succ]
      refine held_take (v := ?vv172) 29 rfl (by kernel_rfl) (by kernel_rfl) (by kernel_rfl) (fun _ _ _ h => h) (by rfl) ?yy172 (by assumption) ?nn172
      case yy172 =>
        intro w hSw
        (try dsimp only at hSw)
        go_simp
        try with_reducible rfl
      try simp only [Act.put, List.setIfInBounds_toArray, List.set_cons_zero, List.set_cons_succ]
      refine held_take (v := .int .u64 (f : Int)) 30 rfl (by kernel_rfl) (by kernel_rfl) (by kernel_rfl) (fun _ _ _ h => h) (by rfl) (fun wx hSw => by have c := hSw.2.1.c0; clear hSw; go_simp) (by assumption) ?_
      try simp only [Act.put, List.setIfInBounds_toArray, List.set_cons_zero, List.set_cons_succ]
      refine held_take (v := ?vv174) 31 rfl (by kernel_rfl) (by kernel_rfl) (by kernel_rfl) (fun _ _ _ h => h) (by rfl) ?yy174 (by assumption) ?nn174
      case yy174 =>
        intro w hSw
        (try dsimp only at hSw)
        go_simp
        try with_reducible rfl
      try simp only [Act.put, List.setIfInBounds_toArray, List.set_cons_zero, List.set_cons_succ]
      refine held_take (v := .int .u64 (f : Int)) 32 rfl (by kernel_rfl) (by kernel_rfl) (by kernel_rfl) (fun _ _ _ h => h) (by rfl) (fun wx hSw => by have c := hSw.2.1.c1; clear hSw; go_simp) (by assumption) ?_
      try simp only [Act.put, List.setIfInBounds_toArray, List.set_cons_zero, List.set_cons_succ]
      refine held_take (v := ?vv176) 33 rfl (by kernel_rfl) (by kernel_rfl) (by kernel_rfl) (fun _ _ _ h => h) (by rfl) ?yy176 (by assumption) ?nn176
      case yy176 =>
        intro w hSw
        (try dsimp only at hSw)
        go_simp
        try with_reducible rfl
      try simp only [Act.put, List.setIfInBounds_toArray, List.set_cons_zero, List.set_cons_succ]
      refine held_take (v := ?vv177) 34 rfl (by kernel_rfl) (by kernel_rfl) (by kernel_rfl) (fun _ _ _ h => h) (by rfl) ?yy177 (by assumption) ?nn177
      case yy177 =>
        intro w hSw
        (try dsimp only at hSw)
        go_simp
        try with_reducible rfl
      try simp only [Act.put, List.setIfInBounds_toArray, List.set_cons_zero, List.set_cons_succ]
      refine held_take (v := ?vv178) 35 rfl (by kernel_rfl) (by kernel_rfl) (by kernel_rfl) (fun _ _ _ h => h) (by rfl) ?yy178 (by assumption) ?nn178
      case yy178 =>
        intro w hSw
        (try dsimp only at hSw)
        go_simp
        try with_reducible rfl
      try simp only [Act.put, List.setIfInBounds_toArray, List.set_cons_zero, List.set_cons_succ]
      refine held_take (v := ?vv179) 36 rfl (by kernel_rfl) (by kernel_rfl) (by kernel_rfl) (fun _ _ _ h => h) (by rfl) ?yy179 (by assumption) ?nn179
      case yy179 =>
        intro w hSw
        (try dsimp only at hSw)
        go_simp
        try with_reducible rfl
      try simp only [Act.put, List.setIfInBounds_toArray, List.set_cons_zero, List.set_cons_succ]
      refine held_take (v := .int .u64 0) 37 rfl (by kernel_rfl) (by kernel_rfl) (by kernel_rfl) (fun _ _ _ h => h) (by rfl) (fun wx hSw => by have c := hSw.2.1.c3; clear hSw; go_simp) (by assumption) ?_
      try simp only [Act.put, List.setIfInBounds_toArray, List.set_cons_zero, List.set_cons_succ]
      refine held_take (v := ?vv181) 38 rfl (by kernel_rfl) (by kernel_rfl) (by kernel_rfl) (fun _ _ _ h => h) (by rfl) ?yy181 (by assumption) ?nn181
      case yy181 =>
        intro w hSw
        (try dsimp only at hSw)
        go_simp
        try with_reducible rfl
      try simp only [Act.put, List.setIfInBounds_toArray, List.set_cons_zero, List.set_cons_succ]
      refine held_take (v := ?vv182) 39 rfl (by kernel_rfl) (by kernel_rfl) (by kernel_rfl) (fun _ _ _ h => h) (by rfl) ?yy182 (by assumption) ?nn182
      case yy182 =>
        intro w hSw
        (try dsimp only at hSw)
        go_simp
        try with_reducible rfl
      try simp only [Act.put, List.setIfInBounds_toArray, List.set_cons_zero, List.set_cons_succ]
      refine held_take (v := ?vv183) 40 rfl (by kernel_rfl) (by kernel_rfl) (by kernel_rfl) (fun _ _ _ h => h) (by rfl) ?yy183 (by assumption) ?nn183
      case yy183 =>
        intro w hSw
        (try dsimp only at hSw)
        go_simp
        try with_reducible rfl
      try simp only [Act.put, List.setIfInBounds_toArray, List.set_cons_zero, List.set_cons_succ]
      refine wpAnyH_done (by kernel_rfl) ?_ _
      clear hHeld
      have B7 := Lib.hid (below_trans' B4.out K7.out)
      have XC7 := Lib.hid (XC4.out.below K7.out SC4.out)
      have SC7 := Lib.hid (Nat.lt_of_lt_of_le SC4.out K7.out.size)
      have XL7 := Lib.hid (XL4.out.below K7.out SL4.out)
      have SL7 := Lib.hid (Nat.lt_of_lt_of_le SL4.out K7.out.size)
      clear B4 XC4 SC4 XL4 SL4
      go_wp2_with fail
      go_ret
      exact ⟨rfl, B7.out⟩

set_option maxRecDepth 100000 in
theorem lifted (os : Os) (started : os.Started) (H : Type) (enc : TypeId × Value → H) :
    ReturnsInHanded {} Try.checked os 6 .any (Rows.renoOnceSpec.pre6 enc Try.prog Try.f6 Rows.renoOnceRow.domain false) (Rows.renoOnceSpec.post enc Try.prog Try.f6 false true false false) := by
  refine returnsInHanded_of_change (C := Try.checked) own started (by kernel_rfl) Try.func6
    (ChangeSpec.witness6 (enc := enc) (C := Try.checked) false ⟨#[], #[.agg #[.int .u64 0, .int .u64 0, .int .u64 0, .int .u64 0], .int .u32 0, .int .u32 0, .int .u32 0, .int .u64 0], []⟩ 8 (by kernel_rfl) (by kernel_rfl) (by kernel_rfl) (by kernel_rfl)) ?_
  intro W base args ds gs before hval0 hW hcnd _
  have hval : ∀ (j : Nat) t v, Try.f6.params[j]? = some t → args[j]? = some v → Value.okWide Try.prog W .any base t v := hval0
  have hW' := hW
  obtain ⟨p, q, hA0, hV, rfl, hfz, hnd⟩ := hW
  have hA : DataW.TrodAll enc Try.prog W 0 (fun _ => true) true Try.f6.params.toList args.toList ds p := hA0
  obtain ⟨rfl, rfl⟩ := trodVars_none hV
  simp only [List.append_nil] at hW'
  have hlow : ∀ x ∈ p, x.block < W.heap.size := fun x hx => hW'.lt x hx
  have hA2 := hA
  rw [Try.params6] at hval hA2
  obtain ⟨v0, vs0, d0, ds0, p0, q0, hargs, rfl, rfl, h0, r0⟩ := trodAll_cons hA2
  obtain ⟨v1, vs1, d1, ds1, p1, q1, rfl, rfl, rfl, h1, r1⟩ := trodAll_cons r0
  obtain ⟨v2, vs2, d2, ds2, p2, q2, rfl, rfl, rfl, h2, r2⟩ := trodAll_cons r1
  obtain ⟨v3, vs3, d3, ds3, p3, q3, rfl, rfl, rfl, h3, r3⟩ := trodAll_cons r2
  obtain ⟨v4, vs4, d4, ds4, p4, q4, rfl, rfl, rfl, h4, r4⟩ := trodAll_cons r3
  obtain ⟨rfl, rfl, rfl⟩ := trodAll_nil r4
  obtain rfl : args = #[v0, v1, v2, v3, v4] := by cases args; simp_all
  obtain ⟨x0_0, x0_1, x0_2, x0_3, rfl, b0_0, b0_1, b0_2, b0_3⟩ := open_reno (hval 0 25 v0 rfl rfl) h0 (fun x hx => hlow x (by simp [hx]))
  obtain ⟨n1, rfl, hn1⟩ := open_u32 Try.underlying36 (hval 1 36 v1 rfl rfl) h1
  obtain ⟨n2, rfl, hn2⟩ := open_u32 Try.underlying36 (hval 2 36 v2 rfl rfl) h2
  obtain ⟨n3, rfl, hn3⟩ := open_u32 Try.underlying36 (hval 3 36 v3 rfl rfl) h3
  obtain ⟨n4, rfl, hn4⟩ := open_u64 Try.underlying23 (hval 4 23 v4 rfl rfl) h4
  refine (walk x0_0 x0_1 x0_2 x0_3 n1 n2 n3 n4 b0_0 b0_1 b0_2 b0_3 hn1 hn2 hn3 hn4 W).mono fun e W' ⟨he, hg⟩ => ?_
  subst he
  exact ⟨_, rfl, law_true laid_out (by kernel_rfl) rfl Try.underlying4 (by kernel_rfl) hW' hA rfl rfl rfl hg⟩

theorem over : Rows.renoOnceRow.holds Try.pinned (OpenSpec.ofChange Rows.renoOnceSpec) :=
  OpenClaim.holds_of_wide 6 Try.f6 rfl rfl rfl rfl rfl rfl rfl ⟨rfl, rfl, rfl, rfl, rfl⟩ rfl rfl rfl rfl rfl (by kernel_rfl) Try.func6 (by kernel_rfl)
    (of_decide_eq_true (by kernel_rfl)) (by unfold Func.isWrapper; first | (rw [if_pos (by decide +kernel)]; kernel_rfl) | (rw [if_neg (by decide +kernel)]; exact ⟨rfl, rfl⟩))
    (fun os started H enc _ => lifted os started H enc)

/-- The statement. -/
theorem proved : Rows.RenoOnceSaid := over
end Go.Proofs.Ytfifhllckhdkfaa.renoOnce
