/-
  HystartFew: while a round has fewer than eight samples, and does not end, nothing but its least time and their count changes; at most seven samples. No condition.
-/
import Derived.Test.YtaiephdacioedaaHyW
import Derived.Test.YtaiephdacioedaaOpen
import Derived.Test.YtaiephdacioedaaOpW
import Derived.Test.YtaiephdacioedaaByt
import Derived.Test.YtaiephdacioedaaRgn
import Derived.Deep.CutBlock
import Derived.Deep.DeepCutAuto
namespace Wig
/-- The least of a number and a list's first k. -/
def hmins (low : Nat) (xs : List Nat) : Nat → Nat
  | 0 => low
  | k + 1 => min (hmins low xs k) (xs[k]?.getD 0)
theorem hmins_le (low : Nat) (xs : List Nat) : ∀ k, hmins low xs k ≤ low
  | 0 => Nat.le_refl _
  | k + 1 => Nat.le_trans (Nat.min_le_left _ _) (hmins_le low xs k)
theorem hmins_next {low k p : Nat} {xs : List Nat} (hp : xs[k]? = some p) : hmins low xs (k + 1) = min (hmins low xs k) p := by
  show min _ (xs[k]?.getD 0) = _
  rw [hp]
  rfl
end Wig
namespace Go.Proofs.Ytaiephdacioedaa.hystartFew
open Go.ChangeShapes Go.WideShapes Go.ChangeAt Go.RowKit Go.Deep
set_option linter.unusedVariables false

/-- At a round's head of the first loop: what lies in the boxes. -/
def FeRel (m : Nat) (xs : List Nat) (ph : Int) (en lm nm ba ro pC pT : Nat) (w : World) (i : Value) (wr : World) : Prop :=
  ∃ k lo : Nat, k ≤ m ∧ k ≤ 7 ∧ i = .int .i64 (k : Int) ∧ lo = Wig.hmins nm xs k ∧ BxSl pC ph en lm nm 0 ba ro wr ∧ BxSl pT ph en lm lo k ba ro wr ∧ pC < wr.heap.size ∧ pT < wr.heap.size ∧ Below w.heap.size w wr
/-- At a round's head of the second loop. -/
def FfRel (m : Nat) (xs : List Nat) (nm : Nat) (wc : World) (l i : Value) (wr : World) : Prop :=
  ∃ k lo : Nat, k ≤ m ∧ k ≤ 7 ∧ i = .int .i64 (k : Int) ∧ l = .int .u64 (lo : Int) ∧ lo = Wig.hmins nm xs k ∧ wr = wc

set_option maxRecDepth 20000 in
set_option maxHeartbeats 4000000 in
theorem walk (ph : Int) (en lm nm ct ba ro : Nat) (n : Nat) (A : Option Addr) (cc : Nat) (xs : List Nat) (hph : -9223372036854775808 ≤ ph) (hph2 : ph ≤ 9223372036854775807) (hen : en < 18446744073709551616) (hlm : lm < 18446744073709551616) (hnm : nm < 18446744073709551616) (hct : ct < 18446744073709551616) (hba : ba < 18446744073709551616) (hro : ro < 18446744073709551616) (hn : n < 18446744073709551616) (hx : ∀ x ∈ xs, x < 18446744073709551616) (hl : xs.length ≤ cc) (hm : cc ≤ maxLen) (w : World) (hr : RdN .u64 w w.heap.size A xs) :
    Calls Try.prog 6 #[aggSl ph en lm nm ct ba ro, .int .u64 (n : Int), .slice A xs.length cc] w fun e w' => e = .returned (.bool true) ∧ Below w.heap.size w w' := by
  obtain ⟨m, hmx⟩ : ∃ m, m = xs.length := ⟨_, rfl⟩
  rw [← hmx]
  rw [← hmx] at hl
  have C0 := Lib.hid (fun w => awake_any w)
  have HX := Lib.hid (And.intro hx (And.intro hmx (And.intro hl hm)))
  have HD := Lib.hid hr
  have HS := Lib.hid (And.intro hph (And.intro hph2 (And.intro hen (And.intro hlm (And.intro hnm (And.intro hba (And.intro hro hn)))))))
  clear hx hl hm hr hmx hph hph2 hen hlm hnm hct hba hro hn
  by_cases hz : en = 0
  · have dz : ((en : Int) == 0) = true := by simp; omega
    by_cases p0 : ph = 0
    · have d0 : (ph != 0) = false := by simpa using p0
      clear p0 hz
      have B0 := Lib.hid (Below.refl w.heap.size w)
      go_enter Try.func6, Try.ntmps6
      go_upto_region 1 with fail
      obtain ⟨w1, hw⟩ : ∃ wx, wx = w.alloc (.cells #[.int .i64 ph, .int .u64 (en : Int), .int .u64 (lm : Int), .int .u64 (nm : Int), .int .u64 (ct : Int), .int .u64 (ba : Int), .int .u64 (ro : Int)] 25) := ⟨_, rfl⟩
      rw [← hw]
      obtain ⟨pC, hp⟩ : ∃ px, px = w.heap.size := ⟨_, rfl⟩
      rw [← hp]
      have hb : Below w.heap.size w w1 := by rw [hw]; exact (Below.refl _ _).alloc (Nat.le_refl _) _
      have hx : BxSl pC ph en lm nm ct ba ro w1 := by rw [hp, hw]; exact BxSl.new _ ph en lm nm ct ba ro
      have hs : pC < w1.heap.size := by rw [hp, hw]; simp
      have GC := Lib.hid (show w.heap.size ≤ pC by rw [hp]; exact B0.out.size)
      have B1 := Lib.hid (below_trans' B0.out hb)
      clear hb B0
      have XC1 := Lib.hid hx
      have SC1 := Lib.hid hs
      clear hx hs hw hp
      go_wp2_with fail
      refine (C0.out _).mono ?_
      rintro e w2 ⟨rfl, hb⟩
      have B2 := Lib.hid (below_trans' B1.out hb)
      have XC2 := Lib.hid (XC1.out.below hb SC1.out)
      have SC2 := Lib.hid (Nat.lt_of_lt_of_le SC1.out hb.size)
      clear hb B1 XC1 SC1
      obtain ⟨c0, c1, c2, c3, c4, c5, c6, -, -, -, -, -, -, -⟩ := XC2.out
      go_wp2_with fail
      go_ret
      exact ⟨rfl, B2.out⟩
    · by_cases p1 : ph = 1
      · have d0 : (ph != 0) = true := by simpa using p0
        have d1 : (ph != 1) = false := by simpa using p1
        clear p0 p1 hz
        have B0 := Lib.hid (Below.refl w.heap.size w)
        go_enter Try.func6, Try.ntmps6
        go_upto_region 1 with fail
        obtain ⟨w1, hw⟩ : ∃ wx, wx = w.alloc (.cells #[.int .i64 ph, .int .u64 (en : Int), .int .u64 (lm : Int), .int .u64 (nm : Int), .int .u64 (ct : Int), .int .u64 (ba : Int), .int .u64 (ro : Int)] 25) := ⟨_, rfl⟩
        rw [← hw]
        obtain ⟨pC, hp⟩ : ∃ px, px = w.heap.size := ⟨_, rfl⟩
        rw [← hp]
        have hb : Below w.heap.size w w1 := by rw [hw]; exact (Below.refl _ _).alloc (Nat.le_refl _) _
        have hx : BxSl pC ph en lm nm ct ba ro w1 := by rw [hp, hw]; exact BxSl.new _ ph en lm nm ct ba ro
        have hs : pC < w1.heap.size := by rw [hp, hw]; simp
        have GC := Lib.hid (show w.heap.size ≤ pC by rw [hp]; exact B0.out.size)
        have B1 := Lib.hid (below_trans' B0.out hb)
        clear hb B0
        have XC1 := Lib.hid hx
        have SC1 := Lib.hid hs
        clear hx hs hw hp
        go_wp2_with fail
        refine (C0.out _).mono ?_
        rintro e w2 ⟨rfl, hb⟩
        have B2 := Lib.hid (below_trans' B1.out hb)
        have XC2 := Lib.hid (XC1.out.below hb SC1.out)
        have SC2 := Lib.hid (Nat.lt_of_lt_of_le SC1.out hb.size)
        clear hb B1 XC1 SC1
        obtain ⟨c0, c1, c2, c3, c4, c5, c6, -, -, -, -, -, -, -⟩ := XC2.out
        go_wp2_with fail
        go_ret
        exact ⟨rfl, B2.out⟩
      · have d0 : (ph != 0) = true := by simpa using p0
        have d1 : (ph != 1) = true := by simpa using p1
        clear p0 p1 hz
        have B0 := Lib.hid (Below.refl w.heap.size w)
        go_enter Try.func6, Try.ntmps6
        go_upto_region 1 with fail
        obtain ⟨w1, hw⟩ : ∃ wx, wx = w.alloc (.cells #[.int .i64 ph, .int .u64 (en : Int), .int .u64 (lm : Int), .int .u64 (nm : Int), .int .u64 (ct : Int), .int .u64 (ba : Int), .int .u64 (ro : Int)] 25) := ⟨_, rfl⟩
        rw [← hw]
        obtain ⟨pC, hp⟩ : ∃ px, px = w.heap.size := ⟨_, rfl⟩
        rw [← hp]
        have hb : Below w.heap.size w w1 := by rw [hw]; exact (Below.refl _ _).alloc (Nat.le_refl _) _
        have hx : BxSl pC ph en lm nm ct ba ro w1 := by rw [hp, hw]; exact BxSl.new _ ph en lm nm ct ba ro
        have hs : pC < w1.heap.size := by rw [hp, hw]; simp
        have GC := Lib.hid (show w.heap.size ≤ pC by rw [hp]; exact B0.out.size)
        have B1 := Lib.hid (below_trans' B0.out hb)
        clear hb B0
        have XC1 := Lib.hid hx
        have SC1 := Lib.hid hs
        clear hx hs hw hp
        go_wp2_with fail
        refine (C0.out _).mono ?_
        rintro e w2 ⟨rfl, hb⟩
        have B2 := Lib.hid (below_trans' B1.out hb)
        have XC2 := Lib.hid (XC1.out.below hb SC1.out)
        have SC2 := Lib.hid (Nat.lt_of_lt_of_le SC1.out hb.size)
        clear hb B1 XC1 SC1
        obtain ⟨c0, c1, c2, c3, c4, c5, c6, -, -, -, -, -, -, -⟩ := XC2.out
        go_wp2_with fail
        go_ret
        exact ⟨rfl, B2.out⟩
  · have dz : ((en : Int) == 0) = false := by simp; omega
    by_cases p0 : ph = 0
    · have d0 : (ph != 0) = false := by simpa using p0
      have HP := Lib.hid (show (ph = 0 ∨ ph = 1) ∧ en ≠ 0 from ⟨.inl p0, hz⟩)
      obtain ⟨ez, hez⟩ : ∃ ez, ez = en - 1 := ⟨_, rfl⟩
      have q5 : IntKind.u64.wrap ((en : Int) - 1) = (ez : Int) := by have := HS.out; rw [IntKind.wrap_u64]; omega
      have HZ := Lib.hid hez
      clear hz hez p0
      have B0 := Lib.hid (Below.refl w.heap.size w)
      go_enter Try.func6, Try.ntmps6
      go_upto_region 1 with fail
      obtain ⟨w1, hw⟩ : ∃ wx, wx = w.alloc (.cells #[.int .i64 ph, .int .u64 (en : Int), .int .u64 (lm : Int), .int .u64 (nm : Int), .int .u64 (ct : Int), .int .u64 (ba : Int), .int .u64 (ro : Int)] 25) := ⟨_, rfl⟩
      rw [← hw]
      obtain ⟨pC, hp⟩ : ∃ px, px = w.heap.size := ⟨_, rfl⟩
      rw [← hp]
      have hb : Below w.heap.size w w1 := by rw [hw]; exact (Below.refl _ _).alloc (Nat.le_refl _) _
      have hx : BxSl pC ph en lm nm ct ba ro w1 := by rw [hp, hw]; exact BxSl.new _ ph en lm nm ct ba ro
      have hs : pC < w1.heap.size := by rw [hp, hw]; simp
      have GC := Lib.hid (show w.heap.size ≤ pC by rw [hp]; exact B0.out.size)
      have B1 := Lib.hid (below_trans' B0.out hb)
      clear hb B0
      have XC1 := Lib.hid hx
      have SC1 := Lib.hid hs
      clear hx hs hw hp
      go_wp2_with fail
      refine (C0.out _).mono ?_
      rintro e w2 ⟨rfl, hb⟩
      have B2 := Lib.hid (below_trans' B1.out hb)
      have XC2 := Lib.hid (XC1.out.below hb SC1.out)
      have SC2 := Lib.hid (Nat.lt_of_lt_of_le SC1.out hb.size)
      clear hb B1 XC1 SC1
      obtain ⟨c0, c1, c2, c3, c4, c5, c6, cf0, cf1, cf2, cf3, cf4, cf5, cf6⟩ := XC2.out
      go_upto_region 5 with fail
      clear c0 c1 c2 c3 c4 c5 c6 cf0 cf1 cf2 cf3 cf4 cf5 cf6
      obtain ⟨w3, hw⟩ : ∃ wx, wx = w2.setCell ⟨pC, 4, none⟩ (.int .u64 0) := ⟨_, rfl⟩
      rw [← hw]
      have XC3 := Lib.hid (show BxSl pC ph en lm nm 0 ba ro w3 by rw [hw]; exact XC2.out.set4)
      have B3 := Lib.hid (show Below w.heap.size w w3 by rw [hw]; exact Below.setCell B2.out GC.out _)
      have SC3 := Lib.hid (show pC < w3.heap.size by rw [hw]; have := SC2.out; simpa using this)
      clear hw B2 XC2 SC2
      obtain ⟨c0, c1, c2, c3, c4, c5, c6, -, -, -, -, -, -, -⟩ := XC3.out
      go_upto_region 6 with fail
      obtain ⟨w4, hw⟩ : ∃ wx, wx = w3.alloc (.cells #[.int .i64 ph, .int .u64 (en : Int), .int .u64 (lm : Int), .int .u64 (nm : Int), .int .u64 0, .int .u64 (ba : Int), .int .u64 (ro : Int)] 25) := ⟨_, rfl⟩
      rw [← hw]
      obtain ⟨pT, hp⟩ : ∃ px, px = w3.heap.size := ⟨_, rfl⟩
      rw [← hp]
      have hb : Below w3.heap.size w3 w4 := by rw [hw]; exact (Below.refl _ _).alloc (Nat.le_refl _) _
      have hx : BxSl pT ph en lm nm 0 ba ro w4 := by rw [hp, hw]; exact BxSl.new _ ph en lm nm 0 ba ro
      have hs : pT < w4.heap.size := by rw [hp, hw]; simp
      have GT := Lib.hid (show w.heap.size ≤ pT by rw [hp]; exact B3.out.size)
      have OCT := Lib.hid (show pC < pT by rw [hp]; exact SC3.out)
      have B4 := Lib.hid (below_trans' B3.out hb)
      have XC4 := Lib.hid (XC3.out.below hb SC3.out)
      have SC4 := Lib.hid (Nat.lt_of_lt_of_le SC3.out hb.size)
      clear c0 c1 c2 c3 c4 c5 c6
      clear hb B3 XC3 SC3
      have XT4 := Lib.hid hx
      have ST4 := Lib.hid hs
      clear hx hs hw hp
      clear d0 dz
      have ST := Lib.hid (show FeRel m xs ph en lm nm ba ro pC pT w (.int .i64 0) w4 from ⟨0, nm, Nat.zero_le _, Nat.zero_le _, rfl, rfl, XC4.out, XT4.out, SC4.out, ST4.out, B4.out⟩)
      go_wp2_with fail
      go_loopw [9] (fun i wr => FeRel m xs ph en lm nm ba ro pC pT w i wr) (fun i _ => 7 - (intOf i).toNat)
      case atStart => exact ST.out
      case round =>
        obtain ⟨k, lo, hk, hk2, rfl, hlo, hbc, hbt, hltc, hltt, hbel⟩ := hrel
        have XC20 := Lib.hid hbc
        have XT20 := Lib.hid hbt
        have SC20 := Lib.hid hltc
        have ST20 := Lib.hid hltt
        have B20 := Lib.hid hbel
        clear XC4 XT4 SC4 ST4 B4 ST hbc hbt hltc hltt hbel
        by_cases hkm : k < m
        · by_cases hk5 : k < 7
          · have t1 : decide (k < m) = true := decide_eq_true hkm
            have t2 : decide ((k : Int) < 7) = true := decide_eq_true (by omega)
            obtain ⟨p, hp⟩ : ∃ p, xs[k]? = some p := ⟨_, List.getElem?_eq_getElem (by have := HX.out.2.1; omega)⟩
            have pl : p < 18446744073709551616 := HX.out.1 p (List.mem_of_getElem? hp)
            obtain ⟨bb, off, rfl, hbb, hc⟩ := HD.out.at_ hp
            have HC := Lib.hid hc
            have HBB := Lib.hid (show (⟨bb, off + k, none⟩ : Addr).block < w.heap.size from hbb)
            obtain ⟨l1, hl1⟩ : ∃ l1, l1 = min lo p := ⟨_, rfl⟩
            obtain ⟨k1, hk1⟩ : ∃ k1, k1 = k + 1 := ⟨_, rfl⟩
            have hS := HS.out
            have lo1 : lo < 18446744073709551616 := by have := Wig.hmins_le nm xs k; omega
            have hsam : Wig.hsample ⟨ph, en, lm, lo, k, ba, ro⟩ ez n p = ⟨ph, en, lm, l1, k1, ba, ro⟩ := by rw [HZ.out, hl1, hk1]; exact Wig.hfew_sample (s := ⟨ph, en, lm, lo, k, ba, ro⟩) HP.out.1 HP.out.2 hk5
            have C2 := Lib.hid (fun w => sample_any ph en lm lo k ba ro ez n p ph en lm l1 k1 ba ro w ⟨hS.1, hS.2.1, hS.2.2.1, hS.2.2.2.1, lo1, (by show k < _; omega), hS.2.2.2.2.2.1, hS.2.2.2.2.2.2.1⟩ (by have := HZ.out; omega) hS.2.2.2.2.2.2.2 pl hsam)
            have i0 : (0 : Int) ≤ (k : Int) := by omega
            have i1 : (k : Int) < (m : Int) := by omega
            have q6 : IntKind.i64.wrap ((k : Int) + 1) = (k1 : Int) := by rw [IntKind.wrap_i64] <;> omega
            have HR := Lib.hid (show k1 ≤ m ∧ k1 ≤ 7 ∧ l1 = Wig.hmins nm xs k1 ∧ 7 - k1 < 7 - k from ⟨by omega, by omega, by rw [hl1, hlo, hk1]; exact (Wig.hmins_next hp).symm, by omega⟩)
            clear hk hk2 hlo hkm hk5 hp pl hl1 hk1 hS lo1 hsam hc hbb
            go_upto_region 9 with fail
            obtain ⟨t0, t1, t2, t3, t4, t5, t6, -, -, -, -, -, -, -⟩ := XT20.out
            refine wp_region_held_drew (S := fun wx => wx.cell? ⟨bb, off + k, none⟩ = some (.int .u64 (p : Int)) ∧ BxSl pC ph en lm nm 0 ba ro wx) (by kernel_rfl) ?_ (fun hHeld => ?_)
            · exact ⟨(B20.out.drew.cell HBB.out).trans HC.out, XC20.out.drew⟩
            refine held_take (v := ?vv101) 1 rfl (by kernel_rfl) (by kernel_rfl) (by kernel_rfl) (fun _ _ _ h => h) (by rfl) ?yy101 (by assumption) ?nn101
            case yy101 =>
              intro w hSw
              (try dsimp only at hSw)
              go_simp
              try with_reducible rfl
            try simp only [Act.put, List.setIfInBounds_toArray, List.set_cons_zero, List.set_cons_succ]
            refine held_take (v := .int .u64 (en : Int)) 2 rfl (by kernel_rfl) (by kernel_rfl) (by kernel_rfl) (fun _ _ _ h => h) (by rfl) (fun wx hSw => by have c := hSw.2.c1; clear hSw; go_simp) (by assumption) ?_
            try simp only [Act.put, List.setIfInBounds_toArray, List.set_cons_zero, List.set_cons_succ]
            refine held_take (v := ?vv103) 3 rfl (by kernel_rfl) (by kernel_rfl) (by kernel_rfl) (fun _ _ _ h => h) (by rfl) ?yy103 (by assumption) ?nn103
            case yy103 =>
              intro w hSw
              (try dsimp only at hSw)
              go_simp
              try with_reducible rfl
            try simp only [Act.put, List.setIfInBounds_toArray, List.set_cons_zero, List.set_cons_succ]
            refine held_take (v := ?vv104) 4 rfl (by kernel_rfl) (by kernel_rfl) (by kernel_rfl) (fun _ _ _ h => h) (by rfl) ?yy104 (by assumption) ?nn104
            case yy104 =>
              intro w hSw
              (try dsimp only at hSw)
              go_simp
              try with_reducible rfl
            try simp only [Act.put, List.setIfInBounds_toArray, List.set_cons_zero, List.set_cons_succ]
            refine held_take (v := ?vv105) 5 rfl (by kernel_rfl) (by kernel_rfl) (by kernel_rfl) (fun _ _ _ h => h) (by rfl) ?yy105 (by assumption) ?nn105
            case yy105 =>
              intro w hSw
              (try dsimp only at hSw)
              go_simp
              try with_reducible rfl
            try simp only [Act.put, List.setIfInBounds_toArray, List.set_cons_zero, List.set_cons_succ]
            refine held_take (v := ?vv106) 6 rfl (by kernel_rfl) (by kernel_rfl) (by kernel_rfl) (fun _ _ _ h => h) (by rfl) ?yy106 (by assumption) ?nn106
            case yy106 =>
              intro w hSw
              (try dsimp only at hSw)
              go_simp
              try with_reducible rfl
            try simp only [Act.put, List.setIfInBounds_toArray, List.set_cons_zero, List.set_cons_succ]
            refine held_take (v := ?vv107) 7 rfl (by kernel_rfl) (by kernel_rfl) (by kernel_rfl) (fun _ _ _ h => h) (by rfl) ?yy107 (by assumption) ?nn107
            case yy107 =>
              intro w hSw
              (try dsimp only at hSw)
              go_simp
              try with_reducible rfl
            try simp only [Act.put, List.setIfInBounds_toArray, List.set_cons_zero, List.set_cons_succ]
            refine held_take (v := .int .u64 (p : Int)) 8 rfl (by kernel_rfl) (by kernel_rfl) (by kernel_rfl) (fun _ _ _ h => h) (by rfl) (fun wx hSw => by clear HC; have a0 := hSw.1; clear hSw; (try dsimp only at a0); go_simp) (by assumption) ?_
            try simp only [Act.put, List.setIfInBounds_toArray, List.set_cons_zero, List.set_cons_succ]
            refine held_do 0 rfl (by kernel_rfl) (by rfl) (fun K hK => ?_)
            go_wp2_with fail
            refine hK.out _ _ ?_ (fun hHeld => ?_)
            · exact ⟨(B20.out.drew.cell HBB.out).trans HC.out, XC20.out.drew⟩
            clear hK K
            try simp only [Act.put, List.setIfInBounds_toArray, List.set_cons_zero, List.set_cons_succ]
            refine held_do 9 rfl (by kernel_rfl) (by rfl) (fun K hK => ?_)
            go_wp2_with (go_at_call 10; refine (C2.out _).mono ?_; rintro e w21 ⟨rfl, hb21⟩; have HB := Lib.hid hb21; clear hb21)
            refine hK.out _ _ ?_ (fun hHeld => ?_)
            · exact ⟨((below_trans' B20.out.drew HB.out).cell HBB.out).trans HC.out, XC20.out.drew.below HB.out SC20.out⟩
            clear hK K
            try simp only [Act.put, List.setIfInBounds_toArray, List.set_cons_zero, List.set_cons_succ]
            have B21 := Lib.hid (below_trans' B20.out.drew HB.out)
            have XC21 := Lib.hid (XC20.out.drew.below HB.out SC20.out)
            have SC21 := Lib.hid (Nat.lt_of_lt_of_le SC20.out HB.out.size)
            have XT21 := Lib.hid (XT20.out.drew.below HB.out ST20.out)
            have ST21 := Lib.hid (Nat.lt_of_lt_of_le ST20.out HB.out.size)
            clear t0 t1 t2 t3 t4 t5 t6
            clear HB B20 XC20 SC20 XT20 ST20
            obtain ⟨t0, t1, t2, t3, t4, t5, t6, tf0, tf1, tf2, tf3, tf4, tf5, tf6⟩ := XT21.out
            refine held_do 10 rfl (by kernel_rfl) (by rfl) (fun K hK => ?_)
            go_wp2_with fail
            refine hK.out _ _ ?_ (fun hHeld => ?_)
            · exact ⟨((B21.out.trans (putSl_below (p := pT) GT.out)).cell HBB.out).trans HC.out, (((((((XC21.out.other rfl (Nat.ne_of_gt OCT.out)).other rfl (Nat.ne_of_gt OCT.out)).other rfl (Nat.ne_of_gt OCT.out)).other rfl (Nat.ne_of_gt OCT.out)).other rfl (Nat.ne_of_gt OCT.out)).other rfl (Nat.ne_of_gt OCT.out)).other rfl (Nat.ne_of_gt OCT.out))⟩
            clear hK K
            try simp only [Act.put, List.setIfInBounds_toArray, List.set_cons_zero, List.set_cons_succ]
            refine wpAnyH_done (by kernel_rfl) ?_ _
            clear hHeld
            obtain ⟨w22, hw⟩ : ∃ wx, wx = putSl pT ph en lm l1 k1 ba ro w21 := ⟨_, rfl⟩
            have XT22 := Lib.hid (show BxSl pT ph en lm l1 k1 ba ro w22 by rw [hw]; exact XT21.out.put)
            have B22 := Lib.hid (show Below w.heap.size w w22 by rw [hw]; exact B21.out.trans (putSl_below GT.out))
            have hz : w21.heap.size ≤ w22.heap.size := by rw [hw]; exact (putSl_below (B := 0) (Nat.zero_le _)).size
            have ST22 := Lib.hid (Nat.lt_of_lt_of_le ST21.out hz)
            have XC22 := Lib.hid (show BxSl pC ph en lm nm 0 ba ro w22 by rw [hw]; unfold putSl; exact (((((((XC21.out.other rfl (Nat.ne_of_gt OCT.out)).other rfl (Nat.ne_of_gt OCT.out)).other rfl (Nat.ne_of_gt OCT.out)).other rfl (Nat.ne_of_gt OCT.out)).other rfl (Nat.ne_of_gt OCT.out)).other rfl (Nat.ne_of_gt OCT.out)).other rfl (Nat.ne_of_gt OCT.out)))
            have SC22 := Lib.hid (Nat.lt_of_lt_of_le SC21.out hz)
            rw [show ((((((w21.setCell ⟨pT, 0, none⟩ (.int .i64 ph)).setCell ⟨pT, 1, none⟩ (.int .u64 (en : Int))).setCell ⟨pT, 2, none⟩ (.int .u64 (lm : Int))).setCell ⟨pT, 3, none⟩ (.int .u64 (l1 : Int))).setCell ⟨pT, 4, none⟩ (.int .u64 (k1 : Int))).setCell ⟨pT, 5, none⟩ (.int .u64 (ba : Int))).setCell ⟨pT, 6, none⟩ (.int .u64 (ro : Int)) = w22 from hw.symm]
            clear t0 t1 t2 t3 t4 t5 t6 tf0 tf1 tf2 tf3 tf4 tf5 tf6
            clear hw hz B21 XT21 ST21 XC21 SC21
            have RZ := Lib.hid (show FeRel m xs ph en lm nm ba ro pC pT w (.int .i64 (k1 : Int)) w22 from ⟨k1, l1, HR.out.1, HR.out.2.1, rfl, HR.out.2.2.1, XC22.out, XT22.out, SC22.out, ST22.out, B22.out⟩)
            clear q5
            go_wp2_with fail
            go_roundw
            case rel => exact RZ.out
            case measure => have := HR.out; simp [intOf]; omega
          · have t1 : decide (k < m) = true := decide_eq_true hkm
            have t2 : decide ((k : Int) < 7) = false := decide_eq_false (by omega)
            have HK := Lib.hid (show k ≤ m ∧ k ≤ 7 ∧ (m ≤ k ∨ 7 ≤ k) ∧ lo = Wig.hmins nm xs k from ⟨hk, hk2, .inr (by omega), hlo⟩)
            clear hk hk2 hlo hkm q5 hk5
            have SU := Lib.hid (show FfRel m xs nm wr (.int .u64 (nm : Int)) (.int .i64 0) wr from ⟨0, nm, Nat.zero_le _, Nat.zero_le _, rfl, rfl, rfl, rfl⟩)
            obtain ⟨c0, c1, c2, c3, c4, c5, c6, -, -, -, -, -, -, -⟩ := XC20.out
            go_wp2_with fail
            go_loopw [10, 11] (fun l i wx => FfRel m xs nm wr l i wx) (fun _ i _ => 7 - (intOf i).toNat)
            case atStart => exact SU.out
            case round =>
              obtain ⟨j, l0, hj, hj2, rfl, rfl, hl0, rfl⟩ := hrel
              clear SU t1 t2
              by_cases hjm : j < m
              · by_cases hj5 : j < 7
                · have t1 : decide (j < m) = true := decide_eq_true hjm
                  have t2 : decide ((j : Int) < 7) = true := decide_eq_true (by omega)
                  obtain ⟨p, hp⟩ : ∃ p, xs[j]? = some p := ⟨_, List.getElem?_eq_getElem (by have := HX.out.2.1; omega)⟩
                  obtain ⟨bb, off, rfl, hbb, hc⟩ := HD.out.at_ hp
                  have c00 := (B20.out.cell (show (⟨bb, off + j, none⟩ : Addr).block < w.heap.size from hbb)).trans hc
                  obtain ⟨l1, hl1⟩ : ∃ l1, l1 = min l0 p := ⟨_, rfl⟩
                  obtain ⟨j1, hj1⟩ : ∃ j1, j1 = j + 1 := ⟨_, rfl⟩
                  have m1 : ∀ ts t w, (Builtin.min_ ts t #[.int .u64 (l0 : Int), .int .u64 (p : Int)]).run Try.prog w = .ok (.int .u64 (l1 : Int)) w := by
                    intro ts t w
                    rw [run_min_int2, show (if (p : Int) < (l0 : Int) then (p : Int) else (l0 : Int)) = (l1 : Int) by split <;> omega]
                  have i0 : (0 : Int) ≤ (j : Int) := by omega
                  have i1 : (j : Int) < (m : Int) := by omega
                  have q6 : IntKind.i64.wrap ((j : Int) + 1) = (j1 : Int) := by rw [IntKind.wrap_i64] <;> omega
                  have HR := Lib.hid (show j1 ≤ m ∧ j1 ≤ 7 ∧ l1 = Wig.hmins nm xs j1 ∧ 7 - j1 < 7 - j from ⟨by omega, by omega, by rw [hl1, hl0, hj1]; exact (Wig.hmins_next hp).symm, by omega⟩)
                  clear hj hj2 hjm hj5 hp hl1 hj1 hl0 hc hbb
                  go_wp2_with fail
                  go_roundw
                  case rel => exact ⟨j1, l1, HR.out.1, HR.out.2.1, rfl, rfl, HR.out.2.2.1, rfl⟩
                  case measure => have := HR.out; simp [intOf]; omega
                · have t1 : decide (j < m) = true := decide_eq_true hjm
                  have t2 : decide ((j : Int) < 7) = false := decide_eq_false (by omega)
                  have ej : j = k := by have := HK.out; omega
                  obtain rfl : l0 = lo := by rw [hl0, HK.out.2.2.2, ej]
                  clear hj hj2 hjm hl0 ej hj5
                  obtain ⟨c0, c1, c2, c3, c4, c5, c6, -, -, -, -, -, -, -⟩ := XC20.out
                  obtain ⟨t0, t1, t2, t3, t4, t5, t6, -, -, -, -, -, -, -⟩ := XT20.out
                  go_wp2_with fail
                  go_ret
                  exact ⟨rfl, B20.out⟩
              · have t1 : decide (j < m) = false := decide_eq_false hjm
                have ej : j = k := by have := HK.out; omega
                obtain rfl : l0 = lo := by rw [hl0, HK.out.2.2.2, ej]
                clear hj hj2 hjm hl0 ej
                obtain ⟨c0, c1, c2, c3, c4, c5, c6, -, -, -, -, -, -, -⟩ := XC20.out
                obtain ⟨t0, t1, t2, t3, t4, t5, t6, -, -, -, -, -, -, -⟩ := XT20.out
                go_wp2_with fail
                go_ret
                exact ⟨rfl, B20.out⟩
        · have t1 : decide (k < m) = false := decide_eq_false hkm
          have HK := Lib.hid (show k ≤ m ∧ k ≤ 7 ∧ (m ≤ k ∨ 7 ≤ k) ∧ lo = Wig.hmins nm xs k from ⟨hk, hk2, .inl (by omega), hlo⟩)
          clear hk hk2 hlo hkm q5
          have SU := Lib.hid (show FfRel m xs nm wr (.int .u64 (nm : Int)) (.int .i64 0) wr from ⟨0, nm, Nat.zero_le _, Nat.zero_le _, rfl, rfl, rfl, rfl⟩)
          obtain ⟨c0, c1, c2, c3, c4, c5, c6, -, -, -, -, -, -, -⟩ := XC20.out
          go_wp2_with fail
          go_loopw [10, 11] (fun l i wx => FfRel m xs nm wr l i wx) (fun _ i _ => 7 - (intOf i).toNat)
          case atStart => exact SU.out
          case round =>
            obtain ⟨j, l0, hj, hj2, rfl, rfl, hl0, rfl⟩ := hrel
            clear SU t1
            by_cases hjm : j < m
            · by_cases hj5 : j < 7
              · have t1 : decide (j < m) = true := decide_eq_true hjm
                have t2 : decide ((j : Int) < 7) = true := decide_eq_true (by omega)
                obtain ⟨p, hp⟩ : ∃ p, xs[j]? = some p := ⟨_, List.getElem?_eq_getElem (by have := HX.out.2.1; omega)⟩
                obtain ⟨bb, off, rfl, hbb, hc⟩ := HD.out.at_ hp
                have c00 := (B20.out.cell (show (⟨bb, off + j, none⟩ : Addr).block < w.heap.size from hbb)).trans hc
                obtain ⟨l1, hl1⟩ : ∃ l1, l1 = min l0 p := ⟨_, rfl⟩
                obtain ⟨j1, hj1⟩ : ∃ j1, j1 = j + 1 := ⟨_, rfl⟩
                have m1 : ∀ ts t w, (Builtin.min_ ts t #[.int .u64 (l0 : Int), .int .u64 (p : Int)]).run Try.prog w = .ok (.int .u64 (l1 : Int)) w := by
                  intro ts t w
                  rw [run_min_int2, show (if (p : Int) < (l0 : Int) then (p : Int) else (l0 : Int)) = (l1 : Int) by split <;> omega]
                have i0 : (0 : Int) ≤ (j : Int) := by omega
                have i1 : (j : Int) < (m : Int) := by omega
                have q6 : IntKind.i64.wrap ((j : Int) + 1) = (j1 : Int) := by rw [IntKind.wrap_i64] <;> omega
                have HR := Lib.hid (show j1 ≤ m ∧ j1 ≤ 7 ∧ l1 = Wig.hmins nm xs j1 ∧ 7 - j1 < 7 - j from ⟨by omega, by omega, by rw [hl1, hl0, hj1]; exact (Wig.hmins_next hp).symm, by omega⟩)
                clear hj hj2 hjm hj5 hp hl1 hj1 hl0 hc hbb
                go_wp2_with fail
                go_roundw
                case rel => exact ⟨j1, l1, HR.out.1, HR.out.2.1, rfl, rfl, HR.out.2.2.1, rfl⟩
                case measure => have := HR.out; simp [intOf]; omega
              · have t1 : decide (j < m) = true := decide_eq_true hjm
                have t2 : decide ((j : Int) < 7) = false := decide_eq_false (by omega)
                have ej : j = k := by have := HK.out; omega
                obtain rfl : l0 = lo := by rw [hl0, HK.out.2.2.2, ej]
                clear hj hj2 hjm hl0 ej hj5
                obtain ⟨c0, c1, c2, c3, c4, c5, c6, -, -, -, -, -, -, -⟩ := XC20.out
                obtain ⟨t0, t1, t2, t3, t4, t5, t6, -, -, -, -, -, -, -⟩ := XT20.out
                go_wp2_with fail
                go_ret
                exact ⟨rfl, B20.out⟩
            · have t1 : decide (j < m) = false := decide_eq_false hjm
              have ej : j = k := by have := HK.out; omega
              obtain rfl : l0 = lo := by rw [hl0, HK.out.2.2.2, ej]
              clear hj hj2 hjm hl0 ej
              obtain ⟨c0, c1, c2, c3, c4, c5, c6, -, -, -, -, -, -, -⟩ := XC20.out
              obtain ⟨t0, t1, t2, t3, t4, t5, t6, -, -, -, -, -, -, -⟩ := XT20.out
              go_wp2_with fail
              go_ret
              exact ⟨rfl, B20.out⟩
    · by_cases p1 : ph = 1
      · have d0 : (ph != 0) = true := by simpa using p0
        have d1 : (ph != 1) = false := by simpa using p1
        have HP := Lib.hid (show (ph = 0 ∨ ph = 1) ∧ en ≠ 0 from ⟨.inr p1, hz⟩)
        obtain ⟨ez, hez⟩ : ∃ ez, ez = en - 1 := ⟨_, rfl⟩
        have q5 : IntKind.u64.wrap ((en : Int) - 1) = (ez : Int) := by have := HS.out; rw [IntKind.wrap_u64]; omega
        have HZ := Lib.hid hez
        clear hz hez p0 p1
        have B0 := Lib.hid (Below.refl w.heap.size w)
        go_enter Try.func6, Try.ntmps6
        go_upto_region 1 with fail
        obtain ⟨w1, hw⟩ : ∃ wx, wx = w.alloc (.cells #[.int .i64 ph, .int .u64 (en : Int), .int .u64 (lm : Int), .int .u64 (nm : Int), .int .u64 (ct : Int), .int .u64 (ba : Int), .int .u64 (ro : Int)] 25) := ⟨_, rfl⟩
        rw [← hw]
        obtain ⟨pC, hp⟩ : ∃ px, px = w.heap.size := ⟨_, rfl⟩
        rw [← hp]
        have hb : Below w.heap.size w w1 := by rw [hw]; exact (Below.refl _ _).alloc (Nat.le_refl _) _
        have hx : BxSl pC ph en lm nm ct ba ro w1 := by rw [hp, hw]; exact BxSl.new _ ph en lm nm ct ba ro
        have hs : pC < w1.heap.size := by rw [hp, hw]; simp
        have GC := Lib.hid (show w.heap.size ≤ pC by rw [hp]; exact B0.out.size)
        have B1 := Lib.hid (below_trans' B0.out hb)
        clear hb B0
        have XC1 := Lib.hid hx
        have SC1 := Lib.hid hs
        clear hx hs hw hp
        go_wp2_with fail
        refine (C0.out _).mono ?_
        rintro e w2 ⟨rfl, hb⟩
        have B2 := Lib.hid (below_trans' B1.out hb)
        have XC2 := Lib.hid (XC1.out.below hb SC1.out)
        have SC2 := Lib.hid (Nat.lt_of_lt_of_le SC1.out hb.size)
        clear hb B1 XC1 SC1
        obtain ⟨c0, c1, c2, c3, c4, c5, c6, cf0, cf1, cf2, cf3, cf4, cf5, cf6⟩ := XC2.out
        go_upto_region 5 with fail
        clear c0 c1 c2 c3 c4 c5 c6 cf0 cf1 cf2 cf3 cf4 cf5 cf6
        obtain ⟨w3, hw⟩ : ∃ wx, wx = w2.setCell ⟨pC, 4, none⟩ (.int .u64 0) := ⟨_, rfl⟩
        rw [← hw]
        have XC3 := Lib.hid (show BxSl pC ph en lm nm 0 ba ro w3 by rw [hw]; exact XC2.out.set4)
        have B3 := Lib.hid (show Below w.heap.size w w3 by rw [hw]; exact Below.setCell B2.out GC.out _)
        have SC3 := Lib.hid (show pC < w3.heap.size by rw [hw]; have := SC2.out; simpa using this)
        clear hw B2 XC2 SC2
        obtain ⟨c0, c1, c2, c3, c4, c5, c6, -, -, -, -, -, -, -⟩ := XC3.out
        go_upto_region 6 with fail
        obtain ⟨w4, hw⟩ : ∃ wx, wx = w3.alloc (.cells #[.int .i64 ph, .int .u64 (en : Int), .int .u64 (lm : Int), .int .u64 (nm : Int), .int .u64 0, .int .u64 (ba : Int), .int .u64 (ro : Int)] 25) := ⟨_, rfl⟩
        rw [← hw]
        obtain ⟨pT, hp⟩ : ∃ px, px = w3.heap.size := ⟨_, rfl⟩
        rw [← hp]
        have hb : Below w3.heap.size w3 w4 := by rw [hw]; exact (Below.refl _ _).alloc (Nat.le_refl _) _
        have hx : BxSl pT ph en lm nm 0 ba ro w4 := by rw [hp, hw]; exact BxSl.new _ ph en lm nm 0 ba ro
        have hs : pT < w4.heap.size := by rw [hp, hw]; simp
        have GT := Lib.hid (show w.heap.size ≤ pT by rw [hp]; exact B3.out.size)
        have OCT := Lib.hid (show pC < pT by rw [hp]; exact SC3.out)
        have B4 := Lib.hid (below_trans' B3.out hb)
        have XC4 := Lib.hid (XC3.out.below hb SC3.out)
        have SC4 := Lib.hid (Nat.lt_of_lt_of_le SC3.out hb.size)
        clear c0 c1 c2 c3 c4 c5 c6
        clear hb B3 XC3 SC3
        have XT4 := Lib.hid hx
        have ST4 := Lib.hid hs
        clear hx hs hw hp
        clear d0 dz d1
        have ST := Lib.hid (show FeRel m xs ph en lm nm ba ro pC pT w (.int .i64 0) w4 from ⟨0, nm, Nat.zero_le _, Nat.zero_le _, rfl, rfl, XC4.out, XT4.out, SC4.out, ST4.out, B4.out⟩)
        go_wp2_with fail
        go_loopw [9] (fun i wr => FeRel m xs ph en lm nm ba ro pC pT w i wr) (fun i _ => 7 - (intOf i).toNat)
        case atStart => exact ST.out
        case round =>
          obtain ⟨k, lo, hk, hk2, rfl, hlo, hbc, hbt, hltc, hltt, hbel⟩ := hrel
          have XC20 := Lib.hid hbc
          have XT20 := Lib.hid hbt
          have SC20 := Lib.hid hltc
          have ST20 := Lib.hid hltt
          have B20 := Lib.hid hbel
          clear XC4 XT4 SC4 ST4 B4 ST hbc hbt hltc hltt hbel
          by_cases hkm : k < m
          · by_cases hk5 : k < 7
            · have t1 : decide (k < m) = true := decide_eq_true hkm
              have t2 : decide ((k : Int) < 7) = true := decide_eq_true (by omega)
              obtain ⟨p, hp⟩ : ∃ p, xs[k]? = some p := ⟨_, List.getElem?_eq_getElem (by have := HX.out.2.1; omega)⟩
              have pl : p < 18446744073709551616 := HX.out.1 p (List.mem_of_getElem? hp)
              obtain ⟨bb, off, rfl, hbb, hc⟩ := HD.out.at_ hp
              have HC := Lib.hid hc
              have HBB := Lib.hid (show (⟨bb, off + k, none⟩ : Addr).block < w.heap.size from hbb)
              obtain ⟨l1, hl1⟩ : ∃ l1, l1 = min lo p := ⟨_, rfl⟩
              obtain ⟨k1, hk1⟩ : ∃ k1, k1 = k + 1 := ⟨_, rfl⟩
              have hS := HS.out
              have lo1 : lo < 18446744073709551616 := by have := Wig.hmins_le nm xs k; omega
              have hsam : Wig.hsample ⟨ph, en, lm, lo, k, ba, ro⟩ ez n p = ⟨ph, en, lm, l1, k1, ba, ro⟩ := by rw [HZ.out, hl1, hk1]; exact Wig.hfew_sample (s := ⟨ph, en, lm, lo, k, ba, ro⟩) HP.out.1 HP.out.2 hk5
              have C2 := Lib.hid (fun w => sample_any ph en lm lo k ba ro ez n p ph en lm l1 k1 ba ro w ⟨hS.1, hS.2.1, hS.2.2.1, hS.2.2.2.1, lo1, (by show k < _; omega), hS.2.2.2.2.2.1, hS.2.2.2.2.2.2.1⟩ (by have := HZ.out; omega) hS.2.2.2.2.2.2.2 pl hsam)
              have i0 : (0 : Int) ≤ (k : Int) := by omega
              have i1 : (k : Int) < (m : Int) := by omega
              have q6 : IntKind.i64.wrap ((k : Int) + 1) = (k1 : Int) := by rw [IntKind.wrap_i64] <;> omega
              have HR := Lib.hid (show k1 ≤ m ∧ k1 ≤ 7 ∧ l1 = Wig.hmins nm xs k1 ∧ 7 - k1 < 7 - k from ⟨by omega, by omega, by rw [hl1, hlo, hk1]; exact (Wig.hmins_next hp).symm, by omega⟩)
              clear hk hk2 hlo hkm hk5 hp pl hl1 hk1 hS lo1 hsam hc hbb
              go_upto_region 9 with fail
              obtain ⟨t0, t1, t2, t3, t4, t5, t6, -, -, -, -, -, -, -⟩ := XT20.out
              refine wp_region_held_drew (S := fun wx => wx.cell? ⟨bb, off + k, none⟩ = some (.int .u64 (p : Int)) ∧ BxSl pC ph en lm nm 0 ba ro wx) (by kernel_rfl) ?_ (fun hHeld => ?_)
              · exact ⟨(B20.out.drew.cell HBB.out).trans HC.out, XC20.out.drew⟩
              refine held_take (v := ?vv113) 1 rfl (by kernel_rfl) (by kernel_rfl) (by kernel_rfl) (fun _ _ _ h => h) (by rfl) ?yy113 (by assumption) ?nn113
              case yy113 =>
                intro w hSw
                (try dsimp only at hSw)
                go_simp
                try with_reducible rfl
              try simp only [Act.put, List.setIfInBounds_toArray, List.set_cons_zero, List.set_cons_succ]
              refine held_take (v := .int .u64 (en : Int)) 2 rfl (by kernel_rfl) (by kernel_rfl) (by kernel_rfl) (fun _ _ _ h => h) (by rfl) (fun wx hSw => by have c := hSw.2.c1; clear hSw; go_simp) (by assumption) ?_
              try simp only [Act.put, List.setIfInBounds_toArray, List.set_cons_zero, List.set_cons_succ]
              refine held_take (v := ?vv115) 3 rfl (by kernel_rfl) (by kernel_rfl) (by kernel_rfl) (fun _ _ _ h => h) (by rfl) ?yy115 (by assumption) ?nn115
              case yy115 =>
                intro w hSw
                (try dsimp only at hSw)
                go_simp
                try with_reducible rfl
              try simp only [Act.put, List.setIfInBounds_toArray, List.set_cons_zero, List.set_cons_succ]
              refine held_take (v := ?vv116) 4 rfl (by kernel_rfl) (by kernel_rfl) (by kernel_rfl) (fun _ _ _ h => h) (by rfl) ?yy116 (by assumption) ?nn116
              case yy116 =>
                intro w hSw
                (try dsimp only at hSw)
                go_simp
                try with_reducible rfl
              try simp only [Act.put, List.setIfInBounds_toArray, List.set_cons_zero, List.set_cons_succ]
              refine held_take (v := ?vv117) 5 rfl (by kernel_rfl) (by kernel_rfl) (by kernel_rfl) (fun _ _ _ h => h) (by rfl) ?yy117 (by assumption) ?nn117
              case yy117 =>
                intro w hSw
                (try dsimp only at hSw)
                go_simp
                try with_reducible rfl
              try simp only [Act.put, List.setIfInBounds_toArray, List.set_cons_zero, List.set_cons_succ]
              refine held_take (v := ?vv118) 6 rfl (by kernel_rfl) (by kernel_rfl) (by kernel_rfl) (fun _ _ _ h => h) (by rfl) ?yy118 (by assumption) ?nn118
              case yy118 =>
                intro w hSw
                (try dsimp only at hSw)
                go_simp
                try with_reducible rfl
              try simp only [Act.put, List.setIfInBounds_toArray, List.set_cons_zero, List.set_cons_succ]
              refine held_take (v := ?vv119) 7 rfl (by kernel_rfl) (by kernel_rfl) (by kernel_rfl) (fun _ _ _ h => h) (by rfl) ?yy119 (by assumption) ?nn119
              case yy119 =>
                intro w hSw
                (try dsimp only at hSw)
                go_simp
                try with_reducible rfl
              try simp only [Act.put, List.setIfInBounds_toArray, List.set_cons_zero, List.set_cons_succ]
              refine held_take (v := .int .u64 (p : Int)) 8 rfl (by kernel_rfl) (by kernel_rfl) (by kernel_rfl) (fun _ _ _ h => h) (by rfl) (fun wx hSw => by clear HC; have a0 := hSw.1; clear hSw; (try dsimp only at a0); go_simp) (by assumption) ?_
              try simp only [Act.put, List.setIfInBounds_toArray, List.set_cons_zero, List.set_cons_succ]
              refine held_do 0 rfl (by kernel_rfl) (by rfl) (fun K hK => ?_)
              go_wp2_with fail
              refine hK.out _ _ ?_ (fun hHeld => ?_)
              · exact ⟨(B20.out.drew.cell HBB.out).trans HC.out, XC20.out.drew⟩
              clear hK K
              try simp only [Act.put, List.setIfInBounds_toArray, List.set_cons_zero, List.set_cons_succ]
              refine held_do 9 rfl (by kernel_rfl) (by rfl) (fun K hK => ?_)
              go_wp2_with (go_at_call 10; refine (C2.out _).mono ?_; rintro e w21 ⟨rfl, hb21⟩; have HB := Lib.hid hb21; clear hb21)
              refine hK.out _ _ ?_ (fun hHeld => ?_)
              · exact ⟨((below_trans' B20.out.drew HB.out).cell HBB.out).trans HC.out, XC20.out.drew.below HB.out SC20.out⟩
              clear hK K
              try simp only [Act.put, List.setIfInBounds_toArray, List.set_cons_zero, List.set_cons_succ]
              have B21 := Lib.hid (below_trans' B20.out.drew HB.out)
              have XC21 := Lib.hid (XC20.out.drew.below HB.out SC20.out)
              have SC21 := Lib.hid (Nat.lt_of_lt_of_le SC20.out HB.out.size)
              have XT21 := Lib.hid (XT20.out.drew.below HB.out ST20.out)
              have ST21 := Lib.hid (Nat.lt_of_lt_of_le ST20.out HB.out.size)
              clear t0 t1 t2 t3 t4 t5 t6
              clear HB B20 XC20 SC20 XT20 ST20
              obtain ⟨t0, t1, t2, t3, t4, t5, t6, tf0, tf1, tf2, tf3, tf4, tf5, tf6⟩ := XT21.out
              refine held_do 10 rfl (by kernel_rfl) (by rfl) (fun K hK => ?_)
              go_wp2_with fail
              refine hK.out _ _ ?_ (fun hHeld => ?_)
              · exact ⟨((B21.out.trans (putSl_below (p := pT) GT.out)).cell HBB.out).trans HC.out, (((((((XC21.out.other rfl (Nat.ne_of_gt OCT.out)).other rfl (Nat.ne_of_gt OCT.out)).other rfl (Nat.ne_of_gt OCT.out)).other rfl (Nat.ne_of_gt OCT.out)).other rfl (Nat.ne_of_gt OCT.out)).other rfl (Nat.ne_of_gt OCT.out)).other rfl (Nat.ne_of_gt OCT.out))⟩
              clear hK K
              try simp only [Act.put, List.setIfInBounds_toArray, List.set_cons_zero, List.set_cons_succ]
              refine wpAnyH_done (by kernel_rfl) ?_ _
              clear hHeld
              obtain ⟨w22, hw⟩ : ∃ wx, wx = putSl pT ph en lm l1 k1 ba ro w21 := ⟨_, rfl⟩
              have XT22 := Lib.hid (show BxSl pT ph en lm l1 k1 ba ro w22 by rw [hw]; exact XT21.out.put)
              have B22 := Lib.hid (show Below w.heap.size w w22 by rw [hw]; exact B21.out.trans (putSl_below GT.out))
              have hz : w21.heap.size ≤ w22.heap.size := by rw [hw]; exact (putSl_below (B := 0) (Nat.zero_le _)).size
              have ST22 := Lib.hid (Nat.lt_of_lt_of_le ST21.out hz)
              have XC22 := Lib.hid (show BxSl pC ph en lm nm 0 ba ro w22 by rw [hw]; unfold putSl; exact (((((((XC21.out.other rfl (Nat.ne_of_gt OCT.out)).other rfl (Nat.ne_of_gt OCT.out)).other rfl (Nat.ne_of_gt OCT.out)).other rfl (Nat.ne_of_gt OCT.out)).other rfl (Nat.ne_of_gt OCT.out)).other rfl (Nat.ne_of_gt OCT.out)).other rfl (Nat.ne_of_gt OCT.out)))
              have SC22 := Lib.hid (Nat.lt_of_lt_of_le SC21.out hz)
              rw [show ((((((w21.setCell ⟨pT, 0, none⟩ (.int .i64 ph)).setCell ⟨pT, 1, none⟩ (.int .u64 (en : Int))).setCell ⟨pT, 2, none⟩ (.int .u64 (lm : Int))).setCell ⟨pT, 3, none⟩ (.int .u64 (l1 : Int))).setCell ⟨pT, 4, none⟩ (.int .u64 (k1 : Int))).setCell ⟨pT, 5, none⟩ (.int .u64 (ba : Int))).setCell ⟨pT, 6, none⟩ (.int .u64 (ro : Int)) = w22 from hw.symm]
              clear t0 t1 t2 t3 t4 t5 t6 tf0 tf1 tf2 tf3 tf4 tf5 tf6
              clear hw hz B21 XT21 ST21 XC21 SC21
              have RZ := Lib.hid (show FeRel m xs ph en lm nm ba ro pC pT w (.int .i64 (k1 : Int)) w22 from ⟨k1, l1, HR.out.1, HR.out.2.1, rfl, HR.out.2.2.1, XC22.out, XT22.out, SC22.out, ST22.out, B22.out⟩)
              clear q5
              go_wp2_with fail
              go_roundw
              case rel => exact RZ.out
              case measure => have := HR.out; simp [intOf]; omega
            · have t1 : decide (k < m) = true := decide_eq_true hkm
              have t2 : decide ((k : Int) < 7) = false := decide_eq_false (by omega)
              have HK := Lib.hid (show k ≤ m ∧ k ≤ 7 ∧ (m ≤ k ∨ 7 ≤ k) ∧ lo = Wig.hmins nm xs k from ⟨hk, hk2, .inr (by omega), hlo⟩)
              clear hk hk2 hlo hkm q5 hk5
              have SU := Lib.hid (show FfRel m xs nm wr (.int .u64 (nm : Int)) (.int .i64 0) wr from ⟨0, nm, Nat.zero_le _, Nat.zero_le _, rfl, rfl, rfl, rfl⟩)
              obtain ⟨c0, c1, c2, c3, c4, c5, c6, -, -, -, -, -, -, -⟩ := XC20.out
              go_wp2_with fail
              go_loopw [10, 11] (fun l i wx => FfRel m xs nm wr l i wx) (fun _ i _ => 7 - (intOf i).toNat)
              case atStart => exact SU.out
              case round =>
                obtain ⟨j, l0, hj, hj2, rfl, rfl, hl0, rfl⟩ := hrel
                clear SU t1 t2
                by_cases hjm : j < m
                · by_cases hj5 : j < 7
                  · have t1 : decide (j < m) = true := decide_eq_true hjm
                    have t2 : decide ((j : Int) < 7) = true := decide_eq_true (by omega)
                    obtain ⟨p, hp⟩ : ∃ p, xs[j]? = some p := ⟨_, List.getElem?_eq_getElem (by have := HX.out.2.1; omega)⟩
                    obtain ⟨bb, off, rfl, hbb, hc⟩ := HD.out.at_ hp
                    have c00 := (B20.out.cell (show (⟨bb, off + j, none⟩ : Addr).block < w.heap.size from hbb)).trans hc
                    obtain ⟨l1, hl1⟩ : ∃ l1, l1 = min l0 p := ⟨_, rfl⟩
                    obtain ⟨j1, hj1⟩ : ∃ j1, j1 = j + 1 := ⟨_, rfl⟩
                    have m1 : ∀ ts t w, (Builtin.min_ ts t #[.int .u64 (l0 : Int), .int .u64 (p : Int)]).run Try.prog w = .ok (.int .u64 (l1 : Int)) w := by
                      intro ts t w
                      rw [run_min_int2, show (if (p : Int) < (l0 : Int) then (p : Int) else (l0 : Int)) = (l1 : Int) by split <;> omega]
                    have i0 : (0 : Int) ≤ (j : Int) := by omega
                    have i1 : (j : Int) < (m : Int) := by omega
                    have q6 : IntKind.i64.wrap ((j : Int) + 1) = (j1 : Int) := by rw [IntKind.wrap_i64] <;> omega
                    have HR := Lib.hid (show j1 ≤ m ∧ j1 ≤ 7 ∧ l1 = Wig.hmins nm xs j1 ∧ 7 - j1 < 7 - j from ⟨by omega, by omega, by rw [hl1, hl0, hj1]; exact (Wig.hmins_next hp).symm, by omega⟩)
                    clear hj hj2 hjm hj5 hp hl1 hj1 hl0 hc hbb
                    go_wp2_with fail
                    go_roundw
                    case rel => exact ⟨j1, l1, HR.out.1, HR.out.2.1, rfl, rfl, HR.out.2.2.1, rfl⟩
                    case measure => have := HR.out; simp [intOf]; omega
                  · have t1 : decide (j < m) = true := decide_eq_true hjm
                    have t2 : decide ((j : Int) < 7) = false := decide_eq_false (by omega)
                    have ej : j = k := by have := HK.out; omega
                    obtain rfl : l0 = lo := by rw [hl0, HK.out.2.2.2, ej]
                    clear hj hj2 hjm hl0 ej hj5
                    obtain ⟨c0, c1, c2, c3, c4, c5, c6, -, -, -, -, -, -, -⟩ := XC20.out
                    obtain ⟨t0, t1, t2, t3, t4, t5, t6, -, -, -, -, -, -, -⟩ := XT20.out
                    go_wp2_with fail
                    go_ret
                    exact ⟨rfl, B20.out⟩
                · have t1 : decide (j < m) = false := decide_eq_false hjm
                  have ej : j = k := by have := HK.out; omega
                  obtain rfl : l0 = lo := by rw [hl0, HK.out.2.2.2, ej]
                  clear hj hj2 hjm hl0 ej
                  obtain ⟨c0, c1, c2, c3, c4, c5, c6, -, -, -, -, -, -, -⟩ := XC20.out
                  obtain ⟨t0, t1, t2, t3, t4, t5, t6, -, -, -, -, -, -, -⟩ := XT20.out
                  go_wp2_with fail
                  go_ret
                  exact ⟨rfl, B20.out⟩
          · have t1 : decide (k < m) = false := decide_eq_false hkm
            have HK := Lib.hid (show k ≤ m ∧ k ≤ 7 ∧ (m ≤ k ∨ 7 ≤ k) ∧ lo = Wig.hmins nm xs k from ⟨hk, hk2, .inl (by omega), hlo⟩)
            clear hk hk2 hlo hkm q5
            have SU := Lib.hid (show FfRel m xs nm wr (.int .u64 (nm : Int)) (.int .i64 0) wr from ⟨0, nm, Nat.zero_le _, Nat.zero_le _, rfl, rfl, rfl, rfl⟩)
            obtain ⟨c0, c1, c2, c3, c4, c5, c6, -, -, -, -, -, -, -⟩ := XC20.out
            go_wp2_with fail
            go_loopw [10, 11] (fun l i wx => FfRel m xs nm wr l i wx) (fun _ i _ => 7 - (intOf i).toNat)
            case atStart => exact SU.out
            case round =>
              obtain ⟨j, l0, hj, hj2, rfl, rfl, hl0, rfl⟩ := hrel
              clear SU t1
              by_cases hjm : j < m
              · by_cases hj5 : j < 7
                · have t1 : decide (j < m) = true := decide_eq_true hjm
                  have t2 : decide ((j : Int) < 7) = true := decide_eq_true (by omega)
                  obtain ⟨p, hp⟩ : ∃ p, xs[j]? = some p := ⟨_, List.getElem?_eq_getElem (by have := HX.out.2.1; omega)⟩
                  obtain ⟨bb, off, rfl, hbb, hc⟩ := HD.out.at_ hp
                  have c00 := (B20.out.cell (show (⟨bb, off + j, none⟩ : Addr).block < w.heap.size from hbb)).trans hc
                  obtain ⟨l1, hl1⟩ : ∃ l1, l1 = min l0 p := ⟨_, rfl⟩
                  obtain ⟨j1, hj1⟩ : ∃ j1, j1 = j + 1 := ⟨_, rfl⟩
                  have m1 : ∀ ts t w, (Builtin.min_ ts t #[.int .u64 (l0 : Int), .int .u64 (p : Int)]).run Try.prog w = .ok (.int .u64 (l1 : Int)) w := by
                    intro ts t w
                    rw [run_min_int2, show (if (p : Int) < (l0 : Int) then (p : Int) else (l0 : Int)) = (l1 : Int) by split <;> omega]
                  have i0 : (0 : Int) ≤ (j : Int) := by omega
                  have i1 : (j : Int) < (m : Int) := by omega
                  have q6 : IntKind.i64.wrap ((j : Int) + 1) = (j1 : Int) := by rw [IntKind.wrap_i64] <;> omega
                  have HR := Lib.hid (show j1 ≤ m ∧ j1 ≤ 7 ∧ l1 = Wig.hmins nm xs j1 ∧ 7 - j1 < 7 - j from ⟨by omega, by omega, by rw [hl1, hl0, hj1]; exact (Wig.hmins_next hp).symm, by omega⟩)
                  clear hj hj2 hjm hj5 hp hl1 hj1 hl0 hc hbb
                  go_wp2_with fail
                  go_roundw
                  case rel => exact ⟨j1, l1, HR.out.1, HR.out.2.1, rfl, rfl, HR.out.2.2.1, rfl⟩
                  case measure => have := HR.out; simp [intOf]; omega
                · have t1 : decide (j < m) = true := decide_eq_true hjm
                  have t2 : decide ((j : Int) < 7) = false := decide_eq_false (by omega)
                  have ej : j = k := by have := HK.out; omega
                  obtain rfl : l0 = lo := by rw [hl0, HK.out.2.2.2, ej]
                  clear hj hj2 hjm hl0 ej hj5
                  obtain ⟨c0, c1, c2, c3, c4, c5, c6, -, -, -, -, -, -, -⟩ := XC20.out
                  obtain ⟨t0, t1, t2, t3, t4, t5, t6, -, -, -, -, -, -, -⟩ := XT20.out
                  go_wp2_with fail
                  go_ret
                  exact ⟨rfl, B20.out⟩
              · have t1 : decide (j < m) = false := decide_eq_false hjm
                have ej : j = k := by have := HK.out; omega
                obtain rfl : l0 = lo := by rw [hl0, HK.out.2.2.2, ej]
                clear hj hj2 hjm hl0 ej
                obtain ⟨c0, c1, c2, c3, c4, c5, c6, -, -, -, -, -, -, -⟩ := XC20.out
                obtain ⟨t0, t1, t2, t3, t4, t5, t6, -, -, -, -, -, -, -⟩ := XT20.out
                go_wp2_with fail
                go_ret
                exact ⟨rfl, B20.out⟩
      · have d0 : (ph != 0) = true := by simpa using p0
        have d1 : (ph != 1) = true := by simpa using p1
        clear p0 p1 hz
        have B0 := Lib.hid (Below.refl w.heap.size w)
        go_enter Try.func6, Try.ntmps6
        go_upto_region 1 with fail
        obtain ⟨w1, hw⟩ : ∃ wx, wx = w.alloc (.cells #[.int .i64 ph, .int .u64 (en : Int), .int .u64 (lm : Int), .int .u64 (nm : Int), .int .u64 (ct : Int), .int .u64 (ba : Int), .int .u64 (ro : Int)] 25) := ⟨_, rfl⟩
        rw [← hw]
        obtain ⟨pC, hp⟩ : ∃ px, px = w.heap.size := ⟨_, rfl⟩
        rw [← hp]
        have hb : Below w.heap.size w w1 := by rw [hw]; exact (Below.refl _ _).alloc (Nat.le_refl _) _
        have hx : BxSl pC ph en lm nm ct ba ro w1 := by rw [hp, hw]; exact BxSl.new _ ph en lm nm ct ba ro
        have hs : pC < w1.heap.size := by rw [hp, hw]; simp
        have GC := Lib.hid (show w.heap.size ≤ pC by rw [hp]; exact B0.out.size)
        have B1 := Lib.hid (below_trans' B0.out hb)
        clear hb B0
        have XC1 := Lib.hid hx
        have SC1 := Lib.hid hs
        clear hx hs hw hp
        go_wp2_with fail
        refine (C0.out _).mono ?_
        rintro e w2 ⟨rfl, hb⟩
        have B2 := Lib.hid (below_trans' B1.out hb)
        have XC2 := Lib.hid (XC1.out.below hb SC1.out)
        have SC2 := Lib.hid (Nat.lt_of_lt_of_le SC1.out hb.size)
        clear hb B1 XC1 SC1
        obtain ⟨c0, c1, c2, c3, c4, c5, c6, -, -, -, -, -, -, -⟩ := XC2.out
        go_wp2_with fail
        go_ret
        exact ⟨rfl, B2.out⟩

set_option maxRecDepth 100000 in
theorem lifted (os : Os) (started : os.Started) (H : Type) (enc : TypeId × Value → H) :
    ReturnsInHanded {} Try.checked os 6 .any (Rows.hystartFewSpec.pre6 enc Try.prog Try.f6 Rows.hystartFewRow.domain false) (Rows.hystartFewSpec.post enc Try.prog Try.f6 false true false false) := by
  refine returnsInHanded_of_change (C := Try.checked) own started (by kernel_rfl) Try.func6
    (ChangeSpec.witness6 (enc := enc) (C := Try.checked) false ⟨#[], #[.agg #[.int .i64 0, .int .u64 0, .int .u64 0, .int .u64 0, .int .u64 0, .int .u64 0, .int .u64 0], .int .u64 0, .slice none 0 0], []⟩ 8 (by kernel_rfl) (by kernel_rfl) (by kernel_rfl) (by kernel_rfl)) ?_
  intro W base args ds gs before hval0 hW hcnd _
  have hval : ∀ (j : Nat) t v, Try.f6.params[j]? = some t → args[j]? = some v → Value.okWide Try.prog W .any base t v := hval0
  have hW' := hW
  obtain ⟨p, q, hA0, hV, rfl, hfz, hnd⟩ := hW
  have hA : DataW.TrodAll enc Try.prog W 0 (fun _ => true) true Try.f6.params.toList args.toList ds p := hA0
  obtain ⟨rfl, rfl⟩ := trodVars_none hV
  simp only [List.append_nil] at hW'
  have hlow : ∀ x ∈ p, x.block < W.heap.size := fun x hx => hW'.lt x hx
  have hA2 := hA
  rw [Try.params6] at hval hA2
  obtain ⟨v0, vs0, d0, ds0, p0, q0, hargs, rfl, rfl, h0, r0⟩ := trodAll_cons hA2
  obtain ⟨v1, vs1, d1, ds1, p1, q1, rfl, rfl, rfl, h1, r1⟩ := trodAll_cons r0
  obtain ⟨v2, vs2, d2, ds2, p2, q2, rfl, rfl, rfl, h2, r2⟩ := trodAll_cons r1
  obtain ⟨rfl, rfl, rfl⟩ := trodAll_nil r2
  obtain rfl : args = #[v0, v1, v2] := by cases args; simp_all
  obtain ⟨x0_0, x0_1, x0_2, x0_3, x0_4, x0_5, x0_6, rfl, b0_0, d0_0, b0_1, b0_2, b0_3, b0_4, b0_5, b0_6⟩ := open_slow (hval 0 25 v0 rfl rfl) h0 (fun x hx => hlow x (by simp [hx]))
  obtain ⟨n1, rfl, hn1⟩ := open_u64 Try.underlying23 (hval 1 23 v1 rfl rfl) h1
  obtain ⟨A2, c2, xs2, rfl, hx2, hr2, hl2, hm2⟩ := open_row 18446744073709551616 Try.underlying35 Try.underlying23 (by kernel_rfl) (by intro x h; simp [Lit.wf, IntKind.min, IntKind.max, IntKind.signed, IntKind.bits] at h; omega) (hval 2 35 v2 rfl rfl) h2 (fun x hx => hlow x (by simp [hx]))
  refine (walk x0_0 x0_1 x0_2 x0_3 x0_4 x0_5 x0_6 n1 A2 c2 xs2 b0_0 d0_0 b0_1 b0_2 b0_3 b0_4 b0_5 b0_6 hn1 hx2 hl2 hm2 W hr2).mono fun e W' ⟨he, hg⟩ => ?_
  subst he
  exact ⟨_, rfl, law_true laid_out (by kernel_rfl) rfl Try.underlying4 (by kernel_rfl) hW' hA rfl rfl rfl hg⟩

theorem over : Rows.hystartFewRow.holds Try.pinned (OpenSpec.ofChange Rows.hystartFewSpec) :=
  OpenClaim.holds_of_wide 6 Try.f6 rfl rfl rfl rfl rfl rfl rfl ⟨rfl, rfl, rfl, rfl, rfl⟩ rfl rfl rfl rfl rfl (by kernel_rfl) Try.func6 (by kernel_rfl)
    (of_decide_eq_true (by kernel_rfl)) (by unfold Func.isWrapper; first | (rw [if_pos (by decide +kernel)]; kernel_rfl) | (rw [if_neg (by decide +kernel)]; exact ⟨rfl, rfl⟩))
    (fun os started H enc _ => lifted os started H enc)

/-- The statement. -/
theorem proved : Rows.HystartFewSaid := over
end Go.Proofs.Ytaiephdacioedaa.hystartFew
