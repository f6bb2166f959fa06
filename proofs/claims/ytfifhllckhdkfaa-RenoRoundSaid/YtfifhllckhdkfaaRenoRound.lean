/-
  RenoRound: a window that grows slowly grows by a packet at most for as many bytes as it has, in however many parts they come, and by just a packet where they come at once; windows of a million bytes at most, at most fifty parts. No condition.
-/
import Derived.Test.YtfifhllckhdkfaaRnW
import Derived.Test.YtfifhllckhdkfaaOpen
import Derived.Test.YtfifhllckhdkfaaByt
import Derived.Deep.CutBlock
import Derived.Deep.DeepCutAuto
namespace Go.Proofs.Ytfifhllckhdkfaa.renoRound
open Go.ChangeShapes Go.WideShapes Go.ChangeAt Go.RowKit Go.Deep
set_option linter.unusedVariables false

/-- At a round's head: what lies in the box, and how many bytes are left. -/
def RoRel (m p v : Nat) (w : World) (l i : Value) (wr : World) : Prop :=
  ∃ k T d c r : Nat, k ≤ m ∧ k ≤ 50 ∧ l = .int .u64 (d : Int) ∧ i = .int .i64 (k : Int) ∧ T + d = v ∧ Wig.NRound v T ⟨c, 2400, 0, r⟩ ∧ Wig.Rn.Ok ⟨c, 2400, 0, r⟩ ∧ BxRn p c 2400 0 r wr ∧ p < wr.heap.size ∧ Below w.heap.size w wr
theorem round_ack {v T b c r : Nat} (hv : 2400 ≤ v) (hv2 : v ≤ 1002399) (h : Wig.NRound v T ⟨c, 2400, 0, r⟩) (ok : Wig.Rn.Ok ⟨c, 2400, 0, r⟩) (hb : T + b ≤ v) :
    ∃ c' r', Wig.nack ⟨c, 2400, 0, r⟩ b 0 false = ⟨c', 2400, 0, r'⟩ ∧ Wig.NRound v (T + b) ⟨c', 2400, 0, r'⟩ ∧ Wig.Rn.Ok ⟨c', 2400, 0, r'⟩ := by
  have h1 := Wig.nround_ack hv hv2 h hb
  have h2 := Wig.nack_ok ok b 0 false
  obtain ⟨⟨c', t', s', r'⟩, hq⟩ : ∃ q, Wig.nack ⟨c, 2400, 0, r⟩ b 0 false = q := ⟨_, rfl⟩
  rw [hq] at h1 h2
  obtain rfl : t' = 2400 := h1.2.2.1
  obtain rfl : s' = 0 := h1.2.2.2.1
  exact ⟨c', r', hq, h1, h2⟩

set_option maxHeartbeats 4000000 in
theorem walk (n : Nat) (A : Option Addr) (cc : Nat) (xs : List Nat) (hn : n < 4294967296) (hx : ∀ x ∈ xs, x < 65536) (hl : xs.length ≤ cc) (hm : cc ≤ maxLen) (w : World) (hr : RdN .u16 w w.heap.size A xs) :
    Calls Try.prog 7 #[.int .u32 (n : Int), .slice A xs.length cc] w fun e w' => e = .returned (.bool true) ∧ Below w.heap.size w w' := by
  obtain ⟨m, hmx⟩ : ∃ m, m = xs.length := ⟨_, rfl⟩
  rw [← hmx]
  rw [← hmx] at hl
  obtain ⟨q, hq⟩ : ∃ q, q = n % 1000000 := ⟨_, rfl⟩
  obtain ⟨v, hv⟩ : ∃ v, v = q + 2400 := ⟨_, rfl⟩
  obtain ⟨z, hz⟩ : ∃ z, z = v + 1200 := ⟨_, rfl⟩
  have v0 : 2400 ≤ v := by omega
  have v1 : v ≤ 1002399 := by omega
  have C0 := Lib.hid (fun w => awake_any w)
  have CZ := Lib.hid (show ∀ w, Calls Try.prog 11 #[.agg #[.int .u64 (v : Int), .int .u64 2400, .int .u64 0, .int .u64 0], .int .u64 (v : Int), .int .u64 0, .bool false] w fun e w' =>
      e = .returned (.agg #[.int .u64 (z : Int), .int .u64 2400, .int .u64 0, .int .u64 0]) ∧ Below w.heap.size w w' from
    fun w => ack_any v 2400 0 0 v 0 z 2400 0 0 false w ⟨by show v < _; omega, by show 2400 < _; omega, by show 0 < _; omega, by show 0 < _; omega⟩ (by omega) (by omega) (by rw [hz]; exact Wig.nround_once v0 v1))
  have e1 : IntKind.u64.wrap (n : Int) = (n : Int) := by rw [IntKind.wrap_u64]; omega
  have e2 : (n : Int) % 1000000 = (q : Int) := by omega
  have e3 : IntKind.u64.wrap ((q : Int) + 2400) = (v : Int) := by rw [IntKind.wrap_u64]; omega
  have e4 : IntKind.u64.wrap ((v : Int) + 1200) = (z : Int) := by rw [IntKind.wrap_u64]; omega
  have HV := Lib.hid (And.intro v0 (And.intro v1 hz))
  have HX := Lib.hid (And.intro hx (And.intro hmx (And.intro hl hm)))
  have HD := Lib.hid hr
  have okv : Wig.Rn.Ok ⟨v, 2400, 0, 0⟩ := ⟨by show v < _; omega, by show 2400 < _; omega, by show 0 < _; omega, by show 0 < _; omega⟩
  have OKV := Lib.hid okv
  clear hn hx hl hm hr hmx hq hv hz v0 v1 okv
  have B0 := Lib.hid (Below.refl w.heap.size w)
  go_enter Try.func7, Try.ntmps7
  go_wp2_with fail
  refine (C0.out _).mono ?_
  rintro e w1 ⟨rfl, hb⟩
  have B1 := Lib.hid (below_trans' B0.out hb)
  clear hb B0
  go_upto_region 4 with fail
  clear e1 e2 e3
  obtain ⟨w2, hw⟩ : ∃ wx, wx = w1.alloc (.cells #[.int .u64 (v : Int), .int .u64 2400, .int .u64 0, .int .u64 0] 25) := ⟨_, rfl⟩
  rw [← hw]
  obtain ⟨pC, hp⟩ : ∃ px, px = w1.heap.size := ⟨_, rfl⟩
  rw [← hp]
  have hb : Below w1.heap.size w1 w2 := by rw [hw]; exact (Below.refl _ _).alloc (Nat.le_refl _) _
  have hx : BxRn pC v 2400 0 0 w2 := by rw [hp, hw]; exact BxRn.new _ v 2400 0 0
  have hs : pC < w2.heap.size := by rw [hp, hw]; simp
  have GC := Lib.hid (show w.heap.size ≤ pC by rw [hp]; exact B1.out.size)
  have B2 := Lib.hid (below_trans' B1.out hb)
  clear hb B1
  have XC2 := Lib.hid hx
  have SC2 := Lib.hid hs
  clear hx hs hw hp
  have ST := Lib.hid (show RoRel m pC v w (.int .u64 (v : Int)) (.int .i64 0) w2 from ⟨0, 0, v, v, 0, Nat.zero_le _, Nat.zero_le _, rfl, rfl, Nat.zero_add _, Wig.nround_start v, OKV.out, XC2.out, SC2.out, B2.out⟩)
  go_wp2_with fail
  go_loopw [8, 9] (fun l i wr => RoRel m pC v w l i wr) (fun _ i _ => 50 - (intOf i).toNat)
  case atStart => exact ST.out
  case round =>
    obtain ⟨k, T, d, c, r, hk, hk2, rfl, rfl, hT, hro, ok, hbx, hlt, hbel⟩ := hrel
    have XC20 := Lib.hid hbx
    have SC20 := Lib.hid hlt
    have B20 := Lib.hid hbel
    clear XC2 SC2 B2 ST hbx hlt hbel
    by_cases hkm : k < m
    · by_cases hk5 : k < 50
      · have t1 : decide (k < m) = true := decide_eq_true hkm
        have t2 : decide ((k : Int) < 50) = true := decide_eq_true (by omega)
        obtain ⟨p, hp⟩ : ∃ p, xs[k]? = some p := ⟨_, List.getElem?_eq_getElem (by have := HX.out.2.1; omega)⟩
        have pl : p < 65536 := HX.out.1 p (List.mem_of_getElem? hp)
        obtain ⟨bb, off, rfl, _, hc⟩ := (HD.out.below B20.out).at_ hp
        obtain ⟨b, hb⟩ : ∃ b, b = min p d := ⟨_, rfl⟩
        obtain ⟨d1, hd1⟩ : ∃ d1, d1 = d - b := ⟨_, rfl⟩
        obtain ⟨k1, hk1⟩ : ∃ k1, k1 = k + 1 := ⟨_, rfl⟩
        obtain ⟨c', r', hack, hro2, ok2⟩ := round_ack HV.out.1 HV.out.2.1 hro ok (show T + b ≤ v by omega)
        have C2 := Lib.hid (show ∀ w, Calls Try.prog 11 #[.agg #[.int .u64 (c : Int), .int .u64 2400, .int .u64 0, .int .u64 (r : Int)], .int .u64 (b : Int), .int .u64 0, .bool false] w fun e w' =>
            e = .returned (.agg #[.int .u64 (c' : Int), .int .u64 2400, .int .u64 0, .int .u64 (r' : Int)]) ∧ Below w.heap.size w w' from
          fun w => ack_any c 2400 0 r b 0 c' 2400 0 r' false w ok (by omega) (by omega) hack)
        have i0 : (0 : Int) ≤ (k : Int) := by omega
        have i1 : (k : Int) < (m : Int) := by omega
        have q1 : IntKind.u64.wrap (p : Int) = (p : Int) := by rw [IntKind.wrap_u64]; omega
        have q2 : IntKind.u64.wrap ((d : Int) - (b : Int)) = (d1 : Int) := by have := HV.out; rw [IntKind.wrap_u64]; omega
        have q3 : IntKind.i64.wrap ((k : Int) + 1) = (k1 : Int) := by rw [IntKind.wrap_i64] <;> omega
        have m1 : ∀ ts t w, (Builtin.min_ ts t #[.int .u64 (p : Int), .int .u64 (d : Int)]).run Try.prog w = .ok (.int .u64 (b : Int)) w := by
          intro ts t w
          rw [run_min_int2, show (if (d : Int) < (p : Int) then (d : Int) else (p : Int)) = (b : Int) by split <;> omega]
        have HR := Lib.hid (show k1 ≤ m ∧ k1 ≤ 50 ∧ T + b + d1 = v ∧ Wig.NRound v (T + b) ⟨c', 2400, 0, r'⟩ ∧ Wig.Rn.Ok ⟨c', 2400, 0, r'⟩ ∧ 50 - k1 < 50 - k from ⟨by omega, by omega, by omega, hro2, ok2, by omega⟩)
        clear hk hk2 hT hro ok hkm hk5 hp pl hb hd1 hk1 hack hro2 ok2
        obtain ⟨c0, c1, c2, c3, -, -, -, -⟩ := XC20.out
        go_wp2_with fail
        clear hc
        refine (C2.out _).mono ?_
        rintro e w21 ⟨rfl, hb⟩
        have B21 := Lib.hid (below_trans' B20.out hb)
        have XC21 := Lib.hid (XC20.out.below hb SC20.out)
        have SC21 := Lib.hid (Nat.lt_of_lt_of_le SC20.out hb.size)
        clear c0 c1 c2 c3
        clear hb B20 XC20 SC20
        have RZ := Lib.hid (show RoRel m pC v w (.int .u64 (d1 : Int)) (.int .i64 (k1 : Int)) (putRn pC c' 2400 0 r' w21) from ⟨k1, T + b, d1, c', r', HR.out.1, HR.out.2.1, rfl, rfl, HR.out.2.2.1, HR.out.2.2.2.1, HR.out.2.2.2.2.1, XC21.out.put, Nat.lt_of_lt_of_le SC21.out (putRn_below (B := 0) (Nat.zero_le _)).size, B21.out.trans (putRn_below GC.out)⟩)
        obtain ⟨c0, c1, c2, c3, cf0, cf1, cf2, cf3⟩ := XC21.out
        go_wp2_with fail
        go_roundw
        case rel => exact RZ.out
        case measure => have := HR.out; simp [intOf]; omega
      · have t1 : decide (k < m) = true := decide_eq_true hkm
        have t2 : decide ((k : Int) < 50) = false := decide_eq_false (by omega)
        obtain ⟨c', r', hack, hro2, ok2⟩ := round_ack (b := d) HV.out.1 HV.out.2.1 hro ok (by omega)
        have C2 := Lib.hid (show ∀ w, Calls Try.prog 11 #[.agg #[.int .u64 (c : Int), .int .u64 2400, .int .u64 0, .int .u64 (r : Int)], .int .u64 (d : Int), .int .u64 0, .bool false] w fun e w' =>
            e = .returned (.agg #[.int .u64 (c' : Int), .int .u64 2400, .int .u64 0, .int .u64 (r' : Int)]) ∧ Below w.heap.size w w' from
          fun w => ack_any c 2400 0 r d 0 c' 2400 0 r' false w ok (by have := HV.out; omega) (by omega) hack)
        have t3 : decide (c' ≤ z) = true := decide_eq_true (by have h9 : c' ≤ v + 1200 := hro2.2.1; have := HV.out.2.2; omega)
        have t4 : decide (v ≤ c') = true := decide_eq_true hro2.1
        clear hk hk2 hT hro ok hkm hk5 hack hro2 ok2
        obtain ⟨c0, c1, c2, c3, -, -, -, -⟩ := XC20.out
        go_wp2_with fail
        refine (C2.out _).mono ?_
        rintro e w21 ⟨rfl, hb⟩
        have B21 := Lib.hid (below_trans' B20.out hb)
        have XC21 := Lib.hid (XC20.out.below hb SC20.out)
        have SC21 := Lib.hid (Nat.lt_of_lt_of_le SC20.out hb.size)
        clear c0 c1 c2 c3
        clear hb B20 XC20 SC20
        obtain ⟨c0, c1, c2, c3, cf0, cf1, cf2, cf3⟩ := XC21.out
        go_upto_region 12 with fail
        obtain ⟨w22, hw⟩ : ∃ wx, wx = putRn pC c' 2400 0 r' w21 := ⟨_, rfl⟩
        have XC22 := Lib.hid (show BxRn pC c' 2400 0 r' w22 by rw [hw]; exact XC21.out.put)
        have B22 := Lib.hid (show Below w.heap.size w w22 by rw [hw]; exact B21.out.trans (putRn_below GC.out))
        have hz : w21.heap.size ≤ w22.heap.size := by rw [hw]; exact (putRn_below (B := 0) (Nat.zero_le _)).size
        have SC22 := Lib.hid (Nat.lt_of_lt_of_le SC21.out hz)
        rw [show (((w21.setCell ⟨pC, 0, none⟩ (.int .u64 (c' : Int))).setCell ⟨pC, 1, none⟩ (.int .u64 2400)).setCell ⟨pC, 2, none⟩ (.int .u64 0)).setCell ⟨pC, 3, none⟩ (.int .u64 (r' : Int)) = w22 from hw.symm]
        clear c0 c1 c2 c3 cf0 cf1 cf2 cf3
        clear hw hz B21 XC21 SC21
        go_wp2_with fail
        refine (CZ.out _).mono ?_
        rintro e w23 ⟨rfl, hb⟩
        have B23 := Lib.hid (below_trans' B22.out hb)
        have XC23 := Lib.hid (XC22.out.below hb SC22.out)
        have SC23 := Lib.hid (Nat.lt_of_lt_of_le SC22.out hb.size)
        clear hb B22 XC22 SC22
        go_upto_region 13 with fail
        obtain ⟨w24, hw⟩ : ∃ wx, wx = w23.alloc (.cells #[.int .u64 (z : Int), .int .u64 2400, .int .u64 0, .int .u64 0] 25) := ⟨_, rfl⟩
        rw [← hw]
        obtain ⟨pD, hp⟩ : ∃ px, px = w23.heap.size := ⟨_, rfl⟩
        rw [← hp]
        have hb : Below w23.heap.size w23 w24 := by rw [hw]; exact (Below.refl _ _).alloc (Nat.le_refl _) _
        have hx : BxRn pD z 2400 0 0 w24 := by rw [hp, hw]; exact BxRn.new _ z 2400 0 0
        have hs : pD < w24.heap.size := by rw [hp, hw]; simp
        have GD := Lib.hid (show w.heap.size ≤ pD by rw [hp]; exact B23.out.size)
        have OCD := Lib.hid (show pC < pD by rw [hp]; exact SC23.out)
        have B24 := Lib.hid (below_trans' B23.out hb)
        have XC24 := Lib.hid (XC23.out.below hb SC23.out)
        have SC24 := Lib.hid (Nat.lt_of_lt_of_le SC23.out hb.size)
        clear hb B23 XC23 SC23
        have XD24 := Lib.hid hx
        have SD24 := Lib.hid hs
        clear hx hs hw hp
        obtain ⟨c0, c1, c2, c3, -, -, -, -⟩ := XC24.out
        obtain ⟨d0, d1, d2, d3, -, -, -, -⟩ := XD24.out
        go_wp2_with fail
        go_ret
        exact ⟨rfl, B24.out⟩
    · have t1 : decide (k < m) = false := decide_eq_false hkm
      obtain ⟨c', r', hack, hro2, ok2⟩ := round_ack (b := d) HV.out.1 HV.out.2.1 hro ok (by omega)
      have C2 := Lib.hid (show ∀ w, Calls Try.prog 11 #[.agg #[.int .u64 (c : Int), .int .u64 2400, .int .u64 0, .int .u64 (r : Int)], .int .u64 (d : Int), .int .u64 0, .bool false] w fun e w' =>
          e = .returned (.agg #[.int .u64 (c' : Int), .int .u64 2400, .int .u64 0, .int .u64 (r' : Int)]) ∧ Below w.heap.size w w' from
        fun w => ack_any c 2400 0 r d 0 c' 2400 0 r' false w ok (by have := HV.out; omega) (by omega) hack)
      have t3 : decide (c' ≤ z) = true := decide_eq_true (by have h9 : c' ≤ v + 1200 := hro2.2.1; have := HV.out.2.2; omega)
      have t4 : decide (v ≤ c') = true := decide_eq_true hro2.1
      clear hk hk2 hT hro ok hkm  hack hro2 ok2
      obtain ⟨c0, c1, c2, c3, -, -, -, -⟩ := XC20.out
      go_wp2_with fail
      refine (C2.out _).mono ?_
      rintro e w21 ⟨rfl, hb⟩
      have B21 := Lib.hid (below_trans' B20.out hb)
      have XC21 := Lib.hid (XC20.out.below hb SC20.out)
      have SC21 := Lib.hid (Nat.lt_of_lt_of_le SC20.out hb.size)
      clear c0 c1 c2 c3
      clear hb B20 XC20 SC20
      obtain ⟨c0, c1, c2, c3, cf0, cf1, cf2, cf3⟩ := XC21.out
      go_upto_region 12 with fail
      obtain ⟨w22, hw⟩ : ∃ wx, wx = putRn pC c' 2400 0 r' w21 := ⟨_, rfl⟩
      have XC22 := Lib.hid (show BxRn pC c' 2400 0 r' w22 by rw [hw]; exact XC21.out.put)
      have B22 := Lib.hid (show Below w.heap.size w w22 by rw [hw]; exact B21.out.trans (putRn_below GC.out))
      have hz : w21.heap.size ≤ w22.heap.size := by rw [hw]; exact (putRn_below (B := 0) (Nat.zero_le _)).size
      have SC22 := Lib.hid (Nat.lt_of_lt_of_le SC21.out hz)
      rw [show (((w21.setCell ⟨pC, 0, none⟩ (.int .u64 (c' : Int))).setCell ⟨pC, 1, none⟩ (.int .u64 2400)).setCell ⟨pC, 2, none⟩ (.int .u64 0)).setCell ⟨pC, 3, none⟩ (.int .u64 (r' : Int)) = w22 from hw.symm]
      clear c0 c1 c2 c3 cf0 cf1 cf2 cf3
      clear hw hz B21 XC21 SC21
      go_wp2_with fail
      refine (CZ.out _).mono ?_
      rintro e w23 ⟨rfl, hb⟩
      have B23 := Lib.hid (below_trans' B22.out hb)
      have XC23 := Lib.hid (XC22.out.below hb SC22.out)
      have SC23 := Lib.hid (Nat.lt_of_lt_of_le SC22.out hb.size)
      clear hb B22 XC22 SC22
      go_upto_region 13 with fail
      obtain ⟨w24, hw⟩ : ∃ wx, wx = w23.alloc (.cells #[.int .u64 (z : Int), .int .u64 2400, .int .u64 0, .int .u64 0] 25) := ⟨_, rfl⟩
      rw [← hw]
      obtain ⟨pD, hp⟩ : ∃ px, px = w23.heap.size := ⟨_, rfl⟩
      rw [← hp]
      have hb : Below w23.heap.size w23 w24 := by rw [hw]; exact (Below.refl _ _).alloc (Nat.le_refl _) _
      have hx : BxRn pD z 2400 0 0 w24 := by rw [hp, hw]; exact BxRn.new _ z 2400 0 0
      have hs : pD < w24.heap.size := by rw [hp, hw]; simp
      have GD := Lib.hid (show w.heap.size ≤ pD by rw [hp]; exact B23.out.size)
      have OCD := Lib.hid (show pC < pD by rw [hp]; exact SC23.out)
      have B24 := Lib.hid (below_trans' B23.out hb)
      have XC24 := Lib.hid (XC23.out.below hb SC23.out)
      have SC24 := Lib.hid (Nat.lt_of_lt_of_le SC23.out hb.size)
      clear hb B23 XC23 SC23
      have XD24 := Lib.hid hx
      have SD24 := Lib.hid hs
      clear hx hs hw hp
      obtain ⟨c0, c1, c2, c3, -, -, -, -⟩ := XC24.out
      obtain ⟨d0, d1, d2, d3, -, -, -, -⟩ := XD24.out
      go_wp2_with fail
      go_ret
      exact ⟨rfl, B24.out⟩

set_option maxRecDepth 100000 in
theorem lifted (os : Os) (started : os.Started) (H : Type) (enc : TypeId × Value → H) :
    ReturnsInHanded {} Try.checked os 7 .any (Rows.renoRoundSpec.pre6 enc Try.prog Try.f7 Rows.renoRoundRow.domain false) (Rows.renoRoundSpec.post enc Try.prog Try.f7 false true false false) := by
  refine returnsInHanded_of_change (C := Try.checked) own started (by kernel_rfl) Try.func7
    (ChangeSpec.witness6 (enc := enc) (C := Try.checked) false ⟨#[], #[.int .u32 0, .slice none 0 0], []⟩ 8 (by kernel_rfl) (by kernel_rfl) (by kernel_rfl) (by kernel_rfl)) ?_
  intro W base args ds gs before hval0 hW hcnd _
  have hval : ∀ (j : Nat) t v, Try.f7.params[j]? = some t → args[j]? = some v → Value.okWide Try.prog W .any base t v := hval0
  have hW' := hW
  obtain ⟨p, q, hA0, hV, rfl, hfz, hnd⟩ := hW
  have hA : DataW.TrodAll enc Try.prog W 0 (fun _ => true) true Try.f7.params.toList args.toList ds p := hA0
  obtain ⟨rfl, rfl⟩ := trodVars_none hV
  simp only [List.append_nil] at hW'
  have hlow : ∀ x ∈ p, x.block < W.heap.size := fun x hx => hW'.lt x hx
  have hA2 := hA
  rw [Try.params7] at hval hA2
  obtain ⟨v0, vs0, d0, ds0, p0, q0, hargs, rfl, rfl, h0, r0⟩ := trodAll_cons hA2
  obtain ⟨v1, vs1, d1, ds1, p1, q1, rfl, rfl, rfl, h1, r1⟩ := trodAll_cons r0
  obtain ⟨rfl, rfl, rfl⟩ := trodAll_nil r1
  obtain rfl : args = #[v0, v1] := by cases args; simp_all
  obtain ⟨n0, rfl, hn0⟩ := open_u32 Try.underlying36 (hval 0 36 v0 rfl rfl) h0
  obtain ⟨A1, c1, xs1, rfl, hx1, hr1, hl1, hm1⟩ := open_row 65536 Try.underlying38 Try.underlying39 (by kernel_rfl) (by intro x h; simp [Lit.wf, IntKind.min, IntKind.max, IntKind.signed, IntKind.bits] at h; omega) (hval 1 38 v1 rfl rfl) h1 (fun x hx => hlow x (by simp [hx]))
  refine (walk n0 A1 c1 xs1 hn0 hx1 hl1 hm1 W hr1).mono fun e W' ⟨he, hg⟩ => ?_
  subst he
  exact ⟨_, rfl, law_true laid_out (by kernel_rfl) rfl Try.underlying4 (by kernel_rfl) hW' hA rfl rfl rfl hg⟩

theorem over : Rows.renoRoundRow.holds Try.pinned (OpenSpec.ofChange Rows.renoRoundSpec) :=
  OpenClaim.holds_of_wide 7 Try.f7 rfl rfl rfl rfl rfl rfl rfl ⟨rfl, rfl, rfl, rfl, rfl⟩ rfl rfl rfl rfl rfl (by kernel_rfl) Try.func7 (by kernel_rfl)
    (of_decide_eq_true (by kernel_rfl)) (by unfold Func.isWrapper; first | (rw [if_pos (by decide +kernel)]; kernel_rfl) | (rw [if_neg (by decide +kernel)]; exact ⟨rfl, rfl⟩))
    (fun os started H enc _ => lifted os started H enc)

/-- The statement. -/
theorem proved : Rows.RenoRoundSaid := over
end Go.Proofs.Ytfifhllckhdkfaa.renoRound
