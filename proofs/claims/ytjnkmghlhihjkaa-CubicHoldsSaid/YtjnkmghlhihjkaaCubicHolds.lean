/-
  CubicHolds: a window that began as it should stays within the least and the greatest, whatever comes; bytes that come never let it fall, nor losses rise; at most two hundred events. No condition.
-/
import Derived.Test.YtjnkmghlhihjkaaCbW
import Derived.Test.YtjnkmghlhihjkaaOpen
import Derived.Test.YtjnkmghlhihjkaaEv12
import Derived.Test.YtjnkmghlhihjkaaRgn
import Derived.Deep.CutBlock
import Derived.Deep.DeepCutAuto
namespace Go.Proofs.Ytjnkmghlhihjkaa.cubicHolds
open Go.ChangeShapes Go.WideShapes Go.ChangeAt Go.RowKit Go.Deep
set_option linter.unusedVariables false

/-- At a round's head: what lies in the box. -/
def HoRel (m p : Nat) (w : World) (i : Value) (wr : World) : Prop :=
  ∃ (k c t s : Nat) (h : Bool) (e mo q es : Nat), k ≤ m ∧ k ≤ 200 ∧ i = .int .i64 (k : Int) ∧ Wig.CFine ⟨c, t, s, h, e, mo, q, es⟩ ∧ Wig.Cb.Ok ⟨c, t, s, h, e, mo, q, es⟩ ∧ BxCu p c t s h e mo q es wr ∧ p < wr.heap.size ∧ Below w.heap.size w wr
theorem holds_ack {c t s : Nat} {h : Bool} {e mo q es b a n tk : Nat} {l : Bool} (hf : Wig.CFine ⟨c, t, s, h, e, mo, q, es⟩) (ok : Wig.Cb.Ok ⟨c, t, s, h, e, mo, q, es⟩) (hn : n < 18446744073709551616) :
    ∃ c' h' e' mo' q' es', Wig.cack ⟨c, t, s, h, e, mo, q, es⟩ b a n tk l = ⟨c', t, s, h', e', mo', q', es'⟩ ∧ Wig.CFine ⟨c', t, s, h', e', mo', q', es'⟩ ∧ Wig.Cb.Ok ⟨c', t, s, h', e', mo', q', es'⟩ ∧ c ≤ c' := by
  obtain ⟨h1, h2, h3, h4⟩ := Wig.cfine_ack hf b a n tk l
  have h5 := Wig.cack_ok (b := b) (a := a) (t := tk) (l := l) ok hn
  obtain ⟨⟨c', t', s', h', e', mo', q', es'⟩, hq⟩ : ∃ q0, Wig.cack ⟨c, t, s, h, e, mo, q, es⟩ b a n tk l = q0 := ⟨_, rfl⟩
  rw [hq] at h1 h2 h3 h4 h5
  simp only at h2 h3 h4
  subst h3 h4
  exact ⟨c', h', e', mo', q', es', hq, h1, h5, h2⟩
theorem holds_loss {c t s : Nat} {h : Bool} {e mo q es a n : Nat} (hf : Wig.CFine ⟨c, t, s, h, e, mo, q, es⟩) (ok : Wig.Cb.Ok ⟨c, t, s, h, e, mo, q, es⟩) :
    ∃ c' t' s' h' e' mo' q' es', Wig.closs ⟨c, t, s, h, e, mo, q, es⟩ a n = ⟨c', t', s', h', e', mo', q', es'⟩ ∧ Wig.CFine ⟨c', t', s', h', e', mo', q', es'⟩ ∧ Wig.Cb.Ok ⟨c', t', s', h', e', mo', q', es'⟩ ∧ c' ≤ c := by
  obtain ⟨h1, h2⟩ := Wig.cfine_loss hf a n
  have h5 := Wig.closs_ok (a := a) (n := n) ok
  obtain ⟨⟨c', t', s', h', e', mo', q', es'⟩, hq⟩ : ∃ q0, Wig.closs ⟨c, t, s, h, e, mo, q, es⟩ a n = q0 := ⟨_, rfl⟩
  rw [hq] at h1 h2 h5
  exact ⟨c', t', s', h', e', mo', q', es', hq, h1, h5, h2⟩

set_option maxRecDepth 20000 in
set_option maxHeartbeats 8000000 in
theorem walk (A : Option Addr) (cc : Nat) (ss : List Wig.Ev) (hf : ∀ x ∈ ss, Wig.Ev.Ok x) (hl : ss.length ≤ maxLen) (hm : ss.length ≤ cc) (w : World) (hr : RdEv w w.heap.size A ss) :
    Calls Try.prog 4 #[.slice A ss.length cc] w fun e w' => e = .returned (.bool true) ∧ Below w.heap.size w w' := by
  obtain ⟨m, hmx⟩ : ∃ m, m = ss.length := ⟨_, rfl⟩
  rw [← hmx]
  rw [← hmx] at hl hm
  have C0 := Lib.hid (fun w => awake_any w)
  have CN := Lib.hid (fun w => new_any w)
  have HX := Lib.hid (And.intro hf (And.intro hmx (And.intro hl hm)))
  have HD := Lib.hid hr
  clear hf hl hm hr hmx
  have B0 := Lib.hid (Below.refl w.heap.size w)
  go_enter Try.func4, Try.ntmps4
  go_wp2_with fail
  refine (C0.out _).mono ?_
  rintro e w1 ⟨rfl, hb⟩
  have B1 := Lib.hid (below_trans' B0.out hb)
  clear hb B0
  go_wp2_with fail
  refine (CN.out _).mono ?_
  rintro e w2 ⟨rfl, hb⟩
  have B2 := Lib.hid (below_trans' B1.out hb)
  clear hb B1
  go_upto_region 3 with fail
  obtain ⟨w3, hw⟩ : ∃ wx, wx = w2.alloc (.cells #[.int .u64 12000, .int .u64 16777216, .int .u64 0, .bool false, .int .u64 0, .int .u64 0, .int .u64 0, .int .u64 0] 24) := ⟨_, rfl⟩
  rw [← hw]
  obtain ⟨pC, hp⟩ : ∃ px, px = w2.heap.size := ⟨_, rfl⟩
  rw [← hp]
  have hb : Below w2.heap.size w2 w3 := by rw [hw]; exact (Below.refl _ _).alloc (Nat.le_refl _) _
  have hx : BxCu pC 12000 16777216 0 false 0 0 0 0 w3 := by rw [hp, hw]; exact BxCu.new _ 12000 16777216 0 false 0 0 0 0
  have hs : pC < w3.heap.size := by rw [hp, hw]; simp
  have GC := Lib.hid (show w.heap.size ≤ pC by rw [hp]; exact B2.out.size)
  have B3 := Lib.hid (below_trans' B2.out hb)
  clear hb B2
  have XC3 := Lib.hid hx
  have SC3 := Lib.hid hs
  clear hx hs hw hp
  have ST := Lib.hid (show HoRel m pC w (.int .i64 0) w3 from ⟨0, 12000, 16777216, 0, false, 0, 0, 0, 0, Nat.zero_le _, Nat.zero_le _, rfl, Wig.cfine_new, Wig.cnew_ok, XC3.out, SC3.out, B3.out⟩)
  go_wp2_with fail
  go_loopw [5] (fun i wr => HoRel m pC w i wr) (fun i _ => 200 - (intOf i).toNat)
  case atStart => exact ST.out
  case round =>
    obtain ⟨k, c, t, s, h, e, mo, q, es, hk, hk2, rfl, hfine, ok, hbx, hlt, hbel⟩ := hrel
    have XC20 := Lib.hid hbx
    have SC20 := Lib.hid hlt
    have B20 := Lib.hid hbel
    clear XC3 SC3 B3 ST hbx hlt hbel
    by_cases hkm : k < m
    · by_cases hk5 : k < 200
      · have t1 : decide (k < m) = true := decide_eq_true hkm
        have t2 : decide ((k : Int) < 200) = true := decide_eq_true (by omega)
        obtain ⟨⟨kd, by_, at_, now, took, lim⟩, hp⟩ : ∃ p, ss[k]? = some p := ⟨_, List.getElem?_eq_getElem (by have := HX.out.2.1; omega)⟩
        have eo := HX.out.1 _ (List.mem_of_getElem? hp)
        obtain ⟨bb, off, rfl, hbb, c0, c1, c2, c3, c4, c5⟩ := HD.out.at_ hp
        unfold Wig.Ev.Ok at eo
        simp only [] at c0 c1 c2 c3 c4 c5 eo
        have E0 := Lib.hid c0
        have HBB0 := Lib.hid (show (⟨bb, off + k * 6, none⟩ : Addr).block < w.heap.size from hbb)
        have E1 := Lib.hid c1
        have HBB1 := Lib.hid (show (⟨bb, off + k * 6 + 1, none⟩ : Addr).block < w.heap.size from hbb)
        have E2 := Lib.hid c2
        have HBB2 := Lib.hid (show (⟨bb, off + k * 6 + 2, none⟩ : Addr).block < w.heap.size from hbb)
        have E3 := Lib.hid c3
        have HBB3 := Lib.hid (show (⟨bb, off + k * 6 + 3, none⟩ : Addr).block < w.heap.size from hbb)
        have E4 := Lib.hid c4
        have HBB4 := Lib.hid (show (⟨bb, off + k * 6 + 4, none⟩ : Addr).block < w.heap.size from hbb)
        have E5 := Lib.hid c5
        have HBB5 := Lib.hid (show (⟨bb, off + k * 6 + 5, none⟩ : Addr).block < w.heap.size from hbb)
        obtain ⟨k1, hk1'⟩ : ∃ k1, k1 = k + 1 := ⟨_, rfl⟩
        have i0 : (0 : Int) ≤ (k : Int) := by omega
        have i1 : (k : Int) < (m : Int) := by omega
        have q3 : IntKind.i64.wrap ((k : Int) + 1) = (k1 : Int) := by rw [IntKind.wrap_i64] <;> omega
        have HR := Lib.hid (show k1 ≤ m ∧ k1 ≤ 200 ∧ 200 - k1 < 200 - k from ⟨by omega, by omega, by omega⟩)
        clear hk hk2 hkm hk5 hp c0 c1 c2 c3 c4 c5 hbb hk1'
        by_cases hk1 : kd = 1
        · subst hk1
          obtain ⟨c', h', e', mo', q', es', hack, hfine2, ok2, hup⟩ := holds_ack (b := by_) (a := at_) (n := now) (tk := took) (l := lim) hfine ok eo.2.2.2.2.1
          have C2 := Lib.hid (fun w => ack_any c t s h e mo q es by_ at_ now took c' t s h' lim e' mo' q' es' w ok eo.2.2.1 eo.2.2.2.1 eo.2.2.2.2.1 eo.2.2.2.2.2 hack)
          have t3 : decide (c' < c) = false := decide_eq_false (by omega)
          have t4 : ((t : Int) != (t : Int)) = false := by simp
          have t5 : ((s : Int) != (s : Int)) = false := by simp
          obtain ⟨g0, g1, g2, g3⟩ := hfine2
          simp only at g0 g1 g2 g3
          have u0 : decide ((c' : Int) < 2400) = false := decide_eq_false (by omega)
          have u1 : decide ((16777216 : Int) < (c' : Int)) = false := decide_eq_false (by omega)
          have u2 : decide ((t : Int) < 2400) = false := decide_eq_false (by omega)
          have u3 : decide ((16777216 : Int) < (t : Int)) = false := decide_eq_false (by omega)
          have HF := Lib.hid (show Wig.CFine ⟨c', t, s, h', e', mo', q', es'⟩ ∧ Wig.Cb.Ok ⟨c', t, s, h', e', mo', q', es'⟩ from ⟨⟨g0, g1, g2, g3⟩, ok2⟩)
          clear g0 g1 g2 g3 ok2 eo hack hup hfine ok 
          have c00 := (B20.out.cell HBB0.out).trans E0.out
          obtain ⟨c0, c1, c2, c3, c4, c5, c6, c7, -, -, -, -, -, -, -, -⟩ := XC20.out
          go_upto_region 7 with fail
          clear c00
          obtain ⟨w21, hw⟩ : ∃ wx, wx = wr.alloc (.cells #[.int .u64 (c : Int), .int .u64 (t : Int), .int .u64 (s : Int), .bool h, .int .u64 (e : Int), .int .u64 (mo : Int), .int .u64 (q : Int), .int .u64 (es : Int)] 24) := ⟨_, rfl⟩
          rw [← hw]
          obtain ⟨pV, hp⟩ : ∃ px, px = wr.heap.size := ⟨_, rfl⟩
          rw [← hp]
          have hb : Below wr.heap.size wr w21 := by rw [hw]; exact (Below.refl _ _).alloc (Nat.le_refl _) _
          have hx : BxCu pV c t s h e mo q es w21 := by rw [hp, hw]; exact BxCu.new _ c t s h e mo q es
          have hs : pV < w21.heap.size := by rw [hp, hw]; simp
          have GV := Lib.hid (show w.heap.size ≤ pV by rw [hp]; exact B20.out.size)
          have OCV := Lib.hid (show pC < pV by rw [hp]; exact SC20.out)
          have B21 := Lib.hid (below_trans' B20.out hb)
          have XC21 := Lib.hid (XC20.out.below hb SC20.out)
          have SC21 := Lib.hid (Nat.lt_of_lt_of_le SC20.out hb.size)
          clear c0 c1 c2 c3 c4 c5 c6 c7
          clear hb B20 XC20 SC20
          have XV21 := Lib.hid hx
          have SV21 := Lib.hid hs
          clear hx hs hw hp
          have c00 := (B21.out.cell HBB0.out).trans E0.out
          go_upto_region 9 with fail
          clear c00
          obtain ⟨c0, c1, c2, c3, c4, c5, c6, c7, -, -, -, -, -, -, -, -⟩ := XC21.out
          refine wp_region_held_drew (S := fun wx => wx.cell? ⟨bb, off + k * 6 + 1, none⟩ = some (.int .u64 (by_ : Int)) ∧ wx.cell? ⟨bb, off + k * 6 + 2, none⟩ = some (.int .u64 (at_ : Int)) ∧ wx.cell? ⟨bb, off + k * 6 + 3, none⟩ = some (.int .u64 (now : Int)) ∧ wx.cell? ⟨bb, off + k * 6 + 4, none⟩ = some (.int .u64 (took : Int)) ∧ wx.cell? ⟨bb, off + k * 6 + 5, none⟩ = some (.bool lim)) (by kernel_rfl) ?_ (fun hHeld => ?_)
          · exact ⟨(B21.out.drew.cell HBB1.out).trans E1.out, (B21.out.drew.cell HBB2.out).trans E2.out, (B21.out.drew.cell HBB3.out).trans E3.out, (B21.out.drew.cell HBB4.out).trans E4.out, (B21.out.drew.cell HBB5.out).trans E5.out⟩
          refine held_take (v := ?vv101) 1 rfl (by kernel_rfl) (by kernel_rfl) (by kernel_rfl) (fun _ _ _ h => h) (by rfl) ?yy101 (by assumption) ?nn101
          case yy101 =>
            intro w hSw
            (try dsimp only at hSw)
            go_simp
            try with_reducible rfl
          try simp only [Act.put, List.setIfInBounds_toArray, List.set_cons_zero, List.set_cons_succ]
          refine held_take (v := ?vv102) 2 rfl (by kernel_rfl) (by kernel_rfl) (by kernel_rfl) (fun _ _ _ h => h) (by rfl) ?yy102 (by assumption) ?nn102
          case yy102 =>
            intro w hSw
            (try dsimp only at hSw)
            go_simp
            try with_reducible rfl
          try simp only [Act.put, List.setIfInBounds_toArray, List.set_cons_zero, List.set_cons_succ]
          refine held_take (v := ?vv103) 3 rfl (by kernel_rfl) (by kernel_rfl) (by kernel_rfl) (fun _ _ _ h => h) (by rfl) ?yy103 (by assumption) ?nn103
          case yy103 =>
            intro w hSw
            (try dsimp only at hSw)
            go_simp
            try with_reducible rfl
          try simp only [Act.put, List.setIfInBounds_toArray, List.set_cons_zero, List.set_cons_succ]
          refine held_take (v := ?vv104) 4 rfl (by kernel_rfl) (by kernel_rfl) (by kernel_rfl) (fun _ _ _ h => h) (by rfl) ?yy104 (by assumption) ?nn104
          case yy104 =>
            intro w hSw
            (try dsimp only at hSw)
            go_simp
            try with_reducible rfl
          try simp only [Act.put, List.setIfInBounds_toArray, List.set_cons_zero, List.set_cons_succ]
          refine held_take (v := .int .u64 (by_ : Int)) 5 rfl (by kernel_rfl) (by kernel_rfl) (by kernel_rfl) (fun _ _ _ h => h) (by rfl) (fun wx hSw => by have a0 := hSw.1; clear hSw; (try dsimp only at a0); go_simp) (by assumption) ?_
          try simp only [Act.put, List.setIfInBounds_toArray, List.set_cons_zero, List.set_cons_succ]
          refine held_take (v := ?vv106) 6 rfl (by kernel_rfl) (by kernel_rfl) (by kernel_rfl) (fun _ _ _ h => h) (by rfl) ?yy106 (by assumption) ?nn106
          case yy106 =>
            intro w hSw
            (try dsimp only at hSw)
            go_simp
            try with_reducible rfl
          try simp only [Act.put, List.setIfInBounds_toArray, List.set_cons_zero, List.set_cons_succ]
          refine held_take (v := ?vv107) 7 rfl (by kernel_rfl) (by kernel_rfl) (by kernel_rfl) (fun _ _ _ h => h) (by rfl) ?yy107 (by assumption) ?nn107
          case yy107 =>
            intro w hSw
            (try dsimp only at hSw)
            go_simp
            try with_reducible rfl
          try simp only [Act.put, List.setIfInBounds_toArray, List.set_cons_zero, List.set_cons_succ]
          refine held_take (v := ?vv108) 8 rfl (by kernel_rfl) (by kernel_rfl) (by kernel_rfl) (fun _ _ _ h => h) (by rfl) ?yy108 (by assumption) ?nn108
          case yy108 =>
            intro w hSw
            (try dsimp only at hSw)
            go_simp
            try with_reducible rfl
          try simp only [Act.put, List.setIfInBounds_toArray, List.set_cons_zero, List.set_cons_succ]
          refine held_take (v := ?vv109) 9 rfl (by kernel_rfl) (by kernel_rfl) (by kernel_rfl) (fun _ _ _ h => h) (by rfl) ?yy109 (by assumption) ?nn109
          case yy109 =>
            intro w hSw
            (try dsimp only at hSw)
            go_simp
            try with_reducible rfl
          try simp only [Act.put, List.setIfInBounds_toArray, List.set_cons_zero, List.set_cons_succ]
          refine held_take (v := .int .u64 (at_ : Int)) 10 rfl (by kernel_rfl) (by kernel_rfl) (by kernel_rfl) (fun _ _ _ h => h) (by rfl) (fun wx hSw => by have a0 := hSw.2.1; clear hSw; (try dsimp only at a0); go_simp) (by assumption) ?_
          try simp only [Act.put, List.setIfInBounds_toArray, List.set_cons_zero, List.set_cons_succ]
          refine held_take (v := ?vv111) 11 rfl (by kernel_rfl) (by kernel_rfl) (by kernel_rfl) (fun _ _ _ h => h) (by rfl) ?yy111 (by assumption) ?nn111
          case yy111 =>
            intro w hSw
            (try dsimp only at hSw)
            go_simp
            try with_reducible rfl
          try simp only [Act.put, List.setIfInBounds_toArray, List.set_cons_zero, List.set_cons_succ]
          refine held_take (v := ?vv112) 12 rfl (by kernel_rfl) (by kernel_rfl) (by kernel_rfl) (fun _ _ _ h => h) (by rfl) ?yy112 (by assumption) ?nn112
          case yy112 =>
            intro w hSw
            (try dsimp only at hSw)
            go_simp
            try with_reducible rfl
          try simp only [Act.put, List.setIfInBounds_toArray, List.set_cons_zero, List.set_cons_succ]
          refine held_take (v := ?vv113) 13 rfl (by kernel_rfl) (by kernel_rfl) (by kernel_rfl) (fun _ _ _ h => h) (by rfl) ?yy113 (by assumption) ?nn113
          case yy113 =>
            intro w hSw
            (try dsimp only at hSw)
            go_simp
            try with_reducible rfl
          try simp only [Act.put, List.setIfInBounds_toArray, List.set_cons_zero, List.set_cons_succ]
          refine held_take (v := ?vv114) 14 rfl (by kernel_rfl) (by kernel_rfl) (by kernel_rfl) (fun _ _ _ h => h) (by rfl) ?yy114 (by assumption) ?nn114
          case yy114 =>
            intro w hSw
            (try dsimp only at hSw)
            go_simp
            try with_reducible rfl
          try simp only [Act.put, List.setIfInBounds_toArray, List.set_cons_zero, List.set_cons_succ]
          refine held_take (v := .int .u64 (now : Int)) 15 rfl (by kernel_rfl) (by kernel_rfl) (by kernel_rfl) (fun _ _ _ h => h) (by rfl) (fun wx hSw => by have a0 := hSw.2.2.1; clear hSw; (try dsimp only at a0); go_simp) (by assumption) ?_
          try simp only [Act.put, List.setIfInBounds_toArray, List.set_cons_zero, List.set_cons_succ]
          refine held_take (v := ?vv116) 16 rfl (by kernel_rfl) (by kernel_rfl) (by kernel_rfl) (fun _ _ _ h => h) (by rfl) ?yy116 (by assumption) ?nn116
          case yy116 =>
            intro w hSw
            (try dsimp only at hSw)
            go_simp
            try with_reducible rfl
          try simp only [Act.put, List.setIfInBounds_toArray, List.set_cons_zero, List.set_cons_succ]
          refine held_take (v := ?vv117) 17 rfl (by kernel_rfl) (by kernel_rfl) (by kernel_rfl) (fun _ _ _ h => h) (by rfl) ?yy117 (by assumption) ?nn117
          case yy117 =>
            intro w hSw
            (try dsimp only at hSw)
            go_simp
            try with_reducible rfl
          try simp only [Act.put, List.setIfInBounds_toArray, List.set_cons_zero, List.set_cons_succ]
          refine held_take (v := ?vv118) 18 rfl (by kernel_rfl) (by kernel_rfl) (by kernel_rfl) (fun _ _ _ h => h) (by rfl) ?yy118 (by assumption) ?nn118
          case yy118 =>
            intro w hSw
            (try dsimp only at hSw)
            go_simp
            try with_reducible rfl
          try simp only [Act.put, List.setIfInBounds_toArray, List.set_cons_zero, List.set_cons_succ]
          refine held_take (v := ?vv119) 19 rfl (by kernel_rfl) (by kernel_rfl) (by kernel_rfl) (fun _ _ _ h => h) (by rfl) ?yy119 (by assumption) ?nn119
          case yy119 =>
            intro w hSw
            (try dsimp only at hSw)
            go_simp
            try with_reducible rfl
          try simp only [Act.put, List.setIfInBounds_toArray, List.set_cons_zero, List.set_cons_succ]
          refine held_take (v := .int .u64 (took : Int)) 20 rfl (by kernel_rfl) (by kernel_rfl) (by kernel_rfl) (fun _ _ _ h => h) (by rfl) (fun wx hSw => by have a0 := hSw.2.2.2.1; clear hSw; (try dsimp only at a0); go_simp) (by assumption) ?_
          try simp only [Act.put, List.setIfInBounds_toArray, List.set_cons_zero, List.set_cons_succ]
          refine held_take (v := ?vv121) 21 rfl (by kernel_rfl) (by kernel_rfl) (by kernel_rfl) (fun _ _ _ h => h) (by rfl) ?yy121 (by assumption) ?nn121
          case yy121 =>
            intro w hSw
            (try dsimp only at hSw)
            go_simp
            try with_reducible rfl
          try simp only [Act.put, List.setIfInBounds_toArray, List.set_cons_zero, List.set_cons_succ]
          refine held_take (v := ?vv122) 22 rfl (by kernel_rfl) (by kernel_rfl) (by kernel_rfl) (fun _ _ _ h => h) (by rfl) ?yy122 (by assumption) ?nn122
          case yy122 =>
            intro w hSw
            (try dsimp only at hSw)
            go_simp
            try with_reducible rfl
          try simp only [Act.put, List.setIfInBounds_toArray, List.set_cons_zero, List.set_cons_succ]
          refine held_take (v := ?vv123) 23 rfl (by kernel_rfl) (by kernel_rfl) (by kernel_rfl) (fun _ _ _ h => h) (by rfl) ?yy123 (by assumption) ?nn123
          case yy123 =>
            intro w hSw
            (try dsimp only at hSw)
            go_simp
            try with_reducible rfl
          try simp only [Act.put, List.setIfInBounds_toArray, List.set_cons_zero, List.set_cons_succ]
          refine held_take (v := ?vv124) 24 rfl (by kernel_rfl) (by kernel_rfl) (by kernel_rfl) (fun _ _ _ h => h) (by rfl) ?yy124 (by assumption) ?nn124
          case yy124 =>
            intro w hSw
            (try dsimp only at hSw)
            go_simp
            try with_reducible rfl
          try simp only [Act.put, List.setIfInBounds_toArray, List.set_cons_zero, List.set_cons_succ]
          refine held_take (v := .bool lim) 25 rfl (by kernel_rfl) (by kernel_rfl) (by kernel_rfl) (fun _ _ _ h => h) (by rfl) (fun wx hSw => by have a0 := hSw.2.2.2.2; clear hSw; (try dsimp only at a0); go_simp) (by assumption) ?_
          try simp only [Act.put, List.setIfInBounds_toArray, List.set_cons_zero, List.set_cons_succ]
          refine held_do 0 rfl (by kernel_rfl) (by rfl) (fun K hK => ?_)
          go_wp2_with fail
          refine hK.out _ _ ?_ (fun hHeld => ?_)
          · exact ⟨(B21.out.drew.cell HBB1.out).trans E1.out, (B21.out.drew.cell HBB2.out).trans E2.out, (B21.out.drew.cell HBB3.out).trans E3.out, (B21.out.drew.cell HBB4.out).trans E4.out, (B21.out.drew.cell HBB5.out).trans E5.out⟩
          clear hK K
          try simp only [Act.put, List.setIfInBounds_toArray, List.set_cons_zero, List.set_cons_succ]
          refine held_do 26 rfl (by kernel_rfl) (by rfl) (fun K hK => ?_)
          go_wp2_with (go_at_call 9; refine (C2.out _).mono ?_; rintro e w22 ⟨rfl, hb22⟩; have HB := Lib.hid hb22; clear hb22)
          refine hK.out _ _ ?_ (fun hHeld => ?_)
          · exact ⟨((below_trans' B21.out.drew HB.out).cell HBB1.out).trans E1.out, ((below_trans' B21.out.drew HB.out).cell HBB2.out).trans E2.out, ((below_trans' B21.out.drew HB.out).cell HBB3.out).trans E3.out, ((below_trans' B21.out.drew HB.out).cell HBB4.out).trans E4.out, ((below_trans' B21.out.drew HB.out).cell HBB5.out).trans E5.out⟩
          clear hK K
          try simp only [Act.put, List.setIfInBounds_toArray, List.set_cons_zero, List.set_cons_succ]
          have B22 := Lib.hid (below_trans' B21.out.drew HB.out)
          have XC22 := Lib.hid (XC21.out.drew.below HB.out SC21.out)
          have SC22 := Lib.hid (Nat.lt_of_lt_of_le SC21.out HB.out.size)
          have XV22 := Lib.hid (XV21.out.drew.below HB.out SV21.out)
          have SV22 := Lib.hid (Nat.lt_of_lt_of_le SV21.out HB.out.size)
          clear c0 c1 c2 c3 c4 c5 c6 c7
          clear HB B21 XC21 SC21 XV21 SV21
          obtain ⟨c0, c1, c2, c3, c4, c5, c6, c7, cf0, cf1, cf2, cf3, cf4, cf5, cf6, cf7⟩ := XC22.out
          refine held_do 27 rfl (by kernel_rfl) (by rfl) (fun K hK => ?_)
          go_wp2_with fail
          refine hK.out _ _ ?_ (fun hHeld => ?_)
          · exact ⟨((B22.out.trans (putCu_below (p := pC) GC.out)).cell HBB1.out).trans E1.out, ((B22.out.trans (putCu_below (p := pC) GC.out)).cell HBB2.out).trans E2.out, ((B22.out.trans (putCu_below (p := pC) GC.out)).cell HBB3.out).trans E3.out, ((B22.out.trans (putCu_below (p := pC) GC.out)).cell HBB4.out).trans E4.out, ((B22.out.trans (putCu_below (p := pC) GC.out)).cell HBB5.out).trans E5.out⟩
          clear hK K
          try simp only [Act.put, List.setIfInBounds_toArray, List.set_cons_zero, List.set_cons_succ]
          refine wpAnyH_done (by kernel_rfl) ?_ _
          clear hHeld
          obtain ⟨w23, hw⟩ : ∃ wx, wx = putCu pC c' t s h' e' mo' q' es' w22 := ⟨_, rfl⟩
          have XC23 := Lib.hid (show BxCu pC c' t s h' e' mo' q' es' w23 by rw [hw]; exact XC22.out.put)
          have B23 := Lib.hid (show Below w.heap.size w w23 by rw [hw]; exact B22.out.trans (putCu_below GC.out))
          have hz : w22.heap.size ≤ w23.heap.size := by rw [hw]; exact (putCu_below (B := 0) (Nat.zero_le _)).size
          have SC23 := Lib.hid (Nat.lt_of_lt_of_le SC22.out hz)
          have XV23 := Lib.hid (show BxCu pV c t s h e mo q es w23 by rw [hw]; unfold putCu; exact ((((((((XV22.out.other rfl (Nat.ne_of_lt OCV.out)).other rfl (Nat.ne_of_lt OCV.out)).other rfl (Nat.ne_of_lt OCV.out)).other rfl (Nat.ne_of_lt OCV.out)).other rfl (Nat.ne_of_lt OCV.out)).other rfl (Nat.ne_of_lt OCV.out)).other rfl (Nat.ne_of_lt OCV.out)).other rfl (Nat.ne_of_lt OCV.out)))
          have SV23 := Lib.hid (Nat.lt_of_lt_of_le SV22.out hz)
          rw [show (((((((w22.setCell ⟨pC, 0, none⟩ (.int .u64 (c' : Int))).setCell ⟨pC, 1, none⟩ (.int .u64 (t : Int))).setCell ⟨pC, 2, none⟩ (.int .u64 (s : Int))).setCell ⟨pC, 3, none⟩ (.bool h')).setCell ⟨pC, 4, none⟩ (.int .u64 (e' : Int))).setCell ⟨pC, 5, none⟩ (.int .u64 (mo' : Int))).setCell ⟨pC, 6, none⟩ (.int .u64 (q' : Int))).setCell ⟨pC, 7, none⟩ (.int .u64 (es' : Int)) = w23 from hw.symm]
          clear c0 c1 c2 c3 c4 c5 c6 c7 cf0 cf1 cf2 cf3 cf4 cf5 cf6 cf7
          clear hw hz B22 XC22 SC22 XV22 SV22
          obtain ⟨c0, c1, c2, c3, c4, c5, c6, c7, -, -, -, -, -, -, -, -⟩ := XC23.out
          obtain ⟨v0, v1, v2, v3, v4, v5, v6, v7, -, -, -, -, -, -, -, -⟩ := XV23.out
          have RZ := Lib.hid (show HoRel m pC w (.int .i64 (k1 : Int)) w23 from ⟨k1, c', t, s, h', e', mo', q', es', HR.out.1, HR.out.2.1, rfl, HF.out.1, HF.out.2, XC23.out, SC23.out, B23.out⟩)
          go_wp2_with fail
          go_roundw
          case rel => exact RZ.out
          case measure => have := HR.out; simp [intOf]; omega
        · by_cases hk2 : kd = 2
          · subst hk2
            have d1 : ((2 : Int) == 1) = false := by decide
            obtain ⟨c', t', s', h', e', mo', q', es', hloss, hfine2, ok2, hup⟩ := holds_loss (a := at_) (n := now) hfine ok
            have C2 := Lib.hid (fun w => loss_any c t s h e mo q es at_ now c' t' s' h' e' mo' q' es' w ok eo.2.2.2.1 eo.2.2.2.2.1 hloss)
            have t3 : decide (c < c') = false := decide_eq_false (by omega)
            obtain ⟨g0, g1, g2, g3⟩ := hfine2
            simp only at g0 g1 g2 g3
            have u0 : decide ((c' : Int) < 2400) = false := decide_eq_false (by omega)
            have u1 : decide ((16777216 : Int) < (c' : Int)) = false := decide_eq_false (by omega)
            have u2 : decide ((t' : Int) < 2400) = false := decide_eq_false (by omega)
            have u3 : decide ((16777216 : Int) < (t' : Int)) = false := decide_eq_false (by omega)
            have HF := Lib.hid (show Wig.CFine ⟨c', t', s', h', e', mo', q', es'⟩ ∧ Wig.Cb.Ok ⟨c', t', s', h', e', mo', q', es'⟩ from ⟨⟨g0, g1, g2, g3⟩, ok2⟩)
            clear g0 g1 g2 g3 ok2 eo hloss hup hfine ok hk1
            have c00 := (B20.out.cell HBB0.out).trans E0.out
            obtain ⟨c0, c1, c2, c3, c4, c5, c6, c7, -, -, -, -, -, -, -, -⟩ := XC20.out
            go_upto_region 7 with fail
            clear c00
            obtain ⟨w21, hw⟩ : ∃ wx, wx = wr.alloc (.cells #[.int .u64 (c : Int), .int .u64 (t : Int), .int .u64 (s : Int), .bool h, .int .u64 (e : Int), .int .u64 (mo : Int), .int .u64 (q : Int), .int .u64 (es : Int)] 24) := ⟨_, rfl⟩
            rw [← hw]
            obtain ⟨pV, hp⟩ : ∃ px, px = wr.heap.size := ⟨_, rfl⟩
            rw [← hp]
            have hb : Below wr.heap.size wr w21 := by rw [hw]; exact (Below.refl _ _).alloc (Nat.le_refl _) _
            have hx : BxCu pV c t s h e mo q es w21 := by rw [hp, hw]; exact BxCu.new _ c t s h e mo q es
            have hs : pV < w21.heap.size := by rw [hp, hw]; simp
            have GV := Lib.hid (show w.heap.size ≤ pV by rw [hp]; exact B20.out.size)
            have OCV := Lib.hid (show pC < pV by rw [hp]; exact SC20.out)
            have B21 := Lib.hid (below_trans' B20.out hb)
            have XC21 := Lib.hid (XC20.out.below hb SC20.out)
            have SC21 := Lib.hid (Nat.lt_of_lt_of_le SC20.out hb.size)
            clear c0 c1 c2 c3 c4 c5 c6 c7
            clear hb B20 XC20 SC20
            have XV21 := Lib.hid hx
            have SV21 := Lib.hid hs
            clear hx hs hw hp
            have c00 := (B21.out.cell HBB0.out).trans E0.out
            go_upto_region 13 with fail
            clear c00
            obtain ⟨c0, c1, c2, c3, c4, c5, c6, c7, -, -, -, -, -, -, -, -⟩ := XC21.out
            refine wp_region_held_drew (S := fun wx => wx.cell? ⟨bb, off + k * 6 + 2, none⟩ = some (.int .u64 (at_ : Int)) ∧ wx.cell? ⟨bb, off + k * 6 + 3, none⟩ = some (.int .u64 (now : Int))) (by kernel_rfl) ?_ (fun hHeld => ?_)
            · exact ⟨(B21.out.drew.cell HBB2.out).trans E2.out, (B21.out.drew.cell HBB3.out).trans E3.out⟩
            refine held_take (v := ?vv130) 1 rfl (by kernel_rfl) (by kernel_rfl) (by kernel_rfl) (fun _ _ _ h => h) (by rfl) ?yy130 (by assumption) ?nn130
            case yy130 =>
              intro w hSw
              (try dsimp only at hSw)
              go_simp
              try with_reducible rfl
            try simp only [Act.put, List.setIfInBounds_toArray, List.set_cons_zero, List.set_cons_succ]
            refine held_take (v := ?vv131) 2 rfl (by kernel_rfl) (by kernel_rfl) (by kernel_rfl) (fun _ _ _ h => h) (by rfl) ?yy131 (by assumption) ?nn131
            case yy131 =>
              intro w hSw
              (try dsimp only at hSw)
              go_simp
              try with_reducible rfl
            try simp only [Act.put, List.setIfInBounds_toArray, List.set_cons_zero, List.set_cons_succ]
            refine held_take (v := ?vv132) 3 rfl (by kernel_rfl) (by kernel_rfl) (by kernel_rfl) (fun _ _ _ h => h) (by rfl) ?yy132 (by assumption) ?nn132
            case yy132 =>
              intro w hSw
              (try dsimp only at hSw)
              go_simp
              try with_reducible rfl
            try simp only [Act.put, List.setIfInBounds_toArray, List.set_cons_zero, List.set_cons_succ]
            refine held_take (v := ?vv133) 4 rfl (by kernel_rfl) (by kernel_rfl) (by kernel_rfl) (fun _ _ _ h => h) (by rfl) ?yy133 (by assumption) ?nn133
            case yy133 =>
              intro w hSw
              (try dsimp only at hSw)
              go_simp
              try with_reducible rfl
            try simp only [Act.put, List.setIfInBounds_toArray, List.set_cons_zero, List.set_cons_succ]
            refine held_take (v := .int .u64 (at_ : Int)) 5 rfl (by kernel_rfl) (by kernel_rfl) (by kernel_rfl) (fun _ _ _ h => h) (by rfl) (fun wx hSw => by have a0 := hSw.1; clear hSw; (try dsimp only at a0); go_simp) (by assumption) ?_
            try simp only [Act.put, List.setIfInBounds_toArray, List.set_cons_zero, List.set_cons_succ]
            refine held_take (v := ?vv135) 6 rfl (by kernel_rfl) (by kernel_rfl) (by kernel_rfl) (fun _ _ _ h => h) (by rfl) ?yy135 (by assumption) ?nn135
            case yy135 =>
              intro w hSw
              (try dsimp only at hSw)
              go_simp
              try with_reducible rfl
            try simp only [Act.put, List.setIfInBounds_toArray, List.set_cons_zero, List.set_cons_succ]
            refine held_take (v := ?vv136) 7 rfl (by kernel_rfl) (by kernel_rfl) (by kernel_rfl) (fun _ _ _ h => h) (by rfl) ?yy136 (by assumption) ?nn136
            case yy136 =>
              intro w hSw
              (try dsimp only at hSw)
              go_simp
              try with_reducible rfl
            try simp only [Act.put, List.setIfInBounds_toArray, List.set_cons_zero, List.set_cons_succ]
            refine held_take (v := ?vv137) 8 rfl (by kernel_rfl) (by kernel_rfl) (by kernel_rfl) (fun _ _ _ h => h) (by rfl) ?yy137 (by assumption) ?nn137
            case yy137 =>
              intro w hSw
              (try dsimp only at hSw)
              go_simp
              try with_reducible rfl
            try simp only [Act.put, List.setIfInBounds_toArray, List.set_cons_zero, List.set_cons_succ]
            refine held_take (v := ?vv138) 9 rfl (by kernel_rfl) (by kernel_rfl) (by kernel_rfl) (fun _ _ _ h => h) (by rfl) ?yy138 (by assumption) ?nn138
            case yy138 =>
              intro w hSw
              (try dsimp only at hSw)
              go_simp
              try with_reducible rfl
            try simp only [Act.put, List.setIfInBounds_toArray, List.set_cons_zero, List.set_cons_succ]
            refine held_take (v := .int .u64 (now : Int)) 10 rfl (by kernel_rfl) (by kernel_rfl) (by kernel_rfl) (fun _ _ _ h => h) (by rfl) (fun wx hSw => by have a0 := hSw.2; clear hSw; (try dsimp only at a0); go_simp) (by assumption) ?_
            try simp only [Act.put, List.setIfInBounds_toArray, List.set_cons_zero, List.set_cons_succ]
            refine held_do 0 rfl (by kernel_rfl) (by rfl) (fun K hK => ?_)
            go_wp2_with fail
            refine hK.out _ _ ?_ (fun hHeld => ?_)
            · exact ⟨(B21.out.drew.cell HBB2.out).trans E2.out, (B21.out.drew.cell HBB3.out).trans E3.out⟩
            clear hK K
            try simp only [Act.put, List.setIfInBounds_toArray, List.set_cons_zero, List.set_cons_succ]
            refine held_do 11 rfl (by kernel_rfl) (by rfl) (fun K hK => ?_)
            go_wp2_with (go_at_call 11; refine (C2.out _).mono ?_; rintro e w22 ⟨rfl, hb22⟩; have HB := Lib.hid hb22; clear hb22)
            refine hK.out _ _ ?_ (fun hHeld => ?_)
            · exact ⟨((below_trans' B21.out.drew HB.out).cell HBB2.out).trans E2.out, ((below_trans' B21.out.drew HB.out).cell HBB3.out).trans E3.out⟩
            clear hK K
            try simp only [Act.put, List.setIfInBounds_toArray, List.set_cons_zero, List.set_cons_succ]
            have B22 := Lib.hid (below_trans' B21.out.drew HB.out)
            have XC22 := Lib.hid (XC21.out.drew.below HB.out SC21.out)
            have SC22 := Lib.hid (Nat.lt_of_lt_of_le SC21.out HB.out.size)
            have XV22 := Lib.hid (XV21.out.drew.below HB.out SV21.out)
            have SV22 := Lib.hid (Nat.lt_of_lt_of_le SV21.out HB.out.size)
            clear c0 c1 c2 c3 c4 c5 c6 c7
            clear HB B21 XC21 SC21 XV21 SV21
            obtain ⟨c0, c1, c2, c3, c4, c5, c6, c7, cf0, cf1, cf2, cf3, cf4, cf5, cf6, cf7⟩ := XC22.out
            refine held_do 12 rfl (by kernel_rfl) (by rfl) (fun K hK => ?_)
            go_wp2_with fail
            refine hK.out _ _ ?_ (fun hHeld => ?_)
            · exact ⟨((B22.out.trans (putCu_below (p := pC) GC.out)).cell HBB2.out).trans E2.out, ((B22.out.trans (putCu_below (p := pC) GC.out)).cell HBB3.out).trans E3.out⟩
            clear hK K
            try simp only [Act.put, List.setIfInBounds_toArray, List.set_cons_zero, List.set_cons_succ]
            refine wpAnyH_done (by kernel_rfl) ?_ _
            clear hHeld
            obtain ⟨w23, hw⟩ : ∃ wx, wx = putCu pC c' t' s' h' e' mo' q' es' w22 := ⟨_, rfl⟩
            have XC23 := Lib.hid (show BxCu pC c' t' s' h' e' mo' q' es' w23 by rw [hw]; exact XC22.out.put)
            have B23 := Lib.hid (show Below w.heap.size w w23 by rw [hw]; exact B22.out.trans (putCu_below GC.out))
            have hz : w22.heap.size ≤ w23.heap.size := by rw [hw]; exact (putCu_below (B := 0) (Nat.zero_le _)).size
            have SC23 := Lib.hid (Nat.lt_of_lt_of_le SC22.out hz)
            have XV23 := Lib.hid (show BxCu pV c t s h e mo q es w23 by rw [hw]; unfold putCu; exact ((((((((XV22.out.other rfl (Nat.ne_of_lt OCV.out)).other rfl (Nat.ne_of_lt OCV.out)).other rfl (Nat.ne_of_lt OCV.out)).other rfl (Nat.ne_of_lt OCV.out)).other rfl (Nat.ne_of_lt OCV.out)).other rfl (Nat.ne_of_lt OCV.out)).other rfl (Nat.ne_of_lt OCV.out)).other rfl (Nat.ne_of_lt OCV.out)))
            have SV23 := Lib.hid (Nat.lt_of_lt_of_le SV22.out hz)
            rw [show (((((((w22.setCell ⟨pC, 0, none⟩ (.int .u64 (c' : Int))).setCell ⟨pC, 1, none⟩ (.int .u64 (t' : Int))).setCell ⟨pC, 2, none⟩ (.int .u64 (s' : Int))).setCell ⟨pC, 3, none⟩ (.bool h')).setCell ⟨pC, 4, none⟩ (.int .u64 (e' : Int))).setCell ⟨pC, 5, none⟩ (.int .u64 (mo' : Int))).setCell ⟨pC, 6, none⟩ (.int .u64 (q' : Int))).setCell ⟨pC, 7, none⟩ (.int .u64 (es' : Int)) = w23 from hw.symm]
            clear c0 c1 c2 c3 c4 c5 c6 c7 cf0 cf1 cf2 cf3 cf4 cf5 cf6 cf7
            clear hw hz B22 XC22 SC22 XV22 SV22
            obtain ⟨c0, c1, c2, c3, c4, c5, c6, c7, -, -, -, -, -, -, -, -⟩ := XC23.out
            obtain ⟨v0, v1, v2, v3, v4, v5, v6, v7, -, -, -, -, -, -, -, -⟩ := XV23.out
            have RZ := Lib.hid (show HoRel m pC w (.int .i64 (k1 : Int)) w23 from ⟨k1, c', t', s', h', e', mo', q', es', HR.out.1, HR.out.2.1, rfl, HF.out.1, HF.out.2, XC23.out, SC23.out, B23.out⟩)
            go_wp2_with fail
            go_roundw
            case rel => exact RZ.out
            case measure => have := HR.out; simp [intOf]; omega
          · by_cases hk3 : kd = 3
            · subst hk3
              have d1 : ((3 : Int) == 1) = false := by decide
              have d2 : ((3 : Int) == 2) = false := by decide
              have hfine2 : Wig.CFine ⟨2400, t, 0, false, 0, mo, 0, 0⟩ := Wig.cfine_coll hfine
              have ok2 : Wig.Cb.Ok ⟨2400, t, 0, false, 0, mo, 0, 0⟩ := Wig.ccoll_ok ok
              have C2 := Lib.hid (fun w => coll_any c t s h e mo q es w)
              obtain ⟨g0, g1, g2, g3⟩ := hfine2
              simp only at g0 g1 g2 g3
              have u2 : decide ((t : Int) < 2400) = false := decide_eq_false (by omega)
              have u3 : decide ((16777216 : Int) < (t : Int)) = false := decide_eq_false (by omega)
              have HF := Lib.hid (show Wig.CFine ⟨2400, t, 0, false, 0, mo, 0, 0⟩ ∧ Wig.Cb.Ok ⟨2400, t, 0, false, 0, mo, 0, 0⟩ from ⟨⟨g0, g1, g2, g3⟩, ok2⟩)
              clear g0 g1 g2 g3 ok2 eo hfine ok hk1 hk2
              have c00 := (B20.out.cell HBB0.out).trans E0.out
              obtain ⟨c0, c1, c2, c3, c4, c5, c6, c7, -, -, -, -, -, -, -, -⟩ := XC20.out
              go_upto_region 7 with fail
              clear c00
              obtain ⟨w21, hw⟩ : ∃ wx, wx = wr.alloc (.cells #[.int .u64 (c : Int), .int .u64 (t : Int), .int .u64 (s : Int), .bool h, .int .u64 (e : Int), .int .u64 (mo : Int), .int .u64 (q : Int), .int .u64 (es : Int)] 24) := ⟨_, rfl⟩
              rw [← hw]
              obtain ⟨pV, hp⟩ : ∃ px, px = wr.heap.size := ⟨_, rfl⟩
              rw [← hp]
              have hb : Below wr.heap.size wr w21 := by rw [hw]; exact (Below.refl _ _).alloc (Nat.le_refl _) _
              have hx : BxCu pV c t s h e mo q es w21 := by rw [hp, hw]; exact BxCu.new _ c t s h e mo q es
              have hs : pV < w21.heap.size := by rw [hp, hw]; simp
              have GV := Lib.hid (show w.heap.size ≤ pV by rw [hp]; exact B20.out.size)
              have OCV := Lib.hid (show pC < pV by rw [hp]; exact SC20.out)
              have B21 := Lib.hid (below_trans' B20.out hb)
              have XC21 := Lib.hid (XC20.out.below hb SC20.out)
              have SC21 := Lib.hid (Nat.lt_of_lt_of_le SC20.out hb.size)
              clear c0 c1 c2 c3 c4 c5 c6 c7
              clear hb B20 XC20 SC20
              have XV21 := Lib.hid hx
              have SV21 := Lib.hid hs
              clear hx hs hw hp
              have c00 := (B21.out.cell HBB0.out).trans E0.out
              obtain ⟨c0, c1, c2, c3, c4, c5, c6, c7, -, -, -, -, -, -, -, -⟩ := XC21.out
              go_wp2_with fail
              clear c00
              refine (C2.out _).mono ?_
              rintro e w22 ⟨rfl, hb⟩
              have B22 := Lib.hid (below_trans' B21.out hb)
              have XC22 := Lib.hid (XC21.out.below hb SC21.out)
              have SC22 := Lib.hid (Nat.lt_of_lt_of_le SC21.out hb.size)
              have XV22 := Lib.hid (XV21.out.below hb SV21.out)
              have SV22 := Lib.hid (Nat.lt_of_lt_of_le SV21.out hb.size)
              clear c0 c1 c2 c3 c4 c5 c6 c7
              clear hb B21 XC21 SC21 XV21 SV21
              obtain ⟨c0, c1, c2, c3, c4, c5, c6, c7, cf0, cf1, cf2, cf3, cf4, cf5, cf6, cf7⟩ := XC22.out
              go_upto_region 18 with fail
              obtain ⟨w23, hw⟩ : ∃ wx, wx = putCu pC 2400 t 0 false 0 mo 0 0 w22 := ⟨_, rfl⟩
              have XC23 := Lib.hid (show BxCu pC 2400 t 0 false 0 mo 0 0 w23 by rw [hw]; exact XC22.out.put)
              have B23 := Lib.hid (show Below w.heap.size w w23 by rw [hw]; exact B22.out.trans (putCu_below GC.out))
              have hz : w22.heap.size ≤ w23.heap.size := by rw [hw]; exact (putCu_below (B := 0) (Nat.zero_le _)).size
              have SC23 := Lib.hid (Nat.lt_of_lt_of_le SC22.out hz)
              have XV23 := Lib.hid (show BxCu pV c t s h e mo q es w23 by rw [hw]; unfold putCu; exact ((((((((XV22.out.other rfl (Nat.ne_of_lt OCV.out)).other rfl (Nat.ne_of_lt OCV.out)).other rfl (Nat.ne_of_lt OCV.out)).other rfl (Nat.ne_of_lt OCV.out)).other rfl (Nat.ne_of_lt OCV.out)).other rfl (Nat.ne_of_lt OCV.out)).other rfl (Nat.ne_of_lt OCV.out)).other rfl (Nat.ne_of_lt OCV.out)))
              have SV23 := Lib.hid (Nat.lt_of_lt_of_le SV22.out hz)
              rw [show (((((((w22.setCell ⟨pC, 0, none⟩ (.int .u64 2400)).setCell ⟨pC, 1, none⟩ (.int .u64 (t : Int))).setCell ⟨pC, 2, none⟩ (.int .u64 0)).setCell ⟨pC, 3, none⟩ (.bool false)).setCell ⟨pC, 4, none⟩ (.int .u64 0)).setCell ⟨pC, 5, none⟩ (.int .u64 (mo : Int))).setCell ⟨pC, 6, none⟩ (.int .u64 0)).setCell ⟨pC, 7, none⟩ (.int .u64 0) = w23 from hw.symm]
              clear c0 c1 c2 c3 c4 c5 c6 c7 cf0 cf1 cf2 cf3 cf4 cf5 cf6 cf7
              clear hw hz B22 XC22 SC22 XV22 SV22
              obtain ⟨c0, c1, c2, c3, c4, c5, c6, c7, -, -, -, -, -, -, -, -⟩ := XC23.out
              have RZ := Lib.hid (show HoRel m pC w (.int .i64 (k1 : Int)) w23 from ⟨k1, 2400, t, 0, false, 0, mo, 0, 0, HR.out.1, HR.out.2.1, rfl, HF.out.1, HF.out.2, XC23.out, SC23.out, B23.out⟩)
              go_wp2_with fail
              go_roundw
              case rel => exact RZ.out
              case measure => have := HR.out; simp [intOf]; omega
            · have d1 : (kd == (1 : Int)) = false := by simpa using hk1
              have d2 : (kd == (2 : Int)) = false := by simpa using hk2
              have d3 : (kd == (3 : Int)) = false := by simpa using hk3
              have hfine2 := hfine
              have ok2 := ok
              obtain ⟨g0, g1, g2, g3⟩ := hfine2
              simp only at g0 g1 g2 g3
              have u0 : decide ((c : Int) < 2400) = false := decide_eq_false (by omega)
              have u1 : decide ((16777216 : Int) < (c : Int)) = false := decide_eq_false (by omega)
              have u2 : decide ((t : Int) < 2400) = false := decide_eq_false (by omega)
              have u3 : decide ((16777216 : Int) < (t : Int)) = false := decide_eq_false (by omega)
              have HF := Lib.hid (show Wig.CFine ⟨c, t, s, h, e, mo, q, es⟩ ∧ Wig.Cb.Ok ⟨c, t, s, h, e, mo, q, es⟩ from ⟨⟨g0, g1, g2, g3⟩, ok2⟩)
              clear g0 g1 g2 g3 ok2 eo hfine ok hk1 hk2 hk3
              have c00 := (B20.out.cell HBB0.out).trans E0.out
              obtain ⟨c0, c1, c2, c3, c4, c5, c6, c7, -, -, -, -, -, -, -, -⟩ := XC20.out
              go_upto_region 7 with fail
              clear c00
              obtain ⟨w21, hw⟩ : ∃ wx, wx = wr.alloc (.cells #[.int .u64 (c : Int), .int .u64 (t : Int), .int .u64 (s : Int), .bool h, .int .u64 (e : Int), .int .u64 (mo : Int), .int .u64 (q : Int), .int .u64 (es : Int)] 24) := ⟨_, rfl⟩
              rw [← hw]
              obtain ⟨pV, hp⟩ : ∃ px, px = wr.heap.size := ⟨_, rfl⟩
              rw [← hp]
              have hb : Below wr.heap.size wr w21 := by rw [hw]; exact (Below.refl _ _).alloc (Nat.le_refl _) _
              have hx : BxCu pV c t s h e mo q es w21 := by rw [hp, hw]; exact BxCu.new _ c t s h e mo q es
              have hs : pV < w21.heap.size := by rw [hp, hw]; simp
              have GV := Lib.hid (show w.heap.size ≤ pV by rw [hp]; exact B20.out.size)
              have OCV := Lib.hid (show pC < pV by rw [hp]; exact SC20.out)
              have B21 := Lib.hid (below_trans' B20.out hb)
              have XC21 := Lib.hid (XC20.out.below hb SC20.out)
              have SC21 := Lib.hid (Nat.lt_of_lt_of_le SC20.out hb.size)
              clear c0 c1 c2 c3 c4 c5 c6 c7
              clear hb B20 XC20 SC20
              have XV21 := Lib.hid hx
              have SV21 := Lib.hid hs
              clear hx hs hw hp
              have c00 := (B21.out.cell HBB0.out).trans E0.out
              obtain ⟨c0, c1, c2, c3, c4, c5, c6, c7, -, -, -, -, -, -, -, -⟩ := XC21.out
              go_upto_region 18 with fail
              clear c00
              clear c0 c1 c2 c3 c4 c5 c6 c7
              obtain ⟨c0, c1, c2, c3, c4, c5, c6, c7, -, -, -, -, -, -, -, -⟩ := XC21.out
              have RZ := Lib.hid (show HoRel m pC w (.int .i64 (k1 : Int)) w21 from ⟨k1, c, t, s, h, e, mo, q, es, HR.out.1, HR.out.2.1, rfl, HF.out.1, HF.out.2, XC21.out, SC21.out, B21.out⟩)
              go_wp2_with fail
              go_roundw
              case rel => exact RZ.out
              case measure => have := HR.out; simp [intOf]; omega
      · have t1 : decide (k < m) = true := decide_eq_true hkm
        have t2 : decide ((k : Int) < 200) = false := decide_eq_false (by omega)
        clear hk hk2 hfine ok hkm hk5
        go_wp2_with fail
        go_ret
        exact ⟨rfl, B20.out⟩
    · have t1 : decide (k < m) = false := decide_eq_false hkm
      clear hk hk2 hfine ok hkm 
      go_wp2_with fail
      go_ret
      exact ⟨rfl, B20.out⟩

set_option maxRecDepth 100000 in
theorem lifted (os : Os) (started : os.Started) (H : Type) (enc : TypeId × Value → H) :
    ReturnsInHanded {} Try.checked os 4 .any (Rows.cubicHoldsSpec.pre6 enc Try.prog Try.f4 Rows.cubicHoldsRow.domain false) (Rows.cubicHoldsSpec.post enc Try.prog Try.f4 false true false false) := by
  refine returnsInHanded_of_change (C := Try.checked) own started (by kernel_rfl) Try.func4
    (ChangeSpec.witness6 (enc := enc) (C := Try.checked) false ⟨#[], #[.slice none 0 0], []⟩ 8 (by kernel_rfl) (by kernel_rfl) (by kernel_rfl) (by kernel_rfl)) ?_
  intro W base args ds gs before hval0 hW hcnd _
  have hval : ∀ (j : Nat) t v, Try.f4.params[j]? = some t → args[j]? = some v → Value.okWide Try.prog W .any base t v := hval0
  have hW' := hW
  obtain ⟨p, q, hA0, hV, rfl, hfz, hnd⟩ := hW
  have hA : DataW.TrodAll enc Try.prog W 0 (fun _ => true) true Try.f4.params.toList args.toList ds p := hA0
  obtain ⟨rfl, rfl⟩ := trodVars_none hV
  simp only [List.append_nil] at hW'
  have hlow : ∀ x ∈ p, x.block < W.heap.size := fun x hx => hW'.lt x hx
  have hA2 := hA
  rw [Try.params4] at hval hA2
  obtain ⟨v0, vs0, d0, ds0, p0, q0, hargs, rfl, rfl, h0, r0⟩ := trodAll_cons hA2
  obtain ⟨rfl, rfl, rfl⟩ := trodAll_nil r0
  obtain rfl : args = #[v0] := by cases args; simp_all
  obtain ⟨A0, c0, ss0, rfl, hf0, hr0, hl0, hc0⟩ := open_evs Try.underlying32 (hval 0 32 v0 rfl rfl) h0 (fun x hx => hlow x (by simp [hx]))
  refine (walk A0 c0 ss0 hf0 hl0 hc0 W hr0).mono fun e W' ⟨he, hg⟩ => ?_
  subst he
  exact ⟨_, rfl, law_true laid_out (by kernel_rfl) rfl Try.underlying4 (by kernel_rfl) hW' hA rfl rfl rfl hg⟩

theorem over : Rows.cubicHoldsRow.holds Try.pinned (OpenSpec.ofChange Rows.cubicHoldsSpec) :=
  OpenClaim.holds_of_wide 4 Try.f4 rfl rfl rfl rfl rfl rfl rfl ⟨rfl, rfl, rfl, rfl, rfl⟩ rfl rfl rfl rfl rfl (by kernel_rfl) Try.func4 (by kernel_rfl)
    (of_decide_eq_true (by kernel_rfl)) (by unfold Func.isWrapper; first | (rw [if_pos (by decide +kernel)]; kernel_rfl) | (rw [if_neg (by decide +kernel)]; exact ⟨rfl, rfl⟩))
    (fun os started H enc _ => lifted os started H enc)

/-- The statement. -/
theorem proved : Rows.CubicHoldsSaid := over
end Go.Proofs.Ytjnkmghlhihjkaa.cubicHolds
