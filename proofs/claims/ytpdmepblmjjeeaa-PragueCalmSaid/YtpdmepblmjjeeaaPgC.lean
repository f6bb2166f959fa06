/-
  What package prague's Loss, Collapse, Mark and Ack return, for all numbers of 64 bits. No condition.
-/
import Derived.Test.YtpdmepblmjjeeaaPgB
import Derived.Deep.CutBlock
import Derived.Deep.DeepCutAuto
namespace Go.Proofs.Ytpdmepblmjjeeaa
open Go.ChangeShapes Go.WideShapes Go.ChangeAt Go.RowKit
set_option linter.unusedVariables false

set_option maxHeartbeats 8000000 in
theorem loss_any (c t s r al ac mk en : Nat) (cu : Bool) (a n : Nat) (c' t' s' r' al' ac' mk' en' : Nat) (cu' : Bool) (w : World) (hok : Wig.Pg.Ok ⟨⟨c, t, s, r⟩, al, ac, mk, en, cu⟩) (ha : a < 18446744073709551616) (hn : n < 18446744073709551616) (he : Wig.gloss ⟨⟨c, t, s, r⟩, al, ac, mk, en, cu⟩ a n = ⟨⟨c', t', s', r'⟩, al', ac', mk', en', cu'⟩) :
    Calls Try.prog 13 #[aggPg c t s r al ac mk en cu, .int .u64 (a : Int), .int .u64 (n : Int)] w fun e w' => e = .returned (aggPg c' t' s' r' al' ac' mk' en' cu') ∧ Below w.heap.size w w' := by
  unfold Wig.gloss at he
  simp only at he
  injection he with r0 r5 r6 r7 r8 r9
  subst r5 r6 r7 r8 r9
  have CI := Lib.hid (fun w => Rno.loss_any c t s r a n c' t' s' r' w hok.1 ha hn r0)
  clear r0 hok ha hn
  obtain ⟨w1, hw1⟩ : ∃ wx, wx = w.alloc (.cells #[.int .u64 (c : Int), .int .u64 (t : Int), .int .u64 (s : Int), .int .u64 (r : Int), .int .u64 (al : Int), .int .u64 (ac : Int), .int .u64 (mk : Int), .int .u64 (en : Int), .bool cu] 26) := ⟨_, rfl⟩
  have z1 : w1.heap.size = w.heap.size + 1 := by rw [hw1]; simp
  obtain ⟨w2, hw2⟩ : ∃ wx, wx = w1.alloc (.cells #[.int .u64 0, .int .u64 0, .int .u64 0, .int .u64 0, .int .u64 0, .int .u64 0, .int .u64 0, .int .u64 0, .bool false] 26) := ⟨_, rfl⟩
  have z2 : w2.heap.size = w.heap.size + 2 := by rw [hw2]; simp; omega
  have t2 : Below w2.heap.size w2 w2 := Below.refl _ _
  have t1 : Below w1.heap.size w1 w2 := (show Below w1.heap.size w1 w2 by rw [hw2]; exact (Below.refl _ _).alloc (Nat.le_refl _) _).trans (t2.mono (by omega))
  have t0 : Below w.heap.size w w2 := (show Below w.heap.size w w1 by rw [hw1]; exact (Below.refl _ _).alloc (Nat.le_refl _) _).trans (t1.mono (by omega))
  have BN := Lib.hid t0
  have ZN := Lib.hid z2
  have XC := Lib.hid (show BxPg w.heap.size c t s r al ac mk en cu w2 from (show BxPg w.heap.size c t s r al ac mk en cu w1 by rw [hw1]; exact BxPg.new _ c t s r al ac mk en cu).below t1 (by omega))
  have XZ := Lib.hid (show BxPg (w.heap.size + 1) 0 0 0 0 0 0 0 0 false w2 from (show BxPg (w.heap.size + 1) 0 0 0 0 0 0 0 0 false w2 by rw [hw2, ← z1]; exact BxPg.new _ 0 0 0 0 0 0 0 0 false).below t2 (by omega))
  clear t0 t1 t2 z1 z2
  have B2 := BN
  have XC2 := XC
  have SC2 := Lib.hid (show w.heap.size < w2.heap.size by have := ZN.out; omega)
  have GC := Lib.hid (show w.heap.size ≤ w.heap.size by omega)
  have XZ2 := XZ
  have SZ2 := Lib.hid (show (w.heap.size + 1) < w2.heap.size by have := ZN.out; omega)
  have GZ := Lib.hid (show w.heap.size ≤ (w.heap.size + 1) by omega)
  have OCZ := Lib.hid (show w.heap.size < (w.heap.size + 1) by omega)
  clear ZN BN XC XZ
  go_enter Try.func13, Try.ntmps13
  go_upto_region 1 with fail
  rw [← hw1, ← hw2]
  clear hw1 hw2
  obtain ⟨k0, k1, k2, k3, k4, k5, k6, k7, k8, -, -, -, -, -, -, -, -, -⟩ := XC2.out
  go_wp2_with fail
  refine (CI.out _).mono ?_
  rintro e w3 ⟨rfl, hb⟩
  have B3 := Lib.hid (below_trans' B2.out hb)
  have XC3 := Lib.hid (XC2.out.below hb SC2.out)
  have SC3 := Lib.hid (Nat.lt_of_lt_of_le SC2.out hb.size)
  have XZ3 := Lib.hid (XZ2.out.below hb SZ2.out)
  have SZ3 := Lib.hid (Nat.lt_of_lt_of_le SZ2.out hb.size)
  clear k0 k1 k2 k3 k4 k5 k6 k7 k8
  clear hb B2 XC2 SC2 XZ2 SZ2
  obtain ⟨k0, k1, k2, k3, k4, k5, k6, k7, k8, kf0, kf1, kf2, kf3, kf4, kf5, kf6, kf7, kf8⟩ := XC3.out
  go_upto_region 2 with fail
  obtain ⟨w4, hw⟩ : ∃ wx, wx = w3.setCell ⟨w.heap.size, 0, none⟩ (.int .u64 (c' : Int)) := ⟨_, rfl⟩
  rw [← hw]
  have XC4 := Lib.hid (show BxPg w.heap.size c' t s r al ac mk en cu w4 by rw [hw]; exact XC3.out.set0)
  have B4 := Lib.hid (show Below w.heap.size w w4 by rw [hw]; exact Below.setCell B3.out GC.out _)
  have SC4 := Lib.hid (show w.heap.size < w4.heap.size by rw [hw]; have := SC3.out; simpa using this)
  have XZ4 := Lib.hid (show BxPg (w.heap.size + 1) 0 0 0 0 0 0 0 0 false w4 by rw [hw]; exact XZ3.out.other rfl (Nat.ne_of_lt OCZ.out))
  have SZ4 := Lib.hid (show (w.heap.size + 1) < w4.heap.size by rw [hw]; have := SZ3.out; simpa using this)
  clear k0 k1 k2 k3 k4 k5 k6 k7 k8 kf0 kf1 kf2 kf3 kf4 kf5 kf6 kf7 kf8
  clear hw B3 XC3 SC3 XZ3 SZ3
  obtain ⟨w5, hw⟩ : ∃ wx, wx = w4.setCell ⟨w.heap.size, 1, none⟩ (.int .u64 (t' : Int)) := ⟨_, rfl⟩
  rw [← hw]
  have XC5 := Lib.hid (show BxPg w.heap.size c' t' s r al ac mk en cu w5 by rw [hw]; exact XC4.out.set1)
  have B5 := Lib.hid (show Below w.heap.size w w5 by rw [hw]; exact Below.setCell B4.out GC.out _)
  have SC5 := Lib.hid (show w.heap.size < w5.heap.size by rw [hw]; have := SC4.out; simpa using this)
  have XZ5 := Lib.hid (show BxPg (w.heap.size + 1) 0 0 0 0 0 0 0 0 false w5 by rw [hw]; exact XZ4.out.other rfl (Nat.ne_of_lt OCZ.out))
  have SZ5 := Lib.hid (show (w.heap.size + 1) < w5.heap.size by rw [hw]; have := SZ4.out; simpa using this)
  clear hw B4 XC4 SC4 XZ4 SZ4
  obtain ⟨w6, hw⟩ : ∃ wx, wx = w5.setCell ⟨w.heap.size, 2, none⟩ (.int .u64 (s' : Int)) := ⟨_, rfl⟩
  rw [← hw]
  have XC6 := Lib.hid (show BxPg w.heap.size c' t' s' r al ac mk en cu w6 by rw [hw]; exact XC5.out.set2)
  have B6 := Lib.hid (show Below w.heap.size w w6 by rw [hw]; exact Below.setCell B5.out GC.out _)
  have SC6 := Lib.hid (show w.heap.size < w6.heap.size by rw [hw]; have := SC5.out; simpa using this)
  have XZ6 := Lib.hid (show BxPg (w.heap.size + 1) 0 0 0 0 0 0 0 0 false w6 by rw [hw]; exact XZ5.out.other rfl (Nat.ne_of_lt OCZ.out))
  have SZ6 := Lib.hid (show (w.heap.size + 1) < w6.heap.size by rw [hw]; have := SZ5.out; simpa using this)
  clear hw B5 XC5 SC5 XZ5 SZ5
  obtain ⟨w7, hw⟩ : ∃ wx, wx = w6.setCell ⟨w.heap.size, 3, none⟩ (.int .u64 (r' : Int)) := ⟨_, rfl⟩
  rw [← hw]
  have XC7 := Lib.hid (show BxPg w.heap.size c' t' s' r' al ac mk en cu w7 by rw [hw]; exact XC6.out.set3)
  have B7 := Lib.hid (show Below w.heap.size w w7 by rw [hw]; exact Below.setCell B6.out GC.out _)
  have SC7 := Lib.hid (show w.heap.size < w7.heap.size by rw [hw]; have := SC6.out; simpa using this)
  have XZ7 := Lib.hid (show BxPg (w.heap.size + 1) 0 0 0 0 0 0 0 0 false w7 by rw [hw]; exact XZ6.out.other rfl (Nat.ne_of_lt OCZ.out))
  have SZ7 := Lib.hid (show (w.heap.size + 1) < w7.heap.size by rw [hw]; have := SZ6.out; simpa using this)
  clear hw B6 XC6 SC6 XZ6 SZ6
  obtain ⟨k0, k1, k2, k3, k4, k5, k6, k7, k8, -, -, -, -, -, -, -, -, -⟩ := XC7.out
  obtain ⟨z0, z1, z2, z3, z4, z5, z6, z7, z8, zf0, zf1, zf2, zf3, zf4, zf5, zf6, zf7, zf8⟩ := XZ7.out
  go_wp2_with fail
  show bodyPost _ _ _ _ _ (putPg (w.heap.size + 1) c' t' s' r' al ac mk en cu w7)
  have BZ : Below w.heap.size w (putPg (w.heap.size + 1) c' t' s' r' al ac mk en cu w7) := B7.out.trans (putPg_below GZ.out)
  obtain ⟨z0, z1, z2, z3, z4, z5, z6, z7, z8, -, -, -, -, -, -, -, -, -⟩ := (show BxPg (w.heap.size + 1) c' t' s' r' al ac mk en cu (putPg (w.heap.size + 1) c' t' s' r' al ac mk en cu w7) from XZ7.out.put)
  exact bodyPost_ret (v := aggPg c' t' s' r' al ac mk en cu) (by simp [results, Try.results13, z0, z1, z2, z3, z4, z5, z6, z7, z8, go_sem]) rfl ⟨rfl, BZ⟩
set_option maxHeartbeats 2000000 in
theorem coll_any (c t s r al ac mk en : Nat) (cu : Bool) (w : World) : Calls Try.prog 15 #[aggPg c t s r al ac mk en cu] w fun e w' => e = .returned (aggPg 2400 t 0 0 al ac mk en cu) ∧ Below w.heap.size w w' := by
  obtain ⟨w1, hw1⟩ : ∃ wx, wx = w.alloc (.cells #[.int .u64 (c : Int), .int .u64 (t : Int), .int .u64 (s : Int), .int .u64 (r : Int), .int .u64 (al : Int), .int .u64 (ac : Int), .int .u64 (mk : Int), .int .u64 (en : Int), .bool cu] 26) := ⟨_, rfl⟩
  have z1 : w1.heap.size = w.heap.size + 1 := by rw [hw1]; simp
  obtain ⟨w2, hw2⟩ : ∃ wx, wx = w1.alloc (.cells #[.int .u64 0, .int .u64 0, .int .u64 0, .int .u64 0, .int .u64 0, .int .u64 0, .int .u64 0, .int .u64 0, .bool false] 26) := ⟨_, rfl⟩
  have z2 : w2.heap.size = w.heap.size + 2 := by rw [hw2]; simp; omega
  have t2 : Below w2.heap.size w2 w2 := Below.refl _ _
  have t1 : Below w1.heap.size w1 w2 := (show Below w1.heap.size w1 w2 by rw [hw2]; exact (Below.refl _ _).alloc (Nat.le_refl _) _).trans (t2.mono (by omega))
  have t0 : Below w.heap.size w w2 := (show Below w.heap.size w w1 by rw [hw1]; exact (Below.refl _ _).alloc (Nat.le_refl _) _).trans (t1.mono (by omega))
  have BN := Lib.hid t0
  have ZN := Lib.hid z2
  have XC := Lib.hid (show BxPg w.heap.size c t s r al ac mk en cu w2 from (show BxPg w.heap.size c t s r al ac mk en cu w1 by rw [hw1]; exact BxPg.new _ c t s r al ac mk en cu).below t1 (by omega))
  have XZ := Lib.hid (show BxPg (w.heap.size + 1) 0 0 0 0 0 0 0 0 false w2 from (show BxPg (w.heap.size + 1) 0 0 0 0 0 0 0 0 false w2 by rw [hw2, ← z1]; exact BxPg.new _ 0 0 0 0 0 0 0 0 false).below t2 (by omega))
  clear t0 t1 t2 z1 z2
  have B2 := BN
  have XC2 := XC
  have SC2 := Lib.hid (show w.heap.size < w2.heap.size by have := ZN.out; omega)
  have GC := Lib.hid (show w.heap.size ≤ w.heap.size by omega)
  have XZ2 := XZ
  have SZ2 := Lib.hid (show (w.heap.size + 1) < w2.heap.size by have := ZN.out; omega)
  have GZ := Lib.hid (show w.heap.size ≤ (w.heap.size + 1) by omega)
  have OCZ := Lib.hid (show w.heap.size < (w.heap.size + 1) by omega)
  clear ZN BN XC XZ
  go_enter Try.func15, Try.ntmps15
  go_upto_region 1 with fail
  rw [← hw1, ← hw2]
  clear hw1 hw2
  obtain ⟨k0, k1, k2, k3, k4, k5, k6, k7, k8, -, -, -, -, -, -, -, -, -⟩ := XC2.out
  go_wp2_with fail
  refine (Rno.coll_any c t s r _).mono ?_
  rintro e w3 ⟨rfl, hb⟩
  have B3 := Lib.hid (below_trans' B2.out hb)
  have XC3 := Lib.hid (XC2.out.below hb SC2.out)
  have SC3 := Lib.hid (Nat.lt_of_lt_of_le SC2.out hb.size)
  have XZ3 := Lib.hid (XZ2.out.below hb SZ2.out)
  have SZ3 := Lib.hid (Nat.lt_of_lt_of_le SZ2.out hb.size)
  clear k0 k1 k2 k3 k4 k5 k6 k7 k8
  clear hb B2 XC2 SC2 XZ2 SZ2
  obtain ⟨k0, k1, k2, k3, k4, k5, k6, k7, k8, kf0, kf1, kf2, kf3, kf4, kf5, kf6, kf7, kf8⟩ := XC3.out
  go_upto_region 2 with fail
  obtain ⟨w4, hw⟩ : ∃ wx, wx = w3.setCell ⟨w.heap.size, 0, none⟩ (.int .u64 2400) := ⟨_, rfl⟩
  rw [← hw]
  have XC4 := Lib.hid (show BxPg w.heap.size 2400 t s r al ac mk en cu w4 by rw [hw]; exact XC3.out.set0)
  have B4 := Lib.hid (show Below w.heap.size w w4 by rw [hw]; exact Below.setCell B3.out GC.out _)
  have SC4 := Lib.hid (show w.heap.size < w4.heap.size by rw [hw]; have := SC3.out; simpa using this)
  have XZ4 := Lib.hid (show BxPg (w.heap.size + 1) 0 0 0 0 0 0 0 0 false w4 by rw [hw]; exact XZ3.out.other rfl (Nat.ne_of_lt OCZ.out))
  have SZ4 := Lib.hid (show (w.heap.size + 1) < w4.heap.size by rw [hw]; have := SZ3.out; simpa using this)
  clear k0 k1 k2 k3 k4 k5 k6 k7 k8 kf0 kf1 kf2 kf3 kf4 kf5 kf6 kf7 kf8
  clear hw B3 XC3 SC3 XZ3 SZ3
  obtain ⟨w5, hw⟩ : ∃ wx, wx = w4.setCell ⟨w.heap.size, 1, none⟩ (.int .u64 (t : Int)) := ⟨_, rfl⟩
  rw [← hw]
  have XC5 := Lib.hid (show BxPg w.heap.size 2400 t s r al ac mk en cu w5 by rw [hw]; exact XC4.out.set1)
  have B5 := Lib.hid (show Below w.heap.size w w5 by rw [hw]; exact Below.setCell B4.out GC.out _)
  have SC5 := Lib.hid (show w.heap.size < w5.heap.size by rw [hw]; have := SC4.out; simpa using this)
  have XZ5 := Lib.hid (show BxPg (w.heap.size + 1) 0 0 0 0 0 0 0 0 false w5 by rw [hw]; exact XZ4.out.other rfl (Nat.ne_of_lt OCZ.out))
  have SZ5 := Lib.hid (show (w.heap.size + 1) < w5.heap.size by rw [hw]; have := SZ4.out; simpa using this)
  clear hw B4 XC4 SC4 XZ4 SZ4
  obtain ⟨w6, hw⟩ : ∃ wx, wx = w5.setCell ⟨w.heap.size, 2, none⟩ (.int .u64 0) := ⟨_, rfl⟩
  rw [← hw]
  have XC6 := Lib.hid (show BxPg w.heap.size 2400 t 0 r al ac mk en cu w6 by rw [hw]; exact XC5.out.set2)
  have B6 := Lib.hid (show Below w.heap.size w w6 by rw [hw]; exact Below.setCell B5.out GC.out _)
  have SC6 := Lib.hid (show w.heap.size < w6.heap.size by rw [hw]; have := SC5.out; simpa using this)
  have XZ6 := Lib.hid (show BxPg (w.heap.size + 1) 0 0 0 0 0 0 0 0 false w6 by rw [hw]; exact XZ5.out.other rfl (Nat.ne_of_lt OCZ.out))
  have SZ6 := Lib.hid (show (w.heap.size + 1) < w6.heap.size by rw [hw]; have := SZ5.out; simpa using this)
  clear hw B5 XC5 SC5 XZ5 SZ5
  obtain ⟨w7, hw⟩ : ∃ wx, wx = w6.setCell ⟨w.heap.size, 3, none⟩ (.int .u64 0) := ⟨_, rfl⟩
  rw [← hw]
  have XC7 := Lib.hid (show BxPg w.heap.size 2400 t 0 0 al ac mk en cu w7 by rw [hw]; exact XC6.out.set3)
  have B7 := Lib.hid (show Below w.heap.size w w7 by rw [hw]; exact Below.setCell B6.out GC.out _)
  have SC7 := Lib.hid (show w.heap.size < w7.heap.size by rw [hw]; have := SC6.out; simpa using this)
  have XZ7 := Lib.hid (show BxPg (w.heap.size + 1) 0 0 0 0 0 0 0 0 false w7 by rw [hw]; exact XZ6.out.other rfl (Nat.ne_of_lt OCZ.out))
  have SZ7 := Lib.hid (show (w.heap.size + 1) < w7.heap.size by rw [hw]; have := SZ6.out; simpa using this)
  clear hw B6 XC6 SC6 XZ6 SZ6
  obtain ⟨k0, k1, k2, k3, k4, k5, k6, k7, k8, -, -, -, -, -, -, -, -, -⟩ := XC7.out
  obtain ⟨z0, z1, z2, z3, z4, z5, z6, z7, z8, zf0, zf1, zf2, zf3, zf4, zf5, zf6, zf7, zf8⟩ := XZ7.out
  go_wp2_with fail
  show bodyPost _ _ _ _ _ (putPg (w.heap.size + 1) 2400 t 0 0 al ac mk en cu w7)
  have BZ : Below w.heap.size w (putPg (w.heap.size + 1) 2400 t 0 0 al ac mk en cu w7) := B7.out.trans (putPg_below GZ.out)
  obtain ⟨z0, z1, z2, z3, z4, z5, z6, z7, z8, -, -, -, -, -, -, -, -, -⟩ := (show BxPg (w.heap.size + 1) 2400 t 0 0 al ac mk en cu (putPg (w.heap.size + 1) 2400 t 0 0 al ac mk en cu w7) from XZ7.out.put)
  exact bodyPost_ret (v := aggPg 2400 t 0 0 al ac mk en cu) (by simp [results, Try.results15, z0, z1, z2, z3, z4, z5, z6, z7, z8, go_sem]) rfl ⟨rfl, BZ⟩
set_option maxHeartbeats 8000000 in
theorem mark_any (c t s r al ac mk en : Nat) (cu : Bool) (b a : Nat) (c' t' s' r' al' ac' mk' en' : Nat) (cu' : Bool) (w : World) (hok : Wig.Pg.Ok ⟨⟨c, t, s, r⟩, al, ac, mk, en, cu⟩) (hb : b < 18446744073709551616) (ha : a < 18446744073709551616) (he : Wig.gmark ⟨⟨c, t, s, r⟩, al, ac, mk, en, cu⟩ b a = ⟨⟨c', t', s', r'⟩, al', ac', mk', en', cu'⟩) :
    Calls Try.prog 11 #[aggPg c t s r al ac mk en cu, .int .u64 (b : Int), .int .u64 (a : Int)] w fun e w' => e = .returned (aggPg c' t' s' r' al' ac' mk' en' cu') ∧ Below w.heap.size w w' := by
  obtain ⟨⟨hc, ht, hs, hr⟩, hal, hac, hmk, hen⟩ := hok
  simp only at hc ht hs hr hal hac hmk hen
  obtain ⟨x, hx⟩ : ∃ x, x = Wig.fadd mk b := ⟨_, rfl⟩
  have CA := Lib.hid (fun w => (show Calls Try.prog 24 #[.int .u64 (mk : Int), .int .u64 (b : Int)] w fun e w' => e = .returned (.int .u64 (x : Int)) ∧ w = w' by rw [hx]; exact add_any mk b w hmk hb))
  unfold Wig.gmark at he
  simp only at he
  rw [← hx] at he
  by_cases hcu : cu = true
  · subst hcu
    rw [if_pos (.inl rfl)] at he
    injection he with r0 r5 r6 r7 r8 r9
    injection r0 with r1 r2 r3 r4
    subst r1 r2 r3 r4 r5 r6 r7 r8 r9
    clear hb ha hx hc ht hs hr hal hac hmk hen
    obtain ⟨w1, hw1⟩ : ∃ wx, wx = w.alloc (.cells #[.int .u64 (c : Int), .int .u64 (t : Int), .int .u64 (s : Int), .int .u64 (r : Int), .int .u64 (al : Int), .int .u64 (ac : Int), .int .u64 (mk : Int), .int .u64 (en : Int), .bool true] 26) := ⟨_, rfl⟩
    have z1 : w1.heap.size = w.heap.size + 1 := by rw [hw1]; simp
    obtain ⟨w2, hw2⟩ : ∃ wx, wx = w1.alloc (.cells #[.int .u64 0, .int .u64 0, .int .u64 0, .int .u64 0, .int .u64 0, .int .u64 0, .int .u64 0, .int .u64 0, .bool false] 26) := ⟨_, rfl⟩
    have z2 : w2.heap.size = w.heap.size + 2 := by rw [hw2]; simp; omega
    have t2 : Below w2.heap.size w2 w2 := Below.refl _ _
    have t1 : Below w1.heap.size w1 w2 := (show Below w1.heap.size w1 w2 by rw [hw2]; exact (Below.refl _ _).alloc (Nat.le_refl _) _).trans (t2.mono (by omega))
    have t0 : Below w.heap.size w w2 := (show Below w.heap.size w w1 by rw [hw1]; exact (Below.refl _ _).alloc (Nat.le_refl _) _).trans (t1.mono (by omega))
    have BN := Lib.hid t0
    have ZN := Lib.hid z2
    have XC := Lib.hid (show BxPg w.heap.size c t s r al ac mk en true w2 from (show BxPg w.heap.size c t s r al ac mk en true w1 by rw [hw1]; exact BxPg.new _ c t s r al ac mk en true).below t1 (by omega))
    have XZ := Lib.hid (show BxPg (w.heap.size + 1) 0 0 0 0 0 0 0 0 false w2 from (show BxPg (w.heap.size + 1) 0 0 0 0 0 0 0 0 false w2 by rw [hw2, ← z1]; exact BxPg.new _ 0 0 0 0 0 0 0 0 false).below t2 (by omega))
    clear t0 t1 t2 z1 z2
    have B2 := BN
    have XC2 := XC
    have SC2 := Lib.hid (show w.heap.size < w2.heap.size by have := ZN.out; omega)
    have GC := Lib.hid (show w.heap.size ≤ w.heap.size by omega)
    have XZ2 := XZ
    have SZ2 := Lib.hid (show (w.heap.size + 1) < w2.heap.size by have := ZN.out; omega)
    have GZ := Lib.hid (show w.heap.size ≤ (w.heap.size + 1) by omega)
    have OCZ := Lib.hid (show w.heap.size < (w.heap.size + 1) by omega)
    clear ZN BN XC XZ
    go_enter Try.func11, Try.ntmps11
    go_upto_region 1 with fail
    rw [← hw1, ← hw2]
    clear hw1 hw2
    obtain ⟨k0, k1, k2, k3, k4, k5, k6, k7, k8, -, -, -, -, -, -, -, -, -⟩ := XC2.out
    go_wp2_with fail
    refine (opened_any c t s r al ac mk en true _).mono ?_
    rintro e w3 ⟨rfl, hb⟩
    have B3 := Lib.hid (below_trans' B2.out hb)
    have XC3 := Lib.hid (XC2.out.below hb SC2.out)
    have SC3 := Lib.hid (Nat.lt_of_lt_of_le SC2.out hb.size)
    have XZ3 := Lib.hid (XZ2.out.below hb SZ2.out)
    have SZ3 := Lib.hid (Nat.lt_of_lt_of_le SZ2.out hb.size)
    clear k0 k1 k2 k3 k4 k5 k6 k7 k8
    clear hb B2 XC2 SC2 XZ2 SZ2
    go_upto_region 2 with fail
    obtain ⟨w4, hw⟩ : ∃ wx, wx = w3.alloc (.cells #[.int .u64 (c : Int), .int .u64 (t : Int), .int .u64 (s : Int), .int .u64 (r : Int), .int .u64 (al : Int), .int .u64 (ac : Int), .int .u64 (mk : Int), .int .u64 (en : Int), .bool true] 49) := ⟨_, rfl⟩
    rw [← hw]
    obtain ⟨pV, hp⟩ : ∃ px, px = w3.heap.size := ⟨_, rfl⟩
    rw [← hp]
    have hb : Below w3.heap.size w3 w4 := by rw [hw]; exact (Below.refl _ _).alloc (Nat.le_refl _) _
    have hx : BxPg pV c t s r al ac mk en true w4 := by rw [hp, hw]; exact BxPg.new _ c t s r al ac mk en true
    have hs : pV < w4.heap.size := by rw [hp, hw]; simp
    have GV := Lib.hid (show w.heap.size ≤ pV by rw [hp]; exact B3.out.size)
    have OCV := Lib.hid (show w.heap.size < pV by rw [hp]; exact SC3.out)
    have OZV := Lib.hid (show (w.heap.size + 1) < pV by rw [hp]; exact SZ3.out)
    have B4 := Lib.hid (below_trans' B3.out hb)
    have XC4 := Lib.hid (XC3.out.below hb SC3.out)
    have SC4 := Lib.hid (Nat.lt_of_lt_of_le SC3.out hb.size)
    have XZ4 := Lib.hid (XZ3.out.below hb SZ3.out)
    have SZ4 := Lib.hid (Nat.lt_of_lt_of_le SZ3.out hb.size)
    clear hb B3 XC3 SC3 XZ3 SZ3
    have XV4 := Lib.hid hx
    have SV4 := Lib.hid hs
    clear hx hs hw hp
    obtain ⟨v0, v1, v2, v3, v4, v5, v6, v7, v8, vf0, vf1, vf2, vf3, vf4, vf5, vf6, vf7, vf8⟩ := XV4.out
    go_wp2_with fail
    refine (CA.out _).mono ?_
    rintro e _ ⟨rfl, rfl⟩
    go_upto_region 3 with fail
    obtain ⟨w5, hw⟩ : ∃ wx, wx = w4.setCell ⟨pV, 6, none⟩ (.int .u64 (x : Int)) := ⟨_, rfl⟩
    rw [← hw]
    have XV5 := Lib.hid (show BxPg pV c t s r al ac x en true w5 by rw [hw]; exact XV4.out.set6)
    have B5 := Lib.hid (show Below w.heap.size w w5 by rw [hw]; exact Below.setCell B4.out GV.out _)
    have SV5 := Lib.hid (show pV < w5.heap.size by rw [hw]; have := SV4.out; simpa using this)
    have XC5 := Lib.hid (show BxPg w.heap.size c t s r al ac mk en true w5 by rw [hw]; exact XC4.out.other rfl (Nat.ne_of_gt OCV.out))
    have SC5 := Lib.hid (show w.heap.size < w5.heap.size by rw [hw]; have := SC4.out; simpa using this)
    have XZ5 := Lib.hid (show BxPg (w.heap.size + 1) 0 0 0 0 0 0 0 0 false w5 by rw [hw]; exact XZ4.out.other rfl (Nat.ne_of_gt OZV.out))
    have SZ5 := Lib.hid (show (w.heap.size + 1) < w5.heap.size by rw [hw]; have := SZ4.out; simpa using this)
    clear v0 v1 v2 v3 v4 v5 v6 v7 v8 vf0 vf1 vf2 vf3 vf4 vf5 vf6 vf7 vf8
    clear hw B4 XV4 SV4 XC4 SC4 XZ4 SZ4
    obtain ⟨v0, v1, v2, v3, v4, v5, v6, v7, v8, -, -, -, -, -, -, -, -, -⟩ := XV5.out
    go_wp2_with fail
    refine (told_any pV c t s r al ac x en true _ XV5.out SV5.out).mono ?_
    rintro e w6 ⟨rfl, hb⟩
    have B6 := Lib.hid (below_trans' B5.out hb)
    have XC6 := Lib.hid (XC5.out.below hb SC5.out)
    have SC6 := Lib.hid (Nat.lt_of_lt_of_le SC5.out hb.size)
    have XZ6 := Lib.hid (XZ5.out.below hb SZ5.out)
    have SZ6 := Lib.hid (Nat.lt_of_lt_of_le SZ5.out hb.size)
    have XV6 := Lib.hid (XV5.out.below hb SV5.out)
    have SV6 := Lib.hid (Nat.lt_of_lt_of_le SV5.out hb.size)
    clear v0 v1 v2 v3 v4 v5 v6 v7 v8
    clear hb B5 XC5 SC5 XZ5 SZ5 XV5 SV5
    obtain ⟨z0, z1, z2, z3, z4, z5, z6, z7, z8, zf0, zf1, zf2, zf3, zf4, zf5, zf6, zf7, zf8⟩ := XZ6.out
    go_wp2_with fail
    show bodyPost _ _ _ _ _ (putPg (w.heap.size + 1) c t s r al ac x en true w6)
    have BZ : Below w.heap.size w (putPg (w.heap.size + 1) c t s r al ac x en true w6) := B6.out.trans (putPg_below GZ.out)
    obtain ⟨z0, z1, z2, z3, z4, z5, z6, z7, z8, -, -, -, -, -, -, -, -, -⟩ := (show BxPg (w.heap.size + 1) c t s r al ac x en true (putPg (w.heap.size + 1) c t s r al ac x en true w6) from XZ6.out.put)
    exact bodyPost_ret (v := aggPg c t s r al ac x en true) (by simp [results, Try.results11, z0, z1, z2, z3, z4, z5, z6, z7, z8, go_sem]) rfl ⟨rfl, BZ⟩
  · obtain rfl : cu = false := by simpa using hcu
    clear hcu
    by_cases g : a < s
    · have CE := Lib.hid (fun (w : World) (p : Nat) (hc : w.cell? ⟨p, 2, none⟩ = some (.int .u64 (s : Int))) => elder_any p s a _ w hc rfl)
      rw [decide_eq_true g] at CE
      rw [if_pos (.inr g)] at he
      injection he with r0 r5 r6 r7 r8 r9
      injection r0 with r1 r2 r3 r4
      subst r1 r2 r3 r4 r5 r6 r7 r8 r9
      clear hb ha hx g hc ht hs hr hal hac hmk hen
      obtain ⟨w1, hw1⟩ : ∃ wx, wx = w.alloc (.cells #[.int .u64 (c : Int), .int .u64 (t : Int), .int .u64 (s : Int), .int .u64 (r : Int), .int .u64 (al : Int), .int .u64 (ac : Int), .int .u64 (mk : Int), .int .u64 (en : Int), .bool false] 26) := ⟨_, rfl⟩
      have z1 : w1.heap.size = w.heap.size + 1 := by rw [hw1]; simp
      obtain ⟨w2, hw2⟩ : ∃ wx, wx = w1.alloc (.cells #[.int .u64 0, .int .u64 0, .int .u64 0, .int .u64 0, .int .u64 0, .int .u64 0, .int .u64 0, .int .u64 0, .bool false] 26) := ⟨_, rfl⟩
      have z2 : w2.heap.size = w.heap.size + 2 := by rw [hw2]; simp; omega
      have t2 : Below w2.heap.size w2 w2 := Below.refl _ _
      have t1 : Below w1.heap.size w1 w2 := (show Below w1.heap.size w1 w2 by rw [hw2]; exact (Below.refl _ _).alloc (Nat.le_refl _) _).trans (t2.mono (by omega))
      have t0 : Below w.heap.size w w2 := (show Below w.heap.size w w1 by rw [hw1]; exact (Below.refl _ _).alloc (Nat.le_refl _) _).trans (t1.mono (by omega))
      have BN := Lib.hid t0
      have ZN := Lib.hid z2
      have XC := Lib.hid (show BxPg w.heap.size c t s r al ac mk en false w2 from (show BxPg w.heap.size c t s r al ac mk en false w1 by rw [hw1]; exact BxPg.new _ c t s r al ac mk en false).below t1 (by omega))
      have XZ := Lib.hid (show BxPg (w.heap.size + 1) 0 0 0 0 0 0 0 0 false w2 from (show BxPg (w.heap.size + 1) 0 0 0 0 0 0 0 0 false w2 by rw [hw2, ← z1]; exact BxPg.new _ 0 0 0 0 0 0 0 0 false).below t2 (by omega))
      clear t0 t1 t2 z1 z2
      have B2 := BN
      have XC2 := XC
      have SC2 := Lib.hid (show w.heap.size < w2.heap.size by have := ZN.out; omega)
      have GC := Lib.hid (show w.heap.size ≤ w.heap.size by omega)
      have XZ2 := XZ
      have SZ2 := Lib.hid (show (w.heap.size + 1) < w2.heap.size by have := ZN.out; omega)
      have GZ := Lib.hid (show w.heap.size ≤ (w.heap.size + 1) by omega)
      have OCZ := Lib.hid (show w.heap.size < (w.heap.size + 1) by omega)
      clear ZN BN XC XZ
      go_enter Try.func11, Try.ntmps11
      go_upto_region 1 with fail
      rw [← hw1, ← hw2]
      clear hw1 hw2
      obtain ⟨k0, k1, k2, k3, k4, k5, k6, k7, k8, -, -, -, -, -, -, -, -, -⟩ := XC2.out
      go_wp2_with fail
      refine (opened_any c t s r al ac mk en false _).mono ?_
      rintro e w3 ⟨rfl, hb⟩
      have B3 := Lib.hid (below_trans' B2.out hb)
      have XC3 := Lib.hid (XC2.out.below hb SC2.out)
      have SC3 := Lib.hid (Nat.lt_of_lt_of_le SC2.out hb.size)
      have XZ3 := Lib.hid (XZ2.out.below hb SZ2.out)
      have SZ3 := Lib.hid (Nat.lt_of_lt_of_le SZ2.out hb.size)
      clear k0 k1 k2 k3 k4 k5 k6 k7 k8
      clear hb B2 XC2 SC2 XZ2 SZ2
      go_upto_region 2 with fail
      obtain ⟨w4, hw⟩ : ∃ wx, wx = w3.alloc (.cells #[.int .u64 (c : Int), .int .u64 (t : Int), .int .u64 (s : Int), .int .u64 (r : Int), .int .u64 (al : Int), .int .u64 (ac : Int), .int .u64 (mk : Int), .int .u64 (en : Int), .bool false] 49) := ⟨_, rfl⟩
      rw [← hw]
      obtain ⟨pV, hp⟩ : ∃ px, px = w3.heap.size := ⟨_, rfl⟩
      rw [← hp]
      have hb : Below w3.heap.size w3 w4 := by rw [hw]; exact (Below.refl _ _).alloc (Nat.le_refl _) _
      have hx : BxPg pV c t s r al ac mk en false w4 := by rw [hp, hw]; exact BxPg.new _ c t s r al ac mk en false
      have hs : pV < w4.heap.size := by rw [hp, hw]; simp
      have GV := Lib.hid (show w.heap.size ≤ pV by rw [hp]; exact B3.out.size)
      have OCV := Lib.hid (show w.heap.size < pV by rw [hp]; exact SC3.out)
      have OZV := Lib.hid (show (w.heap.size + 1) < pV by rw [hp]; exact SZ3.out)
      have B4 := Lib.hid (below_trans' B3.out hb)
      have XC4 := Lib.hid (XC3.out.below hb SC3.out)
      have SC4 := Lib.hid (Nat.lt_of_lt_of_le SC3.out hb.size)
      have XZ4 := Lib.hid (XZ3.out.below hb SZ3.out)
      have SZ4 := Lib.hid (Nat.lt_of_lt_of_le SZ3.out hb.size)
      clear hb B3 XC3 SC3 XZ3 SZ3
      have XV4 := Lib.hid hx
      have SV4 := Lib.hid hs
      clear hx hs hw hp
      obtain ⟨v0, v1, v2, v3, v4, v5, v6, v7, v8, vf0, vf1, vf2, vf3, vf4, vf5, vf6, vf7, vf8⟩ := XV4.out
      go_wp2_with fail
      refine (CA.out _).mono ?_
      rintro e _ ⟨rfl, rfl⟩
      go_upto_region 3 with fail
      obtain ⟨w5, hw⟩ : ∃ wx, wx = w4.setCell ⟨pV, 6, none⟩ (.int .u64 (x : Int)) := ⟨_, rfl⟩
      rw [← hw]
      have XV5 := Lib.hid (show BxPg pV c t s r al ac x en false w5 by rw [hw]; exact XV4.out.set6)
      have B5 := Lib.hid (show Below w.heap.size w w5 by rw [hw]; exact Below.setCell B4.out GV.out _)
      have SV5 := Lib.hid (show pV < w5.heap.size by rw [hw]; have := SV4.out; simpa using this)
      have XC5 := Lib.hid (show BxPg w.heap.size c t s r al ac mk en false w5 by rw [hw]; exact XC4.out.other rfl (Nat.ne_of_gt OCV.out))
      have SC5 := Lib.hid (show w.heap.size < w5.heap.size by rw [hw]; have := SC4.out; simpa using this)
      have XZ5 := Lib.hid (show BxPg (w.heap.size + 1) 0 0 0 0 0 0 0 0 false w5 by rw [hw]; exact XZ4.out.other rfl (Nat.ne_of_gt OZV.out))
      have SZ5 := Lib.hid (show (w.heap.size + 1) < w5.heap.size by rw [hw]; have := SZ4.out; simpa using this)
      clear v0 v1 v2 v3 v4 v5 v6 v7 v8 vf0 vf1 vf2 vf3 vf4 vf5 vf6 vf7 vf8
      clear hw B4 XV4 SV4 XC4 SC4 XZ4 SZ4
      obtain ⟨v0, v1, v2, v3, v4, v5, v6, v7, v8, -, -, -, -, -, -, -, -, -⟩ := XV5.out
      go_wp2_with fail
      refine (CE.out _ _ XV5.out.c2).mono ?_
      rintro e _ ⟨rfl, rfl⟩
      go_wp2_with fail
      refine (told_any pV c t s r al ac x en false _ XV5.out SV5.out).mono ?_
      rintro e w6 ⟨rfl, hb⟩
      have B6 := Lib.hid (below_trans' B5.out hb)
      have XC6 := Lib.hid (XC5.out.below hb SC5.out)
      have SC6 := Lib.hid (Nat.lt_of_lt_of_le SC5.out hb.size)
      have XZ6 := Lib.hid (XZ5.out.below hb SZ5.out)
      have SZ6 := Lib.hid (Nat.lt_of_lt_of_le SZ5.out hb.size)
      have XV6 := Lib.hid (XV5.out.below hb SV5.out)
      have SV6 := Lib.hid (Nat.lt_of_lt_of_le SV5.out hb.size)
      clear v0 v1 v2 v3 v4 v5 v6 v7 v8
      clear hb B5 XC5 SC5 XZ5 SZ5 XV5 SV5
      obtain ⟨z0, z1, z2, z3, z4, z5, z6, z7, z8, zf0, zf1, zf2, zf3, zf4, zf5, zf6, zf7, zf8⟩ := XZ6.out
      go_wp2_with fail
      show bodyPost _ _ _ _ _ (putPg (w.heap.size + 1) c t s r al ac x en false w6)
      have BZ : Below w.heap.size w (putPg (w.heap.size + 1) c t s r al ac x en false w6) := B6.out.trans (putPg_below GZ.out)
      obtain ⟨z0, z1, z2, z3, z4, z5, z6, z7, z8, -, -, -, -, -, -, -, -, -⟩ := (show BxPg (w.heap.size + 1) c t s r al ac x en false (putPg (w.heap.size + 1) c t s r al ac x en false w6) from XZ6.out.put)
      exact bodyPost_ret (v := aggPg c t s r al ac x en false) (by simp [results, Try.results11, z0, z1, z2, z3, z4, z5, z6, z7, z8, go_sem]) rfl ⟨rfl, BZ⟩
    · have CE := Lib.hid (fun (w : World) (p : Nat) (hc : w.cell? ⟨p, 2, none⟩ = some (.int .u64 (s : Int))) => elder_any p s a _ w hc rfl)
      rw [decide_eq_false g] at CE
      rw [if_neg (by simp; omega)] at he
      injection he with r0 r5 r6 r7 r8 r9
      injection r0 with r1 r2 r3 r4
      subst r3 r4 r5 r6 r7 r8 r9
      rw [r1] at r2
      subst r2
      unfold Wig.gless at r1
      simp only at r1
      have CF := Lib.hid (fun (p : Nat) (w : World) (hv : BxPg p c t s r al ac x en true w) (hp : p < w.heap.size) => fall_any p c t s r al ac x en true al c' w hv hp hc hal r1)
      clear hb ha hx g r1 hc ht hs hr hal hac hmk hen
      obtain ⟨w1, hw1⟩ : ∃ wx, wx = w.alloc (.cells #[.int .u64 (c : Int), .int .u64 (t : Int), .int .u64 (s : Int), .int .u64 (r : Int), .int .u64 (al : Int), .int .u64 (ac : Int), .int .u64 (mk : Int), .int .u64 (en : Int), .bool false] 26) := ⟨_, rfl⟩
      have z1 : w1.heap.size = w.heap.size + 1 := by rw [hw1]; simp
      obtain ⟨w2, hw2⟩ : ∃ wx, wx = w1.alloc (.cells #[.int .u64 0, .int .u64 0, .int .u64 0, .int .u64 0, .int .u64 0, .int .u64 0, .int .u64 0, .int .u64 0, .bool false] 26) := ⟨_, rfl⟩
      have z2 : w2.heap.size = w.heap.size + 2 := by rw [hw2]; simp; omega
      have t2 : Below w2.heap.size w2 w2 := Below.refl _ _
      have t1 : Below w1.heap.size w1 w2 := (show Below w1.heap.size w1 w2 by rw [hw2]; exact (Below.refl _ _).alloc (Nat.le_refl _) _).trans (t2.mono (by omega))
      have t0 : Below w.heap.size w w2 := (show Below w.heap.size w w1 by rw [hw1]; exact (Below.refl _ _).alloc (Nat.le_refl _) _).trans (t1.mono (by omega))
      have BN := Lib.hid t0
      have ZN := Lib.hid z2
      have XC := Lib.hid (show BxPg w.heap.size c t s r al ac mk en false w2 from (show BxPg w.heap.size c t s r al ac mk en false w1 by rw [hw1]; exact BxPg.new _ c t s r al ac mk en false).below t1 (by omega))
      have XZ := Lib.hid (show BxPg (w.heap.size + 1) 0 0 0 0 0 0 0 0 false w2 from (show BxPg (w.heap.size + 1) 0 0 0 0 0 0 0 0 false w2 by rw [hw2, ← z1]; exact BxPg.new _ 0 0 0 0 0 0 0 0 false).below t2 (by omega))
      clear t0 t1 t2 z1 z2
      have B2 := BN
      have XC2 := XC
      have SC2 := Lib.hid (show w.heap.size < w2.heap.size by have := ZN.out; omega)
      have GC := Lib.hid (show w.heap.size ≤ w.heap.size by omega)
      have XZ2 := XZ
      have SZ2 := Lib.hid (show (w.heap.size + 1) < w2.heap.size by have := ZN.out; omega)
      have GZ := Lib.hid (show w.heap.size ≤ (w.heap.size + 1) by omega)
      have OCZ := Lib.hid (show w.heap.size < (w.heap.size + 1) by omega)
      clear ZN BN XC XZ
      go_enter Try.func11, Try.ntmps11
      go_upto_region 1 with fail
      rw [← hw1, ← hw2]
      clear hw1 hw2
      obtain ⟨k0, k1, k2, k3, k4, k5, k6, k7, k8, -, -, -, -, -, -, -, -, -⟩ := XC2.out
      go_wp2_with fail
      refine (opened_any c t s r al ac mk en false _).mono ?_
      rintro e w3 ⟨rfl, hb⟩
      have B3 := Lib.hid (below_trans' B2.out hb)
      have XC3 := Lib.hid (XC2.out.below hb SC2.out)
      have SC3 := Lib.hid (Nat.lt_of_lt_of_le SC2.out hb.size)
      have XZ3 := Lib.hid (XZ2.out.below hb SZ2.out)
      have SZ3 := Lib.hid (Nat.lt_of_lt_of_le SZ2.out hb.size)
      clear k0 k1 k2 k3 k4 k5 k6 k7 k8
      clear hb B2 XC2 SC2 XZ2 SZ2
      go_upto_region 2 with fail
      obtain ⟨w4, hw⟩ : ∃ wx, wx = w3.alloc (.cells #[.int .u64 (c : Int), .int .u64 (t : Int), .int .u64 (s : Int), .int .u64 (r : Int), .int .u64 (al : Int), .int .u64 (ac : Int), .int .u64 (mk : Int), .int .u64 (en : Int), .bool false] 49) := ⟨_, rfl⟩
      rw [← hw]
      obtain ⟨pV, hp⟩ : ∃ px, px = w3.heap.size := ⟨_, rfl⟩
      rw [← hp]
      have hb : Below w3.heap.size w3 w4 := by rw [hw]; exact (Below.refl _ _).alloc (Nat.le_refl _) _
      have hx : BxPg pV c t s r al ac mk en false w4 := by rw [hp, hw]; exact BxPg.new _ c t s r al ac mk en false
      have hs : pV < w4.heap.size := by rw [hp, hw]; simp
      have GV := Lib.hid (show w.heap.size ≤ pV by rw [hp]; exact B3.out.size)
      have OCV := Lib.hid (show w.heap.size < pV by rw [hp]; exact SC3.out)
      have OZV := Lib.hid (show (w.heap.size + 1) < pV by rw [hp]; exact SZ3.out)
      have B4 := Lib.hid (below_trans' B3.out hb)
      have XC4 := Lib.hid (XC3.out.below hb SC3.out)
      have SC4 := Lib.hid (Nat.lt_of_lt_of_le SC3.out hb.size)
      have XZ4 := Lib.hid (XZ3.out.below hb SZ3.out)
      have SZ4 := Lib.hid (Nat.lt_of_lt_of_le SZ3.out hb.size)
      clear hb B3 XC3 SC3 XZ3 SZ3
      have XV4 := Lib.hid hx
      have SV4 := Lib.hid hs
      clear hx hs hw hp
      obtain ⟨v0, v1, v2, v3, v4, v5, v6, v7, v8, vf0, vf1, vf2, vf3, vf4, vf5, vf6, vf7, vf8⟩ := XV4.out
      go_wp2_with fail
      refine (CA.out _).mono ?_
      rintro e _ ⟨rfl, rfl⟩
      go_upto_region 3 with fail
      obtain ⟨w5, hw⟩ : ∃ wx, wx = w4.setCell ⟨pV, 6, none⟩ (.int .u64 (x : Int)) := ⟨_, rfl⟩
      rw [← hw]
      have XV5 := Lib.hid (show BxPg pV c t s r al ac x en false w5 by rw [hw]; exact XV4.out.set6)
      have B5 := Lib.hid (show Below w.heap.size w w5 by rw [hw]; exact Below.setCell B4.out GV.out _)
      have SV5 := Lib.hid (show pV < w5.heap.size by rw [hw]; have := SV4.out; simpa using this)
      have XC5 := Lib.hid (show BxPg w.heap.size c t s r al ac mk en false w5 by rw [hw]; exact XC4.out.other rfl (Nat.ne_of_gt OCV.out))
      have SC5 := Lib.hid (show w.heap.size < w5.heap.size by rw [hw]; have := SC4.out; simpa using this)
      have XZ5 := Lib.hid (show BxPg (w.heap.size + 1) 0 0 0 0 0 0 0 0 false w5 by rw [hw]; exact XZ4.out.other rfl (Nat.ne_of_gt OZV.out))
      have SZ5 := Lib.hid (show (w.heap.size + 1) < w5.heap.size by rw [hw]; have := SZ4.out; simpa using this)
      clear v0 v1 v2 v3 v4 v5 v6 v7 v8 vf0 vf1 vf2 vf3 vf4 vf5 vf6 vf7 vf8
      clear hw B4 XV4 SV4 XC4 SC4 XZ4 SZ4
      obtain ⟨v0, v1, v2, v3, v4, v5, v6, v7, v8, -, -, -, -, -, -, -, -, -⟩ := XV5.out
      go_wp2_with fail
      refine (CE.out _ _ XV5.out.c2).mono ?_
      rintro e _ ⟨rfl, rfl⟩
      clear v0 v1 v2 v3 v4 v5 v6 v7 v8
      obtain ⟨v0, v1, v2, v3, v4, v5, v6, v7, v8, vf0, vf1, vf2, vf3, vf4, vf5, vf6, vf7, vf8⟩ := XV5.out
      go_upto_region 5 with fail
      obtain ⟨w6, hw⟩ : ∃ wx, wx = w5.setCell ⟨pV, 8, none⟩ (.bool true) := ⟨_, rfl⟩
      rw [← hw]
      have XV6 := Lib.hid (show BxPg pV c t s r al ac x en true w6 by rw [hw]; exact XV5.out.set8)
      have B6 := Lib.hid (show Below w.heap.size w w6 by rw [hw]; exact Below.setCell B5.out GV.out _)
      have SV6 := Lib.hid (show pV < w6.heap.size by rw [hw]; have := SV5.out; simpa using this)
      have XC6 := Lib.hid (show BxPg w.heap.size c t s r al ac mk en false w6 by rw [hw]; exact XC5.out.other rfl (Nat.ne_of_gt OCV.out))
      have SC6 := Lib.hid (show w.heap.size < w6.heap.size by rw [hw]; have := SC5.out; simpa using this)
      have XZ6 := Lib.hid (show BxPg (w.heap.size + 1) 0 0 0 0 0 0 0 0 false w6 by rw [hw]; exact XZ5.out.other rfl (Nat.ne_of_gt OZV.out))
      have SZ6 := Lib.hid (show (w.heap.size + 1) < w6.heap.size by rw [hw]; have := SZ5.out; simpa using this)
      clear v0 v1 v2 v3 v4 v5 v6 v7 v8 vf0 vf1 vf2 vf3 vf4 vf5 vf6 vf7 vf8
      clear hw B5 XV5 SV5 XC5 SC5 XZ5 SZ5
      obtain ⟨v0, v1, v2, v3, v4, v5, v6, v7, v8, -, -, -, -, -, -, -, -, -⟩ := XV6.out
      go_wp2_with fail
      refine (CF.out pV _ XV6.out SV6.out).mono ?_
      rintro e w7 ⟨rfl, hx, hb⟩
      have B7 := Lib.hid (B6.out.trans (hb.mono GV.out))
      have XC7 := Lib.hid (XC6.out.below hb OCV.out)
      have SC7 := Lib.hid (Nat.lt_of_lt_of_le SC6.out hb.size)
      have XZ7 := Lib.hid (XZ6.out.below hb OZV.out)
      have SZ7 := Lib.hid (Nat.lt_of_lt_of_le SZ6.out hb.size)
      have SV7 := Lib.hid (Nat.lt_of_lt_of_le SV6.out hb.size)
      have XV7 := Lib.hid hx
      clear v0 v1 v2 v3 v4 v5 v6 v7 v8
      clear hx hb B6 XC6 SC6 XZ6 SZ6 XV6 SV6
      go_wp2_with fail
      refine (told_any pV c' c' s 0 al ac x en true _ XV7.out SV7.out).mono ?_
      rintro e w8 ⟨rfl, hb⟩
      have B8 := Lib.hid (below_trans' B7.out hb)
      have XC8 := Lib.hid (XC7.out.below hb SC7.out)
      have SC8 := Lib.hid (Nat.lt_of_lt_of_le SC7.out hb.size)
      have XZ8 := Lib.hid (XZ7.out.below hb SZ7.out)
      have SZ8 := Lib.hid (Nat.lt_of_lt_of_le SZ7.out hb.size)
      have XV8 := Lib.hid (XV7.out.below hb SV7.out)
      have SV8 := Lib.hid (Nat.lt_of_lt_of_le SV7.out hb.size)
      clear hb B7 XC7 SC7 XZ7 SZ7 XV7 SV7
      obtain ⟨z0, z1, z2, z3, z4, z5, z6, z7, z8, zf0, zf1, zf2, zf3, zf4, zf5, zf6, zf7, zf8⟩ := XZ8.out
      go_wp2_with fail
      show bodyPost _ _ _ _ _ (putPg (w.heap.size + 1) c' c' s 0 al ac x en true w8)
      have BZ : Below w.heap.size w (putPg (w.heap.size + 1) c' c' s 0 al ac x en true w8) := B8.out.trans (putPg_below GZ.out)
      obtain ⟨z0, z1, z2, z3, z4, z5, z6, z7, z8, -, -, -, -, -, -, -, -, -⟩ := (show BxPg (w.heap.size + 1) c' c' s 0 al ac x en true (putPg (w.heap.size + 1) c' c' s 0 al ac x en true w8) from XZ8.out.put)
      exact bodyPost_ret (v := aggPg c' c' s 0 al ac x en true) (by simp [results, Try.results11, z0, z1, z2, z3, z4, z5, z6, z7, z8, go_sem]) rfl ⟨rfl, BZ⟩
set_option maxHeartbeats 8000000 in
theorem ack_any (c t s r al ac mk en : Nat) (cu : Bool) (nw b a m n tk fl rt : Nat) (l rd : Bool) (c' t' s' r' al' ac' mk' en' : Nat) (cu' : Bool) (w : World) (hok : Wig.Pg.Ok ⟨⟨c, t, s, r⟩, al, ac, mk, en, cu⟩) (hb : b < 18446744073709551616) (ha : a < 18446744073709551616) (he : Wig.gack ⟨⟨c, t, s, r⟩, al, ac, mk, en, cu⟩ b a m n l = ⟨⟨c', t', s', r'⟩, al', ac', mk', en', cu'⟩) :
    Calls Try.prog 9 #[aggPg c t s r al ac mk en cu, aggGt nw b a m n tk fl rt l rd] w fun e w' => e = .returned (aggPg c' t' s' r' al' ac' mk' en' cu') ∧ Below w.heap.size w w' := by
  obtain ⟨⟨hc, ht, hs, hr⟩, hal, hac, hmk, hen⟩ := hok
  simp only at hc ht hs hr hal hac hmk hen
  obtain ⟨x, hx⟩ : ∃ x, x = Wig.fadd ac b := ⟨_, rfl⟩
  have x1 : x < 18446744073709551616 := by rw [hx]; exact Wig.fadd_lt0 _ _
  have CA := Lib.hid (fun w => (show Calls Try.prog 24 #[.int .u64 (ac : Int), .int .u64 (b : Int)] w fun e w' => e = .returned (.int .u64 (x : Int)) ∧ w = w' by rw [hx]; exact add_any ac b w hac hb))
  unfold Wig.gack Wig.gturn at he
  simp only at he
  rw [← hx] at he
  by_cases g : en ≤ m
  · rw [if_pos g] at he
    simp only at he
    injection he with r0 r5 r6 r7 r8 r9
    subst r6 r7 r8 r9
    have t1 : decide (en ≤ m) = true := decide_eq_true g
    have CI := Lib.hid (fun w => Rno.ack_any c t s r b a c' t' s' r' l w ⟨hc, ht, hs, hr⟩ hb ha r0)
    have CR := Lib.hid (fun (p : Nat) (w : World) (hv : BxPg p c t s r al x mk en cu w) (hp : p < w.heap.size) => endRound_any p c t s r al x mk en cu n al' w hv hp hal x1 hmk r5)
    clear r0 r5 hb ha hx x1 g hc ht hs hr hal hac hmk hen
    obtain ⟨w1, hw1⟩ : ∃ wx, wx = w.alloc (.cells #[.int .u64 (c : Int), .int .u64 (t : Int), .int .u64 (s : Int), .int .u64 (r : Int), .int .u64 (al : Int), .int .u64 (ac : Int), .int .u64 (mk : Int), .int .u64 (en : Int), .bool cu] 26) := ⟨_, rfl⟩
    have z1 : w1.heap.size = w.heap.size + 1 := by rw [hw1]; simp
    obtain ⟨w2, hw2⟩ : ∃ wx, wx = w1.alloc (.cells #[.int .u64 (nw : Int), .int .u64 (b : Int), .int .u64 (a : Int), .int .u64 (m : Int), .int .u64 (n : Int), .int .u64 (tk : Int), .int .u64 (fl : Int), .int .u64 (rt : Int), .bool l, .bool rd] 28) := ⟨_, rfl⟩
    have z2 : w2.heap.size = w.heap.size + 2 := by rw [hw2]; simp; omega
    obtain ⟨w3, hw3⟩ : ∃ wx, wx = w2.alloc (.cells #[.int .u64 0, .int .u64 0, .int .u64 0, .int .u64 0, .int .u64 0, .int .u64 0, .int .u64 0, .int .u64 0, .bool false] 26) := ⟨_, rfl⟩
    have z3 : w3.heap.size = w.heap.size + 3 := by rw [hw3]; simp; omega
    have t3 : Below w3.heap.size w3 w3 := Below.refl _ _
    have t2 : Below w2.heap.size w2 w3 := (show Below w2.heap.size w2 w3 by rw [hw3]; exact (Below.refl _ _).alloc (Nat.le_refl _) _).trans (t3.mono (by omega))
    have t1 : Below w1.heap.size w1 w3 := (show Below w1.heap.size w1 w2 by rw [hw2]; exact (Below.refl _ _).alloc (Nat.le_refl _) _).trans (t2.mono (by omega))
    have t0 : Below w.heap.size w w3 := (show Below w.heap.size w w1 by rw [hw1]; exact (Below.refl _ _).alloc (Nat.le_refl _) _).trans (t1.mono (by omega))
    have BN := Lib.hid t0
    have ZN := Lib.hid z3
    have XC := Lib.hid (show BxPg w.heap.size c t s r al ac mk en cu w3 from (show BxPg w.heap.size c t s r al ac mk en cu w1 by rw [hw1]; exact BxPg.new _ c t s r al ac mk en cu).below t1 (by omega))
    have XG := Lib.hid (show BxGt (w.heap.size + 1) nw b a m n tk fl rt l rd w3 from (show BxGt (w.heap.size + 1) nw b a m n tk fl rt l rd w2 by rw [hw2, ← z1]; exact BxGt.new _ nw b a m n tk fl rt l rd).below t2 (by omega))
    have XZ := Lib.hid (show BxPg (w.heap.size + 2) 0 0 0 0 0 0 0 0 false w3 from (show BxPg (w.heap.size + 2) 0 0 0 0 0 0 0 0 false w3 by rw [hw3, ← z2]; exact BxPg.new _ 0 0 0 0 0 0 0 0 false).below t3 (by omega))
    clear t0 t1 t2 t3 z1 z2 z3
    have B3 := BN
    have XC3 := XC
    have SC3 := Lib.hid (show w.heap.size < w3.heap.size by have := ZN.out; omega)
    have GC := Lib.hid (show w.heap.size ≤ w.heap.size by omega)
    have XG3 := XG
    have SG3 := Lib.hid (show (w.heap.size + 1) < w3.heap.size by have := ZN.out; omega)
    have GG := Lib.hid (show w.heap.size ≤ (w.heap.size + 1) by omega)
    have OCG := Lib.hid (show w.heap.size < (w.heap.size + 1) by omega)
    have XZ3 := XZ
    have SZ3 := Lib.hid (show (w.heap.size + 2) < w3.heap.size by have := ZN.out; omega)
    have GZ := Lib.hid (show w.heap.size ≤ (w.heap.size + 2) by omega)
    have OCZ := Lib.hid (show w.heap.size < (w.heap.size + 2) by omega)
    have OGZ := Lib.hid (show (w.heap.size + 1) < (w.heap.size + 2) by omega)
    clear ZN BN XC XG XZ
    go_enter Try.func9, Try.ntmps9
    go_upto_region 1 with fail
    rw [← hw1, ← hw2, ← hw3]
    clear hw1 hw2 hw3
    obtain ⟨k0, k1, k2, k3, k4, k5, k6, k7, k8, -, -, -, -, -, -, -, -, -⟩ := XC3.out
    go_wp2_with fail
    refine (opened_any c t s r al ac mk en cu _).mono ?_
    rintro e w4 ⟨rfl, hb⟩
    have B4 := Lib.hid (below_trans' B3.out hb)
    have XC4 := Lib.hid (XC3.out.below hb SC3.out)
    have SC4 := Lib.hid (Nat.lt_of_lt_of_le SC3.out hb.size)
    have XG4 := Lib.hid (XG3.out.below hb SG3.out)
    have SG4 := Lib.hid (Nat.lt_of_lt_of_le SG3.out hb.size)
    have XZ4 := Lib.hid (XZ3.out.below hb SZ3.out)
    have SZ4 := Lib.hid (Nat.lt_of_lt_of_le SZ3.out hb.size)
    clear k0 k1 k2 k3 k4 k5 k6 k7 k8
    clear hb B3 XC3 SC3 XG3 SG3 XZ3 SZ3
    go_upto_region 2 with fail
    obtain ⟨w5, hw⟩ : ∃ wx, wx = w4.alloc (.cells #[.int .u64 (c : Int), .int .u64 (t : Int), .int .u64 (s : Int), .int .u64 (r : Int), .int .u64 (al : Int), .int .u64 (ac : Int), .int .u64 (mk : Int), .int .u64 (en : Int), .bool cu] 49) := ⟨_, rfl⟩
    rw [← hw]
    obtain ⟨pV, hp⟩ : ∃ px, px = w4.heap.size := ⟨_, rfl⟩
    rw [← hp]
    have hb : Below w4.heap.size w4 w5 := by rw [hw]; exact (Below.refl _ _).alloc (Nat.le_refl _) _
    have hx : BxPg pV c t s r al ac mk en cu w5 := by rw [hp, hw]; exact BxPg.new _ c t s r al ac mk en cu
    have hs : pV < w5.heap.size := by rw [hp, hw]; simp
    have GV := Lib.hid (show w.heap.size ≤ pV by rw [hp]; exact B4.out.size)
    have OCV := Lib.hid (show w.heap.size < pV by rw [hp]; exact SC4.out)
    have OGV := Lib.hid (show (w.heap.size + 1) < pV by rw [hp]; exact SG4.out)
    have OZV := Lib.hid (show (w.heap.size + 2) < pV by rw [hp]; exact SZ4.out)
    have B5 := Lib.hid (below_trans' B4.out hb)
    have XC5 := Lib.hid (XC4.out.below hb SC4.out)
    have SC5 := Lib.hid (Nat.lt_of_lt_of_le SC4.out hb.size)
    have XG5 := Lib.hid (XG4.out.below hb SG4.out)
    have SG5 := Lib.hid (Nat.lt_of_lt_of_le SG4.out hb.size)
    have XZ5 := Lib.hid (XZ4.out.below hb SZ4.out)
    have SZ5 := Lib.hid (Nat.lt_of_lt_of_le SZ4.out hb.size)
    clear hb B4 XC4 SC4 XG4 SG4 XZ4 SZ4
    have XV5 := Lib.hid hx
    have SV5 := Lib.hid hs
    clear hx hs hw hp
    obtain ⟨v0, v1, v2, v3, v4, v5, v6, v7, v8, vf0, vf1, vf2, vf3, vf4, vf5, vf6, vf7, vf8⟩ := XV5.out
    have g1 := XG5.out.c1
    go_wp2_with fail
    refine (CA.out _).mono ?_
    rintro e _ ⟨rfl, rfl⟩
    go_upto_region 3 with fail
    obtain ⟨w6, hw⟩ : ∃ wx, wx = w5.setCell ⟨pV, 5, none⟩ (.int .u64 (x : Int)) := ⟨_, rfl⟩
    rw [← hw]
    have XV6 := Lib.hid (show BxPg pV c t s r al x mk en cu w6 by rw [hw]; exact XV5.out.set5)
    have B6 := Lib.hid (show Below w.heap.size w w6 by rw [hw]; exact Below.setCell B5.out GV.out _)
    have SV6 := Lib.hid (show pV < w6.heap.size by rw [hw]; have := SV5.out; simpa using this)
    have XC6 := Lib.hid (show BxPg w.heap.size c t s r al ac mk en cu w6 by rw [hw]; exact XC5.out.other rfl (Nat.ne_of_gt OCV.out))
    have SC6 := Lib.hid (show w.heap.size < w6.heap.size by rw [hw]; have := SC5.out; simpa using this)
    have XG6 := Lib.hid (show BxGt (w.heap.size + 1) nw b a m n tk fl rt l rd w6 by rw [hw]; exact XG5.out.other rfl (Nat.ne_of_gt OGV.out))
    have SG6 := Lib.hid (show (w.heap.size + 1) < w6.heap.size by rw [hw]; have := SG5.out; simpa using this)
    have XZ6 := Lib.hid (show BxPg (w.heap.size + 2) 0 0 0 0 0 0 0 0 false w6 by rw [hw]; exact XZ5.out.other rfl (Nat.ne_of_gt OZV.out))
    have SZ6 := Lib.hid (show (w.heap.size + 2) < w6.heap.size by rw [hw]; have := SZ5.out; simpa using this)
    clear v0 v1 v2 v3 v4 v5 v6 v7 v8 vf0 vf1 vf2 vf3 vf4 vf5 vf6 vf7 vf8 g1
    clear hw B5 XV5 SV5 XC5 SC5 XG5 SG5 XZ5 SZ5
    have v7 := XV6.out.c7
    have g3 := XG6.out.c3
    have g4 := XG6.out.c4
    go_wp2_with fail
    refine (CR.out pV _ XV6.out SV6.out).mono ?_
    rintro e w7 ⟨rfl, hx, hb⟩
    have B7 := Lib.hid (B6.out.trans (hb.mono GV.out))
    have XC7 := Lib.hid (XC6.out.below hb OCV.out)
    have SC7 := Lib.hid (Nat.lt_of_lt_of_le SC6.out hb.size)
    have XG7 := Lib.hid (XG6.out.below hb OGV.out)
    have SG7 := Lib.hid (Nat.lt_of_lt_of_le SG6.out hb.size)
    have XZ7 := Lib.hid (XZ6.out.below hb OZV.out)
    have SZ7 := Lib.hid (Nat.lt_of_lt_of_le SZ6.out hb.size)
    have SV7 := Lib.hid (Nat.lt_of_lt_of_le SV6.out hb.size)
    have XV7 := Lib.hid hx
    clear v7 g3 g4
    clear hx hb B6 XC6 SC6 XG6 SG6 XZ6 SZ6 XV6 SV6
    obtain ⟨v0, v1, v2, v3, v4, v5, v6, v7, v8, -, -, -, -, -, -, -, -, -⟩ := XV7.out
    have g1 := XG7.out.c1
    have g2 := XG7.out.c2
    have g8 := XG7.out.c8
    go_wp2_with fail
    refine (CI.out _).mono ?_
    rintro e w8 ⟨rfl, hb⟩
    have B8 := Lib.hid (below_trans' B7.out hb)
    have XC8 := Lib.hid (XC7.out.below hb SC7.out)
    have SC8 := Lib.hid (Nat.lt_of_lt_of_le SC7.out hb.size)
    have XG8 := Lib.hid (XG7.out.below hb SG7.out)
    have SG8 := Lib.hid (Nat.lt_of_lt_of_le SG7.out hb.size)
    have XZ8 := Lib.hid (XZ7.out.below hb SZ7.out)
    have SZ8 := Lib.hid (Nat.lt_of_lt_of_le SZ7.out hb.size)
    have XV8 := Lib.hid (XV7.out.below hb SV7.out)
    have SV8 := Lib.hid (Nat.lt_of_lt_of_le SV7.out hb.size)
    clear v0 v1 v2 v3 v4 v5 v6 v7 v8 g1 g2 g8
    clear hb B7 XC7 SC7 XG7 SG7 XZ7 SZ7 XV7 SV7
    obtain ⟨v0, v1, v2, v3, v4, v5, v6, v7, v8, vf0, vf1, vf2, vf3, vf4, vf5, vf6, vf7, vf8⟩ := XV8.out
    go_upto_region 6 with fail
    obtain ⟨w9, hw⟩ : ∃ wx, wx = w8.setCell ⟨pV, 0, none⟩ (.int .u64 (c' : Int)) := ⟨_, rfl⟩
    rw [← hw]
    have XV9 := Lib.hid (show BxPg pV c' t s r al' 0 0 n false w9 by rw [hw]; exact XV8.out.set0)
    have B9 := Lib.hid (show Below w.heap.size w w9 by rw [hw]; exact Below.setCell B8.out GV.out _)
    have SV9 := Lib.hid (show pV < w9.heap.size by rw [hw]; have := SV8.out; simpa using this)
    have XC9 := Lib.hid (show BxPg w.heap.size c t s r al ac mk en cu w9 by rw [hw]; exact XC8.out.other rfl (Nat.ne_of_gt OCV.out))
    have SC9 := Lib.hid (show w.heap.size < w9.heap.size by rw [hw]; have := SC8.out; simpa using this)
    have XG9 := Lib.hid (show BxGt (w.heap.size + 1) nw b a m n tk fl rt l rd w9 by rw [hw]; exact XG8.out.other rfl (Nat.ne_of_gt OGV.out))
    have SG9 := Lib.hid (show (w.heap.size + 1) < w9.heap.size by rw [hw]; have := SG8.out; simpa using this)
    have XZ9 := Lib.hid (show BxPg (w.heap.size + 2) 0 0 0 0 0 0 0 0 false w9 by rw [hw]; exact XZ8.out.other rfl (Nat.ne_of_gt OZV.out))
    have SZ9 := Lib.hid (show (w.heap.size + 2) < w9.heap.size by rw [hw]; have := SZ8.out; simpa using this)
    clear v0 v1 v2 v3 v4 v5 v6 v7 v8 vf0 vf1 vf2 vf3 vf4 vf5 vf6 vf7 vf8
    clear hw B8 XV8 SV8 XC8 SC8 XG8 SG8 XZ8 SZ8
    obtain ⟨w10, hw⟩ : ∃ wx, wx = w9.setCell ⟨pV, 1, none⟩ (.int .u64 (t' : Int)) := ⟨_, rfl⟩
    rw [← hw]
    have XV10 := Lib.hid (show BxPg pV c' t' s r al' 0 0 n false w10 by rw [hw]; exact XV9.out.set1)
    have B10 := Lib.hid (show Below w.heap.size w w10 by rw [hw]; exact Below.setCell B9.out GV.out _)
    have SV10 := Lib.hid (show pV < w10.heap.size by rw [hw]; have := SV9.out; simpa using this)
    have XC10 := Lib.hid (show BxPg w.heap.size c t s r al ac mk en cu w10 by rw [hw]; exact XC9.out.other rfl (Nat.ne_of_gt OCV.out))
    have SC10 := Lib.hid (show w.heap.size < w10.heap.size by rw [hw]; have := SC9.out; simpa using this)
    have XG10 := Lib.hid (show BxGt (w.heap.size + 1) nw b a m n tk fl rt l rd w10 by rw [hw]; exact XG9.out.other rfl (Nat.ne_of_gt OGV.out))
    have SG10 := Lib.hid (show (w.heap.size + 1) < w10.heap.size by rw [hw]; have := SG9.out; simpa using this)
    have XZ10 := Lib.hid (show BxPg (w.heap.size + 2) 0 0 0 0 0 0 0 0 false w10 by rw [hw]; exact XZ9.out.other rfl (Nat.ne_of_gt OZV.out))
    have SZ10 := Lib.hid (show (w.heap.size + 2) < w10.heap.size by rw [hw]; have := SZ9.out; simpa using this)
    clear hw B9 XV9 SV9 XC9 SC9 XG9 SG9 XZ9 SZ9
    obtain ⟨w11, hw⟩ : ∃ wx, wx = w10.setCell ⟨pV, 2, none⟩ (.int .u64 (s' : Int)) := ⟨_, rfl⟩
    rw [← hw]
    have XV11 := Lib.hid (show BxPg pV c' t' s' r al' 0 0 n false w11 by rw [hw]; exact XV10.out.set2)
    have B11 := Lib.hid (show Below w.heap.size w w11 by rw [hw]; exact Below.setCell B10.out GV.out _)
    have SV11 := Lib.hid (show pV < w11.heap.size by rw [hw]; have := SV10.out; simpa using this)
    have XC11 := Lib.hid (show BxPg w.heap.size c t s r al ac mk en cu w11 by rw [hw]; exact XC10.out.other rfl (Nat.ne_of_gt OCV.out))
    have SC11 := Lib.hid (show w.heap.size < w11.heap.size by rw [hw]; have := SC10.out; simpa using this)
    have XG11 := Lib.hid (show BxGt (w.heap.size + 1) nw b a m n tk fl rt l rd w11 by rw [hw]; exact XG10.out.other rfl (Nat.ne_of_gt OGV.out))
    have SG11 := Lib.hid (show (w.heap.size + 1) < w11.heap.size by rw [hw]; have := SG10.out; simpa using this)
    have XZ11 := Lib.hid (show BxPg (w.heap.size + 2) 0 0 0 0 0 0 0 0 false w11 by rw [hw]; exact XZ10.out.other rfl (Nat.ne_of_gt OZV.out))
    have SZ11 := Lib.hid (show (w.heap.size + 2) < w11.heap.size by rw [hw]; have := SZ10.out; simpa using this)
    clear hw B10 XV10 SV10 XC10 SC10 XG10 SG10 XZ10 SZ10
    obtain ⟨w12, hw⟩ : ∃ wx, wx = w11.setCell ⟨pV, 3, none⟩ (.int .u64 (r' : Int)) := ⟨_, rfl⟩
    rw [← hw]
    have XV12 := Lib.hid (show BxPg pV c' t' s' r' al' 0 0 n false w12 by rw [hw]; exact XV11.out.set3)
    have B12 := Lib.hid (show Below w.heap.size w w12 by rw [hw]; exact Below.setCell B11.out GV.out _)
    have SV12 := Lib.hid (show pV < w12.heap.size by rw [hw]; have := SV11.out; simpa using this)
    have XC12 := Lib.hid (show BxPg w.heap.size c t s r al ac mk en cu w12 by rw [hw]; exact XC11.out.other rfl (Nat.ne_of_gt OCV.out))
    have SC12 := Lib.hid (show w.heap.size < w12.heap.size by rw [hw]; have := SC11.out; simpa using this)
    have XG12 := Lib.hid (show BxGt (w.heap.size + 1) nw b a m n tk fl rt l rd w12 by rw [hw]; exact XG11.out.other rfl (Nat.ne_of_gt OGV.out))
    have SG12 := Lib.hid (show (w.heap.size + 1) < w12.heap.size by rw [hw]; have := SG11.out; simpa using this)
    have XZ12 := Lib.hid (show BxPg (w.heap.size + 2) 0 0 0 0 0 0 0 0 false w12 by rw [hw]; exact XZ11.out.other rfl (Nat.ne_of_gt OZV.out))
    have SZ12 := Lib.hid (show (w.heap.size + 2) < w12.heap.size by rw [hw]; have := SZ11.out; simpa using this)
    clear hw B11 XV11 SV11 XC11 SC11 XG11 SG11 XZ11 SZ11
    obtain ⟨v0, v1, v2, v3, v4, v5, v6, v7, v8, -, -, -, -, -, -, -, -, -⟩ := XV12.out
    go_wp2_with fail
    refine (told_any pV c' t' s' r' al' 0 0 n false _ XV12.out SV12.out).mono ?_
    rintro e w13 ⟨rfl, hb⟩
    have B13 := Lib.hid (below_trans' B12.out hb)
    have XC13 := Lib.hid (XC12.out.below hb SC12.out)
    have SC13 := Lib.hid (Nat.lt_of_lt_of_le SC12.out hb.size)
    have XG13 := Lib.hid (XG12.out.below hb SG12.out)
    have SG13 := Lib.hid (Nat.lt_of_lt_of_le SG12.out hb.size)
    have XZ13 := Lib.hid (XZ12.out.below hb SZ12.out)
    have SZ13 := Lib.hid (Nat.lt_of_lt_of_le SZ12.out hb.size)
    have XV13 := Lib.hid (XV12.out.below hb SV12.out)
    have SV13 := Lib.hid (Nat.lt_of_lt_of_le SV12.out hb.size)
    clear v0 v1 v2 v3 v4 v5 v6 v7 v8
    clear hb B12 XC12 SC12 XG12 SG12 XZ12 SZ12 XV12 SV12
    obtain ⟨z0, z1, z2, z3, z4, z5, z6, z7, z8, zf0, zf1, zf2, zf3, zf4, zf5, zf6, zf7, zf8⟩ := XZ13.out
    go_wp2_with fail
    show bodyPost _ _ _ _ _ (putPg (w.heap.size + 2) c' t' s' r' al' 0 0 n false w13)
    have BZ : Below w.heap.size w (putPg (w.heap.size + 2) c' t' s' r' al' 0 0 n false w13) := B13.out.trans (putPg_below GZ.out)
    obtain ⟨z0, z1, z2, z3, z4, z5, z6, z7, z8, -, -, -, -, -, -, -, -, -⟩ := (show BxPg (w.heap.size + 2) c' t' s' r' al' 0 0 n false (putPg (w.heap.size + 2) c' t' s' r' al' 0 0 n false w13) from XZ13.out.put)
    exact bodyPost_ret (v := aggPg c' t' s' r' al' 0 0 n false) (by simp [results, Try.results9, z0, z1, z2, z3, z4, z5, z6, z7, z8, go_sem]) rfl ⟨rfl, BZ⟩
  · rw [if_neg g] at he
    simp only at he
    injection he with r0 r5 r6 r7 r8 r9
    subst r5 r6 r7 r8 r9
    have t1 : decide (en ≤ m) = false := decide_eq_false g
    have CI := Lib.hid (fun w => Rno.ack_any c t s r b a c' t' s' r' l w ⟨hc, ht, hs, hr⟩ hb ha r0)
    clear r0 hb ha hx x1 g hc ht hs hr hal hac hmk hen
    obtain ⟨w1, hw1⟩ : ∃ wx, wx = w.alloc (.cells #[.int .u64 (c : Int), .int .u64 (t : Int), .int .u64 (s : Int), .int .u64 (r : Int), .int .u64 (al : Int), .int .u64 (ac : Int), .int .u64 (mk : Int), .int .u64 (en : Int), .bool cu] 26) := ⟨_, rfl⟩
    have z1 : w1.heap.size = w.heap.size + 1 := by rw [hw1]; simp
    obtain ⟨w2, hw2⟩ : ∃ wx, wx = w1.alloc (.cells #[.int .u64 (nw : Int), .int .u64 (b : Int), .int .u64 (a : Int), .int .u64 (m : Int), .int .u64 (n : Int), .int .u64 (tk : Int), .int .u64 (fl : Int), .int .u64 (rt : Int), .bool l, .bool rd] 28) := ⟨_, rfl⟩
    have z2 : w2.heap.size = w.heap.size + 2 := by rw [hw2]; simp; omega
    obtain ⟨w3, hw3⟩ : ∃ wx, wx = w2.alloc (.cells #[.int .u64 0, .int .u64 0, .int .u64 0, .int .u64 0, .int .u64 0, .int .u64 0, .int .u64 0, .int .u64 0, .bool false] 26) := ⟨_, rfl⟩
    have z3 : w3.heap.size = w.heap.size + 3 := by rw [hw3]; simp; omega
    have t3 : Below w3.heap.size w3 w3 := Below.refl _ _
    have t2 : Below w2.heap.size w2 w3 := (show Below w2.heap.size w2 w3 by rw [hw3]; exact (Below.refl _ _).alloc (Nat.le_refl _) _).trans (t3.mono (by omega))
    have t1 : Below w1.heap.size w1 w3 := (show Below w1.heap.size w1 w2 by rw [hw2]; exact (Below.refl _ _).alloc (Nat.le_refl _) _).trans (t2.mono (by omega))
    have t0 : Below w.heap.size w w3 := (show Below w.heap.size w w1 by rw [hw1]; exact (Below.refl _ _).alloc (Nat.le_refl _) _).trans (t1.mono (by omega))
    have BN := Lib.hid t0
    have ZN := Lib.hid z3
    have XC := Lib.hid (show BxPg w.heap.size c t s r al ac mk en cu w3 from (show BxPg w.heap.size c t s r al ac mk en cu w1 by rw [hw1]; exact BxPg.new _ c t s r al ac mk en cu).below t1 (by omega))
    have XG := Lib.hid (show BxGt (w.heap.size + 1) nw b a m n tk fl rt l rd w3 from (show BxGt (w.heap.size + 1) nw b a m n tk fl rt l rd w2 by rw [hw2, ← z1]; exact BxGt.new _ nw b a m n tk fl rt l rd).below t2 (by omega))
    have XZ := Lib.hid (show BxPg (w.heap.size + 2) 0 0 0 0 0 0 0 0 false w3 from (show BxPg (w.heap.size + 2) 0 0 0 0 0 0 0 0 false w3 by rw [hw3, ← z2]; exact BxPg.new _ 0 0 0 0 0 0 0 0 false).below t3 (by omega))
    clear t0 t1 t2 t3 z1 z2 z3
    have B3 := BN
    have XC3 := XC
    have SC3 := Lib.hid (show w.heap.size < w3.heap.size by have := ZN.out; omega)
    have GC := Lib.hid (show w.heap.size ≤ w.heap.size by omega)
    have XG3 := XG
    have SG3 := Lib.hid (show (w.heap.size + 1) < w3.heap.size by have := ZN.out; omega)
    have GG := Lib.hid (show w.heap.size ≤ (w.heap.size + 1) by omega)
    have OCG := Lib.hid (show w.heap.size < (w.heap.size + 1) by omega)
    have XZ3 := XZ
    have SZ3 := Lib.hid (show (w.heap.size + 2) < w3.heap.size by have := ZN.out; omega)
    have GZ := Lib.hid (show w.heap.size ≤ (w.heap.size + 2) by omega)
    have OCZ := Lib.hid (show w.heap.size < (w.heap.size + 2) by omega)
    have OGZ := Lib.hid (show (w.heap.size + 1) < (w.heap.size + 2) by omega)
    clear ZN BN XC XG XZ
    go_enter Try.func9, Try.ntmps9
    go_upto_region 1 with fail
    rw [← hw1, ← hw2, ← hw3]
    clear hw1 hw2 hw3
    obtain ⟨k0, k1, k2, k3, k4, k5, k6, k7, k8, -, -, -, -, -, -, -, -, -⟩ := XC3.out
    go_wp2_with fail
    refine (opened_any c t s r al ac mk en cu _).mono ?_
    rintro e w4 ⟨rfl, hb⟩
    have B4 := Lib.hid (below_trans' B3.out hb)
    have XC4 := Lib.hid (XC3.out.below hb SC3.out)
    have SC4 := Lib.hid (Nat.lt_of_lt_of_le SC3.out hb.size)
    have XG4 := Lib.hid (XG3.out.below hb SG3.out)
    have SG4 := Lib.hid (Nat.lt_of_lt_of_le SG3.out hb.size)
    have XZ4 := Lib.hid (XZ3.out.below hb SZ3.out)
    have SZ4 := Lib.hid (Nat.lt_of_lt_of_le SZ3.out hb.size)
    clear k0 k1 k2 k3 k4 k5 k6 k7 k8
    clear hb B3 XC3 SC3 XG3 SG3 XZ3 SZ3
    go_upto_region 2 with fail
    obtain ⟨w5, hw⟩ : ∃ wx, wx = w4.alloc (.cells #[.int .u64 (c : Int), .int .u64 (t : Int), .int .u64 (s : Int), .int .u64 (r : Int), .int .u64 (al : Int), .int .u64 (ac : Int), .int .u64 (mk : Int), .int .u64 (en : Int), .bool cu] 49) := ⟨_, rfl⟩
    rw [← hw]
    obtain ⟨pV, hp⟩ : ∃ px, px = w4.heap.size := ⟨_, rfl⟩
    rw [← hp]
    have hb : Below w4.heap.size w4 w5 := by rw [hw]; exact (Below.refl _ _).alloc (Nat.le_refl _) _
    have hx : BxPg pV c t s r al ac mk en cu w5 := by rw [hp, hw]; exact BxPg.new _ c t s r al ac mk en cu
    have hs : pV < w5.heap.size := by rw [hp, hw]; simp
    have GV := Lib.hid (show w.heap.size ≤ pV by rw [hp]; exact B4.out.size)
    have OCV := Lib.hid (show w.heap.size < pV by rw [hp]; exact SC4.out)
    have OGV := Lib.hid (show (w.heap.size + 1) < pV by rw [hp]; exact SG4.out)
    have OZV := Lib.hid (show (w.heap.size + 2) < pV by rw [hp]; exact SZ4.out)
    have B5 := Lib.hid (below_trans' B4.out hb)
    have XC5 := Lib.hid (XC4.out.below hb SC4.out)
    have SC5 := Lib.hid (Nat.lt_of_lt_of_le SC4.out hb.size)
    have XG5 := Lib.hid (XG4.out.below hb SG4.out)
    have SG5 := Lib.hid (Nat.lt_of_lt_of_le SG4.out hb.size)
    have XZ5 := Lib.hid (XZ4.out.below hb SZ4.out)
    have SZ5 := Lib.hid (Nat.lt_of_lt_of_le SZ4.out hb.size)
    clear hb B4 XC4 SC4 XG4 SG4 XZ4 SZ4
    have XV5 := Lib.hid hx
    have SV5 := Lib.hid hs
    clear hx hs hw hp
    obtain ⟨v0, v1, v2, v3, v4, v5, v6, v7, v8, vf0, vf1, vf2, vf3, vf4, vf5, vf6, vf7, vf8⟩ := XV5.out
    have g1 := XG5.out.c1
    go_wp2_with fail
    refine (CA.out _).mono ?_
    rintro e _ ⟨rfl, rfl⟩
    go_upto_region 3 with fail
    obtain ⟨w6, hw⟩ : ∃ wx, wx = w5.setCell ⟨pV, 5, none⟩ (.int .u64 (x : Int)) := ⟨_, rfl⟩
    rw [← hw]
    have XV6 := Lib.hid (show BxPg pV c t s r al x mk en cu w6 by rw [hw]; exact XV5.out.set5)
    have B6 := Lib.hid (show Below w.heap.size w w6 by rw [hw]; exact Below.setCell B5.out GV.out _)
    have SV6 := Lib.hid (show pV < w6.heap.size by rw [hw]; have := SV5.out; simpa using this)
    have XC6 := Lib.hid (show BxPg w.heap.size c t s r al ac mk en cu w6 by rw [hw]; exact XC5.out.other rfl (Nat.ne_of_gt OCV.out))
    have SC6 := Lib.hid (show w.heap.size < w6.heap.size by rw [hw]; have := SC5.out; simpa using this)
    have XG6 := Lib.hid (show BxGt (w.heap.size + 1) nw b a m n tk fl rt l rd w6 by rw [hw]; exact XG5.out.other rfl (Nat.ne_of_gt OGV.out))
    have SG6 := Lib.hid (show (w.heap.size + 1) < w6.heap.size by rw [hw]; have := SG5.out; simpa using this)
    have XZ6 := Lib.hid (show BxPg (w.heap.size + 2) 0 0 0 0 0 0 0 0 false w6 by rw [hw]; exact XZ5.out.other rfl (Nat.ne_of_gt OZV.out))
    have SZ6 := Lib.hid (show (w.heap.size + 2) < w6.heap.size by rw [hw]; have := SZ5.out; simpa using this)
    clear v0 v1 v2 v3 v4 v5 v6 v7 v8 vf0 vf1 vf2 vf3 vf4 vf5 vf6 vf7 vf8 g1
    clear hw B5 XV5 SV5 XC5 SC5 XG5 SG5 XZ5 SZ5
    have v7 := XV6.out.c7
    have g3 := XG6.out.c3
    go_upto_region 5 with fail
    clear v7 g3
    obtain ⟨v0, v1, v2, v3, v4, v5, v6, v7, v8, -, -, -, -, -, -, -, -, -⟩ := XV6.out
    have g1 := XG6.out.c1
    have g2 := XG6.out.c2
    have g8 := XG6.out.c8
    go_wp2_with fail
    refine (CI.out _).mono ?_
    rintro e w7 ⟨rfl, hb⟩
    have B7 := Lib.hid (below_trans' B6.out hb)
    have XC7 := Lib.hid (XC6.out.below hb SC6.out)
    have SC7 := Lib.hid (Nat.lt_of_lt_of_le SC6.out hb.size)
    have XG7 := Lib.hid (XG6.out.below hb SG6.out)
    have SG7 := Lib.hid (Nat.lt_of_lt_of_le SG6.out hb.size)
    have XZ7 := Lib.hid (XZ6.out.below hb SZ6.out)
    have SZ7 := Lib.hid (Nat.lt_of_lt_of_le SZ6.out hb.size)
    have XV7 := Lib.hid (XV6.out.below hb SV6.out)
    have SV7 := Lib.hid (Nat.lt_of_lt_of_le SV6.out hb.size)
    clear v0 v1 v2 v3 v4 v5 v6 v7 v8 g1 g2 g8
    clear hb B6 XC6 SC6 XG6 SG6 XZ6 SZ6 XV6 SV6
    obtain ⟨v0, v1, v2, v3, v4, v5, v6, v7, v8, vf0, vf1, vf2, vf3, vf4, vf5, vf6, vf7, vf8⟩ := XV7.out
    go_upto_region 6 with fail
    obtain ⟨w8, hw⟩ : ∃ wx, wx = w7.setCell ⟨pV, 0, none⟩ (.int .u64 (c' : Int)) := ⟨_, rfl⟩
    rw [← hw]
    have XV8 := Lib.hid (show BxPg pV c' t s r al x mk en cu w8 by rw [hw]; exact XV7.out.set0)
    have B8 := Lib.hid (show Below w.heap.size w w8 by rw [hw]; exact Below.setCell B7.out GV.out _)
    have SV8 := Lib.hid (show pV < w8.heap.size by rw [hw]; have := SV7.out; simpa using this)
    have XC8 := Lib.hid (show BxPg w.heap.size c t s r al ac mk en cu w8 by rw [hw]; exact XC7.out.other rfl (Nat.ne_of_gt OCV.out))
    have SC8 := Lib.hid (show w.heap.size < w8.heap.size by rw [hw]; have := SC7.out; simpa using this)
    have XG8 := Lib.hid (show BxGt (w.heap.size + 1) nw b a m n tk fl rt l rd w8 by rw [hw]; exact XG7.out.other rfl (Nat.ne_of_gt OGV.out))
    have SG8 := Lib.hid (show (w.heap.size + 1) < w8.heap.size by rw [hw]; have := SG7.out; simpa using this)
    have XZ8 := Lib.hid (show BxPg (w.heap.size + 2) 0 0 0 0 0 0 0 0 false w8 by rw [hw]; exact XZ7.out.other rfl (Nat.ne_of_gt OZV.out))
    have SZ8 := Lib.hid (show (w.heap.size + 2) < w8.heap.size by rw [hw]; have := SZ7.out; simpa using this)
    clear v0 v1 v2 v3 v4 v5 v6 v7 v8 vf0 vf1 vf2 vf3 vf4 vf5 vf6 vf7 vf8
    clear hw B7 XV7 SV7 XC7 SC7 XG7 SG7 XZ7 SZ7
    obtain ⟨w9, hw⟩ : ∃ wx, wx = w8.setCell ⟨pV, 1, none⟩ (.int .u64 (t' : Int)) := ⟨_, rfl⟩
    rw [← hw]
    have XV9 := Lib.hid (show BxPg pV c' t' s r al x mk en cu w9 by rw [hw]; exact XV8.out.set1)
    have B9 := Lib.hid (show Below w.heap.size w w9 by rw [hw]; exact Below.setCell B8.out GV.out _)
    have SV9 := Lib.hid (show pV < w9.heap.size by rw [hw]; have := SV8.out; simpa using this)
    have XC9 := Lib.hid (show BxPg w.heap.size c t s r al ac mk en cu w9 by rw [hw]; exact XC8.out.other rfl (Nat.ne_of_gt OCV.out))
    have SC9 := Lib.hid (show w.heap.size < w9.heap.size by rw [hw]; have := SC8.out; simpa using this)
    have XG9 := Lib.hid (show BxGt (w.heap.size + 1) nw b a m n tk fl rt l rd w9 by rw [hw]; exact XG8.out.other rfl (Nat.ne_of_gt OGV.out))
    have SG9 := Lib.hid (show (w.heap.size + 1) < w9.heap.size by rw [hw]; have := SG8.out; simpa using this)
    have XZ9 := Lib.hid (show BxPg (w.heap.size + 2) 0 0 0 0 0 0 0 0 false w9 by rw [hw]; exact XZ8.out.other rfl (Nat.ne_of_gt OZV.out))
    have SZ9 := Lib.hid (show (w.heap.size + 2) < w9.heap.size by rw [hw]; have := SZ8.out; simpa using this)
    clear hw B8 XV8 SV8 XC8 SC8 XG8 SG8 XZ8 SZ8
    obtain ⟨w10, hw⟩ : ∃ wx, wx = w9.setCell ⟨pV, 2, none⟩ (.int .u64 (s' : Int)) := ⟨_, rfl⟩
    rw [← hw]
    have XV10 := Lib.hid (show BxPg pV c' t' s' r al x mk en cu w10 by rw [hw]; exact XV9.out.set2)
    have B10 := Lib.hid (show Below w.heap.size w w10 by rw [hw]; exact Below.setCell B9.out GV.out _)
    have SV10 := Lib.hid (show pV < w10.heap.size by rw [hw]; have := SV9.out; simpa using this)
    have XC10 := Lib.hid (show BxPg w.heap.size c t s r al ac mk en cu w10 by rw [hw]; exact XC9.out.other rfl (Nat.ne_of_gt OCV.out))
    have SC10 := Lib.hid (show w.heap.size < w10.heap.size by rw [hw]; have := SC9.out; simpa using this)
    have XG10 := Lib.hid (show BxGt (w.heap.size + 1) nw b a m n tk fl rt l rd w10 by rw [hw]; exact XG9.out.other rfl (Nat.ne_of_gt OGV.out))
    have SG10 := Lib.hid (show (w.heap.size + 1) < w10.heap.size by rw [hw]; have := SG9.out; simpa using this)
    have XZ10 := Lib.hid (show BxPg (w.heap.size + 2) 0 0 0 0 0 0 0 0 false w10 by rw [hw]; exact XZ9.out.other rfl (Nat.ne_of_gt OZV.out))
    have SZ10 := Lib.hid (show (w.heap.size + 2) < w10.heap.size by rw [hw]; have := SZ9.out; simpa using this)
    clear hw B9 XV9 SV9 XC9 SC9 XG9 SG9 XZ9 SZ9
    obtain ⟨w11, hw⟩ : ∃ wx, wx = w10.setCell ⟨pV, 3, none⟩ (.int .u64 (r' : Int)) := ⟨_, rfl⟩
    rw [← hw]
    have XV11 := Lib.hid (show BxPg pV c' t' s' r' al x mk en cu w11 by rw [hw]; exact XV10.out.set3)
    have B11 := Lib.hid (show Below w.heap.size w w11 by rw [hw]; exact Below.setCell B10.out GV.out _)
    have SV11 := Lib.hid (show pV < w11.heap.size by rw [hw]; have := SV10.out; simpa using this)
    have XC11 := Lib.hid (show BxPg w.heap.size c t s r al ac mk en cu w11 by rw [hw]; exact XC10.out.other rfl (Nat.ne_of_gt OCV.out))
    have SC11 := Lib.hid (show w.heap.size < w11.heap.size by rw [hw]; have := SC10.out; simpa using this)
    have XG11 := Lib.hid (show BxGt (w.heap.size + 1) nw b a m n tk fl rt l rd w11 by rw [hw]; exact XG10.out.other rfl (Nat.ne_of_gt OGV.out))
    have SG11 := Lib.hid (show (w.heap.size + 1) < w11.heap.size by rw [hw]; have := SG10.out; simpa using this)
    have XZ11 := Lib.hid (show BxPg (w.heap.size + 2) 0 0 0 0 0 0 0 0 false w11 by rw [hw]; exact XZ10.out.other rfl (Nat.ne_of_gt OZV.out))
    have SZ11 := Lib.hid (show (w.heap.size + 2) < w11.heap.size by rw [hw]; have := SZ10.out; simpa using this)
    clear hw B10 XV10 SV10 XC10 SC10 XG10 SG10 XZ10 SZ10
    obtain ⟨v0, v1, v2, v3, v4, v5, v6, v7, v8, -, -, -, -, -, -, -, -, -⟩ := XV11.out
    go_wp2_with fail
    refine (told_any pV c' t' s' r' al x mk en cu _ XV11.out SV11.out).mono ?_
    rintro e w12 ⟨rfl, hb⟩
    have B12 := Lib.hid (below_trans' B11.out hb)
    have XC12 := Lib.hid (XC11.out.below hb SC11.out)
    have SC12 := Lib.hid (Nat.lt_of_lt_of_le SC11.out hb.size)
    have XG12 := Lib.hid (XG11.out.below hb SG11.out)
    have SG12 := Lib.hid (Nat.lt_of_lt_of_le SG11.out hb.size)
    have XZ12 := Lib.hid (XZ11.out.below hb SZ11.out)
    have SZ12 := Lib.hid (Nat.lt_of_lt_of_le SZ11.out hb.size)
    have XV12 := Lib.hid (XV11.out.below hb SV11.out)
    have SV12 := Lib.hid (Nat.lt_of_lt_of_le SV11.out hb.size)
    clear v0 v1 v2 v3 v4 v5 v6 v7 v8
    clear hb B11 XC11 SC11 XG11 SG11 XZ11 SZ11 XV11 SV11
    obtain ⟨z0, z1, z2, z3, z4, z5, z6, z7, z8, zf0, zf1, zf2, zf3, zf4, zf5, zf6, zf7, zf8⟩ := XZ12.out
    go_wp2_with fail
    show bodyPost _ _ _ _ _ (putPg (w.heap.size + 2) c' t' s' r' al x mk en cu w12)
    have BZ : Below w.heap.size w (putPg (w.heap.size + 2) c' t' s' r' al x mk en cu w12) := B12.out.trans (putPg_below GZ.out)
    obtain ⟨z0, z1, z2, z3, z4, z5, z6, z7, z8, -, -, -, -, -, -, -, -, -⟩ := (show BxPg (w.heap.size + 2) c' t' s' r' al x mk en cu (putPg (w.heap.size + 2) c' t' s' r' al x mk en cu w12) from XZ12.out.put)
    exact bodyPost_ret (v := aggPg c' t' s' r' al x mk en cu) (by simp [results, Try.results9, z0, z1, z2, z3, z4, z5, z6, z7, z8, go_sem]) rfl ⟨rfl, BZ⟩
end Go.Proofs.Ytpdmepblmjjeeaa
