/-
  What the document's Loss, Collapse, Mark and Ack of layer 14 return, for all numbers of 64 bits: the same as package prague's. No condition.
-/
import Derived.Test.YtpdmepblmjjeeaaPgB
import Derived.Deep.CutBlock
import Derived.Deep.DeepCutAuto
namespace Go.Proofs.Ytpdmepblmjjeeaa
open Go.ChangeShapes Go.WideShapes Go.ChangeAt Go.RowKit
set_option linter.unusedVariables false

set_option maxHeartbeats 8000000 in
theorem rloss_any (c t s r al ac mk en : Nat) (cu : Bool) (a n : Nat) (c' t' s' r' al' ac' mk' en' : Nat) (cu' : Bool) (w : World) (hok : Wig.Pg.Ok ⟨⟨c, t, s, r⟩, al, ac, mk, en, cu⟩) (ha : a < 18446744073709551616) (hn : n < 18446744073709551616) (he : Wig.gloss ⟨⟨c, t, s, r⟩, al, ac, mk, en, cu⟩ a n = ⟨⟨c', t', s', r'⟩, al', ac', mk', en', cu'⟩) :
    Calls Try.prog 14 #[aggPg c t s r al ac mk en cu, .int .u64 (a : Int), .int .u64 (n : Int)] w fun e w' => e = .returned (aggPg c' t' s' r' al' ac' mk' en' cu') ∧ Below w.heap.size w w' := by
  unfold Wig.gloss at he
  simp only at he
  injection he with r0 r5 r6 r7 r8 r9
  subst r5 r6 r7 r8 r9
  have CI := Lib.hid (fun w => Rno.rloss_any c t s r a n c' t' s' r' w hok.1 ha hn r0)
  clear r0 hok ha hn
  obtain ⟨w1, hw1⟩ : ∃ wx, wx = w.alloc (.cells #[.int .u64 (c : Int), .int .u64 (t : Int), .int .u64 (s : Int), .int .u64 (r : Int), .int .u64 (al : Int), .int .u64 (ac : Int), .int .u64 (mk : Int), .int .u64 (en : Int), .bool cu] 26) := ⟨_, rfl⟩
  have z1 : w1.heap.size = w.heap.size + 1 := by rw [hw1]; simp
  obtain ⟨w2, hw2⟩ : ∃ wx, wx = w1.alloc (.cells #[.int .u64 0, .int .u64 0, .int .u64 0, .int .u64 0, .int .u64 0, .int .u64 0, .int .u64 0, .int .u64 0, .bool false] 26) := ⟨_, rfl⟩
  have z2 : w2.heap.size = w.heap.size + 2 := by rw [hw2]; simp; omega
  have t2 : Below w2.heap.size w2 w2 := Below.refl _ _
  have t1 : Below w1.heap.size w1 w2 := (show Below w1.heap.size w1 w2 by rw [hw2]; exact (Below.refl _ _).alloc (Nat.le_refl _) _).trans (t2.mono (by omega))
  have t0 : Below w.heap.size w w2 := (show Below w.heap.size w w1 by rw [hw1]; exact (Below.refl _ _).alloc (Nat.le_refl _) _).trans (t1.mono (by omega))
  have BN := Lib.hid t0
  have ZN := Lib.hid z2
  have XC := Lib.hid (show BxPg w.heap.size c t s r al ac mk en cu w2 from (show BxPg w.heap.size c t s r al ac mk en cu w1 by rw [hw1]; exact BxPg.new _ c t s r al ac mk en cu).below t1 (by omega))
  have XZ := Lib.hid (show BxPg (w.heap.size + 1) 0 0 0 0 0 0 0 0 false w2 from (show BxPg (w.heap.size + 1) 0 0 0 0 0 0 0 0 false w2 by rw [hw2, ← z1]; exact BxPg.new _ 0 0 0 0 0 0 0 0 false).below t2 (by omega))
  clear t0 t1 t2 z1 z2
  have B2 := BN
  have XC2 := XC
  have SC2 := Lib.hid (show w.heap.size < w2.heap.size by have := ZN.out; omega)
  have GC := Lib.hid (show w.heap.size ≤ w.heap.size by omega)
  have XZ2 := XZ
  have SZ2 := Lib.hid (show (w.heap.size + 1) < w2.heap.size by have := ZN.out; omega)
  have GZ := Lib.hid (show w.heap.size ≤ (w.heap.size + 1) by omega)
  have OCZ := Lib.hid (show w.heap.size < (w.heap.size + 1) by omega)
  clear ZN BN XC XZ
  go_enter Try.func14, Try.ntmps14
  go_upto_region 1 with fail
  rw [← hw1, ← hw2]
  clear hw1 hw2
  obtain ⟨k0, k1, k2, k3, k4, k5, k6, k7, k8, -, -, -, -, -, -, -, -, -⟩ := XC2.out
  go_wp2_with fail
  refine (CI.out _).mono ?_
  rintro e w3 ⟨rfl, hb⟩
  have B3 := Lib.hid (below_trans' B2.out hb)
  have XC3 := Lib.hid (XC2.out.below hb SC2.out)
  have SC3 := Lib.hid (Nat.lt_of_lt_of_le SC2.out hb.size)
  have XZ3 := Lib.hid (XZ2.out.below hb SZ2.out)
  have SZ3 := Lib.hid (Nat.lt_of_lt_of_le SZ2.out hb.size)
  clear k0 k1 k2 k3 k4 k5 k6 k7 k8
  clear hb B2 XC2 SC2 XZ2 SZ2
  obtain ⟨k0, k1, k2, k3, k4, k5, k6, k7, k8, kf0, kf1, kf2, kf3, kf4, kf5, kf6, kf7, kf8⟩ := XC3.out
  go_upto_region 2 with fail
  obtain ⟨w4, hw⟩ : ∃ wx, wx = w3.setCell ⟨w.heap.size, 0, none⟩ (.int .u64 (c' : Int)) := ⟨_, rfl⟩
  rw [← hw]
  have XC4 := Lib.hid (show BxPg w.heap.size c' t s r al ac mk en cu w4 by rw [hw]; exact XC3.out.set0)
  have B4 := Lib.hid (show Below w.heap.size w w4 by rw [hw]; exact Below.setCell B3.out GC.out _)
  have SC4 := Lib.hid (show w.heap.size < w4.heap.size by rw [hw]; have := SC3.out; simpa using this)
  have XZ4 := Lib.hid (show BxPg (w.heap.size + 1) 0 0 0 0 0 0 0 0 false w4 by rw [hw]; exact XZ3.out.other rfl (Nat.ne_of_lt OCZ.out))
  have SZ4 := Lib.hid (show (w.heap.size + 1) < w4.heap.size by rw [hw]; have := SZ3.out; simpa using this)
  clear k0 k1 k2 k3 k4 k5 k6 k7 k8 kf0 kf1 kf2 kf3 kf4 kf5 kf6 kf7 kf8
  clear hw B3 XC3 SC3 XZ3 SZ3
  obtain ⟨w5, hw⟩ : ∃ wx, wx = w4.setCell ⟨w.heap.size, 1, none⟩ (.int .u64 (t' : Int)) := ⟨_, rfl⟩
  rw [← hw]
  have XC5 := Lib.hid (show BxPg w.heap.size c' t' s r al ac mk en cu w5 by rw [hw]; exact XC4.out.set1)
  have B5 := Lib.hid (show Below w.heap.size w w5 by rw [hw]; exact Below.setCell B4.out GC.out _)
  have SC5 := Lib.hid (show w.heap.size < w5.heap.size by rw [hw]; have := SC4.out; simpa using this)
  have XZ5 := Lib.hid (show BxPg (w.heap.size + 1) 0 0 0 0 0 0 0 0 false w5 by rw [hw]; exact XZ4.out.other rfl (Nat.ne_of_lt OCZ.out))
  have SZ5 := Lib.hid (show (w.heap.size + 1) < w5.heap.size by rw [hw]; have := SZ4.out; simpa using this)
  clear hw B4 XC4 SC4 XZ4 SZ4
  obtain ⟨w6, hw⟩ : ∃ wx, wx = w5.setCell ⟨w.heap.size, 2, none⟩ (.int .u64 (s' : Int)) := ⟨_, rfl⟩
  rw [← hw]
  have XC6 := Lib.hid (show BxPg w.heap.size c' t' s' r al ac mk en cu w6 by rw [hw]; exact XC5.out.set2)
  have B6 := Lib.hid (show Below w.heap.size w w6 by rw [hw]; exact Below.setCell B5.out GC.out _)
  have SC6 := Lib.hid (show w.heap.size < w6.heap.size by rw [hw]; have := SC5.out; simpa using this)
  have XZ6 := Lib.hid (show BxPg (w.heap.size + 1) 0 0 0 0 0 0 0 0 false w6 by rw [hw]; exact XZ5.out.other rfl (Nat.ne_of_lt OCZ.out))
  have SZ6 := Lib.hid (show (w.heap.size + 1) < w6.heap.size by rw [hw]; have := SZ5.out; simpa using this)
  clear hw B5 XC5 SC5 XZ5 SZ5
  obtain ⟨w7, hw⟩ : ∃ wx, wx = w6.setCell ⟨w.heap.size, 3, none⟩ (.int .u64 (r' : Int)) := ⟨_, rfl⟩
  rw [← hw]
  have XC7 := Lib.hid (show BxPg w.heap.size c' t' s' r' al ac mk en cu w7 by rw [hw]; exact XC6.out.set3)
  have B7 := Lib.hid (show Below w.heap.size w w7 by rw [hw]; exact Below.setCell B6.out GC.out _)
  have SC7 := Lib.hid (show w.heap.size < w7.heap.size by rw [hw]; have := SC6.out; simpa using this)
  have XZ7 := Lib.hid (show BxPg (w.heap.size + 1) 0 0 0 0 0 0 0 0 false w7 by rw [hw]; exact XZ6.out.other rfl (Nat.ne_of_lt OCZ.out))
  have SZ7 := Lib.hid (show (w.heap.size + 1) < w7.heap.size by rw [hw]; have := SZ6.out; simpa using this)
  clear hw B6 XC6 SC6 XZ6 SZ6
  obtain ⟨k0, k1, k2, k3, k4, k5, k6, k7, k8, -, -, -, -, -, -, -, -, -⟩ := XC7.out
  obtain ⟨z0, z1, z2, z3, z4, z5, z6, z7, z8, zf0, zf1, zf2, zf3, zf4, zf5, zf6, zf7, zf8⟩ := XZ7.out
  go_wp2_with fail
  show bodyPost _ _ _ _ _ (putPg (w.heap.size + 1) c' t' s' r' al ac mk en cu w7)
  have BZ : Below w.heap.size w (putPg (w.heap.size + 1) c' t' s' r' al ac mk en cu w7) := B7.out.trans (putPg_below GZ.out)
  obtain ⟨z0, z1, z2, z3, z4, z5, z6, z7, z8, -, -, -, -, -, -, -, -, -⟩ := (show BxPg (w.heap.size + 1) c' t' s' r' al ac mk en cu (putPg (w.heap.size + 1) c' t' s' r' al ac mk en cu w7) from XZ7.out.put)
  exact bodyPost_ret (v := aggPg c' t' s' r' al ac mk en cu) (by simp [results, Try.results14, z0, z1, z2, z3, z4, z5, z6, z7, z8, go_sem]) rfl ⟨rfl, BZ⟩
set_option maxHeartbeats 2000000 in
theorem rcoll_any (c t s r al ac mk en : Nat) (cu : Bool) (w : World) : Calls Try.prog 16 #[aggPg c t s r al ac mk en cu] w fun e w' => e = .returned (aggPg 2400 t 0 0 al ac mk en cu) ∧ Below w.heap.size w w' := by
  obtain ⟨w1, hw1⟩ : ∃ wx, wx = w.alloc (.cells #[.int .u64 (c : Int), .int .u64 (t : Int), .int .u64 (s : Int), .int .u64 (r : Int), .int .u64 (al : Int), .int .u64 (ac : Int), .int .u64 (mk : Int), .int .u64 (en : Int), .bool cu] 26) := ⟨_, rfl⟩
  have z1 : w1.heap.size = w.heap.size + 1 := by rw [hw1]; simp
  obtain ⟨w2, hw2⟩ : ∃ wx, wx = w1.alloc (.cells #[.int .u64 0, .int .u64 0, .int .u64 0, .int .u64 0, .int .u64 0, .int .u64 0, .int .u64 0, .int .u64 0, .bool false] 26) := ⟨_, rfl⟩
  have z2 : w2.heap.size = w.heap.size + 2 := by rw [hw2]; simp; omega
  have t2 : Below w2.heap.size w2 w2 := Below.refl _ _
  have t1 : Below w1.heap.size w1 w2 := (show Below w1.heap.size w1 w2 by rw [hw2]; exact (Below.refl _ _).alloc (Nat.le_refl _) _).trans (t2.mono (by omega))
  have t0 : Below w.heap.size w w2 := (show Below w.heap.size w w1 by rw [hw1]; exact (Below.refl _ _).alloc (Nat.le_refl _) _).trans (t1.mono (by omega))
  have BN := Lib.hid t0
  have ZN := Lib.hid z2
  have XC := Lib.hid (show BxPg w.heap.size c t s r al ac mk en cu w2 from (show BxPg w.heap.size c t s r al ac mk en cu w1 by rw [hw1]; exact BxPg.new _ c t s r al ac mk en cu).below t1 (by omega))
  have XZ := Lib.hid (show BxPg (w.heap.size + 1) 0 0 0 0 0 0 0 0 false w2 from (show BxPg (w.heap.size + 1) 0 0 0 0 0 0 0 0 false w2 by rw [hw2, ← z1]; exact BxPg.new _ 0 0 0 0 0 0 0 0 false).below t2 (by omega))
  clear t0 t1 t2 z1 z2
  have B2 := BN
  have XC2 := XC
  have SC2 := Lib.hid (show w.heap.size < w2.heap.size by have := ZN.out; omega)
  have GC := Lib.hid (show w.heap.size ≤ w.heap.size by omega)
  have XZ2 := XZ
  have SZ2 := Lib.hid (show (w.heap.size + 1) < w2.heap.size by have := ZN.out; omega)
  have GZ := Lib.hid (show w.heap.size ≤ (w.heap.size + 1) by omega)
  have OCZ := Lib.hid (show w.heap.size < (w.heap.size + 1) by omega)
  clear ZN BN XC XZ
  go_enter Try.func16, Try.ntmps16
  go_upto_region 1 with fail
  rw [← hw1, ← hw2]
  clear hw1 hw2
  obtain ⟨k0, k1, k2, k3, k4, k5, k6, k7, k8, -, -, -, -, -, -, -, -, -⟩ := XC2.out
  go_wp2_with fail
  refine (Rno.rcoll_any c t s r _).mono ?_
  rintro e w3 ⟨rfl, hb⟩
  have B3 := Lib.hid (below_trans' B2.out hb)
  have XC3 := Lib.hid (XC2.out.below hb SC2.out)
  have SC3 := Lib.hid (Nat.lt_of_lt_of_le SC2.out hb.size)
  have XZ3 := Lib.hid (XZ2.out.below hb SZ2.out)
  have SZ3 := Lib.hid (Nat.lt_of_lt_of_le SZ2.out hb.size)
  clear k0 k1 k2 k3 k4 k5 k6 k7 k8
  clear hb B2 XC2 SC2 XZ2 SZ2
  obtain ⟨k0, k1, k2, k3, k4, k5, k6, k7, k8, kf0, kf1, kf2, kf3, kf4, kf5, kf6, kf7, kf8⟩ := XC3.out
  go_upto_region 2 with fail
  obtain ⟨w4, hw⟩ : ∃ wx, wx = w3.setCell ⟨w.heap.size, 0, none⟩ (.int .u64 2400) := ⟨_, rfl⟩
  rw [← hw]
  have XC4 := Lib.hid (show BxPg w.heap.size 2400 t s r al ac mk en cu w4 by rw [hw]; exact XC3.out.set0)
  have B4 := Lib.hid (show Below w.heap.size w w4 by rw [hw]; exact Below.setCell B3.out GC.out _)
  have SC4 := Lib.hid (show w.heap.size < w4.heap.size by rw [hw]; have := SC3.out; simpa using this)
  have XZ4 := Lib.hid (show BxPg (w.heap.size + 1) 0 0 0 0 0 0 0 0 false w4 by rw [hw]; exact XZ3.out.other rfl (Nat.ne_of_lt OCZ.out))
  have SZ4 := Lib.hid (show (w.heap.size + 1) < w4.heap.size by rw [hw]; have := SZ3.out; simpa using this)
  clear k0 k1 k2 k3 k4 k5 k6 k7 k8 kf0 kf1 kf2 kf3 kf4 kf5 kf6 kf7 kf8
  clear hw B3 XC3 SC3 XZ3 SZ3
  obtain ⟨w5, hw⟩ : ∃ wx, wx = w4.setCell ⟨w.heap.size, 1, none⟩ (.int .u64 (t : Int)) := ⟨_, rfl⟩
  rw [← hw]
  have XC5 := Lib.hid (show BxPg w.heap.size 2400 t s r al ac mk en cu w5 by rw [hw]; exact XC4.out.set1)
  have B5 := Lib.hid (show Below w.heap.size w w5 by rw [hw]; exact Below.setCell B4.out GC.out _)
  have SC5 := Lib.hid (show w.heap.size < w5.heap.size by rw [hw]; have := SC4.out; simpa using this)
  have XZ5 := Lib.hid (show BxPg (w.heap.size + 1) 0 0 0 0 0 0 0 0 false w5 by rw [hw]; exact XZ4.out.other rfl (Nat.ne_of_lt OCZ.out))
  have SZ5 := Lib.hid (show (w.heap.size + 1) < w5.heap.size by rw [hw]; have := SZ4.out; simpa using this)
  clear hw B4 XC4 SC4 XZ4 SZ4
  obtain ⟨w6, hw⟩ : ∃ wx, wx = w5.setCell ⟨w.heap.size, 2, none⟩ (.int .u64 0) := ⟨_, rfl⟩
  rw [← hw]
  have XC6 := Lib.hid (show BxPg w.heap.size 2400 t 0 r al ac mk en cu w6 by rw [hw]; exact XC5.out.set2)
  have B6 := Lib.hid (show Below w.heap.size w w6 by rw [hw]; exact Below.setCell B5.out GC.out _)
  have SC6 := Lib.hid (show w.heap.size < w6.heap.size by rw [hw]; have := SC5.out; simpa using this)
  have XZ6 := Lib.hid (show BxPg (w.heap.size + 1) 0 0 0 0 0 0 0 0 false w6 by rw [hw]; exact XZ5.out.other rfl (Nat.ne_of_lt OCZ.out))
  have SZ6 := Lib.hid (show (w.heap.size + 1) < w6.heap.size by rw [hw]; have := SZ5.out; simpa using this)
  clear hw B5 XC5 SC5 XZ5 SZ5
  obtain ⟨w7, hw⟩ : ∃ wx, wx = w6.setCell ⟨w.heap.size, 3, none⟩ (.int .u64 0) := ⟨_, rfl⟩
  rw [← hw]
  have XC7 := Lib.hid (show BxPg w.heap.size 2400 t 0 0 al ac mk en cu w7 by rw [hw]; exact XC6.out.set3)
  have B7 := Lib.hid (show Below w.heap.size w w7 by rw [hw]; exact Below.setCell B6.out GC.out _)
  have SC7 := Lib.hid (show w.heap.size < w7.heap.size by rw [hw]; have := SC6.out; simpa using this)
  have XZ7 := Lib.hid (show BxPg (w.heap.size + 1) 0 0 0 0 0 0 0 0 false w7 by rw [hw]; exact XZ6.out.other rfl (Nat.ne_of_lt OCZ.out))
  have SZ7 := Lib.hid (show (w.heap.size + 1) < w7.heap.size by rw [hw]; have := SZ6.out; simpa using this)
  clear hw B6 XC6 SC6 XZ6 SZ6
  obtain ⟨k0, k1, k2, k3, k4, k5, k6, k7, k8, -, -, -, -, -, -, -, -, -⟩ := XC7.out
  obtain ⟨z0, z1, z2, z3, z4, z5, z6, z7, z8, zf0, zf1, zf2, zf3, zf4, zf5, zf6, zf7, zf8⟩ := XZ7.out
  go_wp2_with fail
  show bodyPost _ _ _ _ _ (putPg (w.heap.size + 1) 2400 t 0 0 al ac mk en cu w7)
  have BZ : Below w.heap.size w (putPg (w.heap.size + 1) 2400 t 0 0 al ac mk en cu w7) := B7.out.trans (putPg_below GZ.out)
  obtain ⟨z0, z1, z2, z3, z4, z5, z6, z7, z8, -, -, -, -, -, -, -, -, -⟩ := (show BxPg (w.heap.size + 1) 2400 t 0 0 al ac mk en cu (putPg (w.heap.size + 1) 2400 t 0 0 al ac mk en cu w7) from XZ7.out.put)
  exact bodyPost_ret (v := aggPg 2400 t 0 0 al ac mk en cu) (by simp [results, Try.results16, z0, z1, z2, z3, z4, z5, z6, z7, z8, go_sem]) rfl ⟨rfl, BZ⟩
set_option maxHeartbeats 8000000 in
theorem rmark_any (c t s r al ac mk en : Nat) (cu : Bool) (b a : Nat) (c' t' s' r' al' ac' mk' en' : Nat) (cu' : Bool) (w : World) (hok : Wig.Pg.Ok ⟨⟨c, t, s, r⟩, al, ac, mk, en, cu⟩) (hb : b < 18446744073709551616) (ha : a < 18446744073709551616) (he : Wig.gmark ⟨⟨c, t, s, r⟩, al, ac, mk, en, cu⟩ b a = ⟨⟨c', t', s', r'⟩, al', ac', mk', en', cu'⟩) :
    Calls Try.prog 12 #[aggPg c t s r al ac mk en cu, .int .u64 (b : Int), .int .u64 (a : Int)] w fun e w' => e = .returned (aggPg c' t' s' r' al' ac' mk' en' cu') ∧ Below w.heap.size w w' := by
  obtain ⟨⟨hc, ht, hs, hr⟩, hal, hac, hmk, hen⟩ := hok
  simp only at hc ht hs hr hal hac hmk hen
  obtain ⟨x, hx⟩ : ∃ x, x = Wig.fadd mk b := ⟨_, rfl⟩
  have CA := Lib.hid (fun w => (show Calls Try.prog 27 #[.int .u64 (mk : Int), .int .u64 (b : Int)] w fun e w' => e = .returned (.int .u64 (x : Int)) ∧ w = w' by rw [hx]; exact radd_any mk b w hmk hb))
  unfold Wig.gmark at he
  simp only at he
  rw [← hx] at he
  by_cases hcu : cu = true
  · subst hcu
    rw [if_pos (.inl rfl)] at he
    injection he with r0 r5 r6 r7 r8 r9
    injection r0 with r1 r2 r3 r4
    subst r1 r2 r3 r4 r5 r6 r7 r8 r9
    clear hb ha hx hc ht hs hr hal hac hmk hen
    obtain ⟨w1, hw1⟩ : ∃ wx, wx = w.alloc (.cells #[.int .u64 (c : Int), .int .u64 (t : Int), .int .u64 (s : Int), .int .u64 (r : Int), .int .u64 (al : Int), .int .u64 (ac : Int), .int .u64 (mk : Int), .int .u64 (en : Int), .bool true] 26) := ⟨_, rfl⟩
    have z1 : w1.heap.size = w.heap.size + 1 := by rw [hw1]; simp
    obtain ⟨w2, hw2⟩ : ∃ wx, wx = w1.alloc (.cells #[.int .u64 0, .int .u64 0, .int .u64 0, .int .u64 0, .int .u64 0, .int .u64 0, .int .u64 0, .int .u64 0, .bool false] 26) := ⟨_, rfl⟩
    have z2 : w2.heap.size = w.heap.size + 2 := by rw [hw2]; simp; omega
    have t2 : Below w2.heap.size w2 w2 := Below.refl _ _
    have t1 : Below w1.heap.size w1 w2 := (show Below w1.heap.size w1 w2 by rw [hw2]; exact (Below.refl _ _).alloc (Nat.le_refl _) _).trans (t2.mono (by omega))
    have t0 : Below w.heap.size w w2 := (show Below w.heap.size w w1 by rw [hw1]; exact (Below.refl _ _).alloc (Nat.le_refl _) _).trans (t1.mono (by omega))
    have BN := Lib.hid t0
    have ZN := Lib.hid z2
    have XC := Lib.hid (show BxPg w.heap.size c t s r al ac mk en true w2 from (show BxPg w.heap.size c t s r al ac mk en true w1 by rw [hw1]; exact BxPg.new _ c t s r al ac mk en true).below t1 (by omega))
    have XZ := Lib.hid (show BxPg (w.heap.size + 1) 0 0 0 0 0 0 0 0 false w2 from (show BxPg (w.heap.size + 1) 0 0 0 0 0 0 0 0 false w2 by rw [hw2, ← z1]; exact BxPg.new _ 0 0 0 0 0 0 0 0 false).below t2 (by omega))
    clear t0 t1 t2 z1 z2
    have B2 := BN
    have XC2 := XC
    have SC2 := Lib.hid (show w.heap.size < w2.heap.size by have := ZN.out; omega)
    have GC := Lib.hid (show w.heap.size ≤ w.heap.size by omega)
    have XZ2 := XZ
    have SZ2 := Lib.hid (show (w.heap.size + 1) < w2.heap.size by have := ZN.out; omega)
    have GZ := Lib.hid (show w.heap.size ≤ (w.heap.size + 1) by omega)
    have OCZ := Lib.hid (show w.heap.size < (w.heap.size + 1) by omega)
    clear ZN BN XC XZ
    go_enter Try.func12, Try.ntmps12
    go_upto_region 1 with fail
    rw [← hw1, ← hw2]
    clear hw1 hw2
    obtain ⟨k0, k1, k2, k3, k4, k5, k6, k7, k8, kf0, kf1, kf2, kf3, kf4, kf5, kf6, kf7, kf8⟩ := XC2.out
    go_wp2_with fail
    refine (CA.out _).mono ?_
    rintro e _ ⟨rfl, rfl⟩
    go_upto_region 2 with fail
    obtain ⟨w3, hw⟩ : ∃ wx, wx = w2.setCell ⟨w.heap.size, 6, none⟩ (.int .u64 (x : Int)) := ⟨_, rfl⟩
    rw [← hw]
    have XC3 := Lib.hid (show BxPg w.heap.size c t s r al ac x en true w3 by rw [hw]; exact XC2.out.set6)
    have B3 := Lib.hid (show Below w.heap.size w w3 by rw [hw]; exact Below.setCell B2.out GC.out _)
    have SC3 := Lib.hid (show w.heap.size < w3.heap.size by rw [hw]; have := SC2.out; simpa using this)
    have XZ3 := Lib.hid (show BxPg (w.heap.size + 1) 0 0 0 0 0 0 0 0 false w3 by rw [hw]; exact XZ2.out.other rfl (Nat.ne_of_lt OCZ.out))
    have SZ3 := Lib.hid (show (w.heap.size + 1) < w3.heap.size by rw [hw]; have := SZ2.out; simpa using this)
    clear k0 k1 k2 k3 k4 k5 k6 k7 k8 kf0 kf1 kf2 kf3 kf4 kf5 kf6 kf7 kf8
    clear hw B2 XC2 SC2 XZ2 SZ2
    obtain ⟨k0, k1, k2, k3, k4, k5, k6, k7, k8, -, -, -, -, -, -, -, -, -⟩ := XC3.out
    obtain ⟨z0, z1, z2, z3, z4, z5, z6, z7, z8, zf0, zf1, zf2, zf3, zf4, zf5, zf6, zf7, zf8⟩ := XZ3.out
    go_wp2_with fail
    show bodyPost _ _ _ _ _ (putPg (w.heap.size + 1) c t s r al ac x en true w3)
    have BZ : Below w.heap.size w (putPg (w.heap.size + 1) c t s r al ac x en true w3) := B3.out.trans (putPg_below GZ.out)
    obtain ⟨z0, z1, z2, z3, z4, z5, z6, z7, z8, -, -, -, -, -, -, -, -, -⟩ := (show BxPg (w.heap.size + 1) c t s r al ac x en true (putPg (w.heap.size + 1) c t s r al ac x en true w3) from XZ3.out.put)
    exact bodyPost_ret (v := aggPg c t s r al ac x en true) (by simp [results, Try.results12, z0, z1, z2, z3, z4, z5, z6, z7, z8, go_sem]) rfl ⟨rfl, BZ⟩
  · obtain rfl : cu = false := by simpa using hcu
    clear hcu
    by_cases g : a < s
    · have t1 : decide (a < s) = true := decide_eq_true g
      rw [if_pos (.inr g)] at he
      injection he with r0 r5 r6 r7 r8 r9
      injection r0 with r1 r2 r3 r4
      subst r1 r2 r3 r4 r5 r6 r7 r8 r9
      clear hb ha hx g hc ht hs hr hal hac hmk hen
      obtain ⟨w1, hw1⟩ : ∃ wx, wx = w.alloc (.cells #[.int .u64 (c : Int), .int .u64 (t : Int), .int .u64 (s : Int), .int .u64 (r : Int), .int .u64 (al : Int), .int .u64 (ac : Int), .int .u64 (mk : Int), .int .u64 (en : Int), .bool false] 26) := ⟨_, rfl⟩
      have z1 : w1.heap.size = w.heap.size + 1 := by rw [hw1]; simp
      obtain ⟨w2, hw2⟩ : ∃ wx, wx = w1.alloc (.cells #[.int .u64 0, .int .u64 0, .int .u64 0, .int .u64 0, .int .u64 0, .int .u64 0, .int .u64 0, .int .u64 0, .bool false] 26) := ⟨_, rfl⟩
      have z2 : w2.heap.size = w.heap.size + 2 := by rw [hw2]; simp; omega
      have t2 : Below w2.heap.size w2 w2 := Below.refl _ _
      have t1 : Below w1.heap.size w1 w2 := (show Below w1.heap.size w1 w2 by rw [hw2]; exact (Below.refl _ _).alloc (Nat.le_refl _) _).trans (t2.mono (by omega))
      have t0 : Below w.heap.size w w2 := (show Below w.heap.size w w1 by rw [hw1]; exact (Below.refl _ _).alloc (Nat.le_refl _) _).trans (t1.mono (by omega))
      have BN := Lib.hid t0
      have ZN := Lib.hid z2
      have XC := Lib.hid (show BxPg w.heap.size c t s r al ac mk en false w2 from (show BxPg w.heap.size c t s r al ac mk en false w1 by rw [hw1]; exact BxPg.new _ c t s r al ac mk en false).below t1 (by omega))
      have XZ := Lib.hid (show BxPg (w.heap.size + 1) 0 0 0 0 0 0 0 0 false w2 from (show BxPg (w.heap.size + 1) 0 0 0 0 0 0 0 0 false w2 by rw [hw2, ← z1]; exact BxPg.new _ 0 0 0 0 0 0 0 0 false).below t2 (by omega))
      clear t0 t1 t2 z1 z2
      have B2 := BN
      have XC2 := XC
      have SC2 := Lib.hid (show w.heap.size < w2.heap.size by have := ZN.out; omega)
      have GC := Lib.hid (show w.heap.size ≤ w.heap.size by omega)
      have XZ2 := XZ
      have SZ2 := Lib.hid (show (w.heap.size + 1) < w2.heap.size by have := ZN.out; omega)
      have GZ := Lib.hid (show w.heap.size ≤ (w.heap.size + 1) by omega)
      have OCZ := Lib.hid (show w.heap.size < (w.heap.size + 1) by omega)
      clear ZN BN XC XZ
      go_enter Try.func12, Try.ntmps12
      go_upto_region 1 with fail
      rw [← hw1, ← hw2]
      clear hw1 hw2
      obtain ⟨k0, k1, k2, k3, k4, k5, k6, k7, k8, kf0, kf1, kf2, kf3, kf4, kf5, kf6, kf7, kf8⟩ := XC2.out
      go_wp2_with fail
      refine (CA.out _).mono ?_
      rintro e _ ⟨rfl, rfl⟩
      go_upto_region 2 with fail
      obtain ⟨w3, hw⟩ : ∃ wx, wx = w2.setCell ⟨w.heap.size, 6, none⟩ (.int .u64 (x : Int)) := ⟨_, rfl⟩
      rw [← hw]
      have XC3 := Lib.hid (show BxPg w.heap.size c t s r al ac x en false w3 by rw [hw]; exact XC2.out.set6)
      have B3 := Lib.hid (show Below w.heap.size w w3 by rw [hw]; exact Below.setCell B2.out GC.out _)
      have SC3 := Lib.hid (show w.heap.size < w3.heap.size by rw [hw]; have := SC2.out; simpa using this)
      have XZ3 := Lib.hid (show BxPg (w.heap.size + 1) 0 0 0 0 0 0 0 0 false w3 by rw [hw]; exact XZ2.out.other rfl (Nat.ne_of_lt OCZ.out))
      have SZ3 := Lib.hid (show (w.heap.size + 1) < w3.heap.size by rw [hw]; have := SZ2.out; simpa using this)
      clear k0 k1 k2 k3 k4 k5 k6 k7 k8 kf0 kf1 kf2 kf3 kf4 kf5 kf6 kf7 kf8
      clear hw B2 XC2 SC2 XZ2 SZ2
      obtain ⟨k0, k1, k2, k3, k4, k5, k6, k7, k8, -, -, -, -, -, -, -, -, -⟩ := XC3.out
      obtain ⟨z0, z1, z2, z3, z4, z5, z6, z7, z8, zf0, zf1, zf2, zf3, zf4, zf5, zf6, zf7, zf8⟩ := XZ3.out
      go_wp2_with fail
      show bodyPost _ _ _ _ _ (putPg (w.heap.size + 1) c t s r al ac x en false w3)
      have BZ : Below w.heap.size w (putPg (w.heap.size + 1) c t s r al ac x en false w3) := B3.out.trans (putPg_below GZ.out)
      obtain ⟨z0, z1, z2, z3, z4, z5, z6, z7, z8, -, -, -, -, -, -, -, -, -⟩ := (show BxPg (w.heap.size + 1) c t s r al ac x en false (putPg (w.heap.size + 1) c t s r al ac x en false w3) from XZ3.out.put)
      exact bodyPost_ret (v := aggPg c t s r al ac x en false) (by simp [results, Try.results12, z0, z1, z2, z3, z4, z5, z6, z7, z8, go_sem]) rfl ⟨rfl, BZ⟩
    · have t1 : decide (a < s) = false := decide_eq_false g
      rw [if_neg (by simp; omega)] at he
      injection he with r0 r5 r6 r7 r8 r9
      injection r0 with r1 r2 r3 r4
      subst r3 r4 r5 r6 r7 r8 r9
      rw [r1] at r2
      subst r2
      unfold Wig.gless at r1
      simp only at r1
      obtain ⟨y, hy⟩ : ∃ y, y = Wig.fmuldiv c al 2097152 := ⟨_, rfl⟩
      rw [← hy] at r1
      obtain ⟨d, hd⟩ : ∃ d, d = Wig.fsub c y := ⟨_, rfl⟩
      rw [← hd] at r1
      have CM := Lib.hid (fun w => (show Calls Try.prog 34 #[.int .u64 (c : Int), .int .u64 (al : Int), .int .u64 2097152] w fun e w' => e = .returned (.int .u64 (y : Int)) ∧ w = w' by rw [hy]; exact rmuldiv_any c al 2097152 w hc hal (by omega)))
      have CS := Lib.hid (fun w => (show Calls Try.prog 33 #[.int .u64 (c : Int), .int .u64 (y : Int)] w fun e w' => e = .returned (.int .u64 (d : Int)) ∧ w = w' by rw [hd]; exact rsub_any c y w hc (by rw [hy]; exact Wig.fmuldiv_lt _ _ _)))
      have CH := Lib.hid (fun w => Rno.rheld_any d c' w r1)
      clear hb ha hx g r1 hy hd hc ht hs hr hal hac hmk hen
      obtain ⟨w1, hw1⟩ : ∃ wx, wx = w.alloc (.cells #[.int .u64 (c : Int), .int .u64 (t : Int), .int .u64 (s : Int), .int .u64 (r : Int), .int .u64 (al : Int), .int .u64 (ac : Int), .int .u64 (mk : Int), .int .u64 (en : Int), .bool false] 26) := ⟨_, rfl⟩
      have z1 : w1.heap.size = w.heap.size + 1 := by rw [hw1]; simp
      obtain ⟨w2, hw2⟩ : ∃ wx, wx = w1.alloc (.cells #[.int .u64 0, .int .u64 0, .int .u64 0, .int .u64 0, .int .u64 0, .int .u64 0, .int .u64 0, .int .u64 0, .bool false] 26) := ⟨_, rfl⟩
      have z2 : w2.heap.size = w.heap.size + 2 := by rw [hw2]; simp; omega
      have t2 : Below w2.heap.size w2 w2 := Below.refl _ _
      have t1 : Below w1.heap.size w1 w2 := (show Below w1.heap.size w1 w2 by rw [hw2]; exact (Below.refl _ _).alloc (Nat.le_refl _) _).trans (t2.mono (by omega))
      have t0 : Below w.heap.size w w2 := (show Below w.heap.size w w1 by rw [hw1]; exact (Below.refl _ _).alloc (Nat.le_refl _) _).trans (t1.mono (by omega))
      have BN := Lib.hid t0
      have ZN := Lib.hid z2
      have XC := Lib.hid (show BxPg w.heap.size c t s r al ac mk en false w2 from (show BxPg w.heap.size c t s r al ac mk en false w1 by rw [hw1]; exact BxPg.new _ c t s r al ac mk en false).below t1 (by omega))
      have XZ := Lib.hid (show BxPg (w.heap.size + 1) 0 0 0 0 0 0 0 0 false w2 from (show BxPg (w.heap.size + 1) 0 0 0 0 0 0 0 0 false w2 by rw [hw2, ← z1]; exact BxPg.new _ 0 0 0 0 0 0 0 0 false).below t2 (by omega))
      clear t0 t1 t2 z1 z2
      have B2 := BN
      have XC2 := XC
      have SC2 := Lib.hid (show w.heap.size < w2.heap.size by have := ZN.out; omega)
      have GC := Lib.hid (show w.heap.size ≤ w.heap.size by omega)
      have XZ2 := XZ
      have SZ2 := Lib.hid (show (w.heap.size + 1) < w2.heap.size by have := ZN.out; omega)
      have GZ := Lib.hid (show w.heap.size ≤ (w.heap.size + 1) by omega)
      have OCZ := Lib.hid (show w.heap.size < (w.heap.size + 1) by omega)
      clear ZN BN XC XZ
      go_enter Try.func12, Try.ntmps12
      go_upto_region 1 with fail
      rw [← hw1, ← hw2]
      clear hw1 hw2
      obtain ⟨k0, k1, k2, k3, k4, k5, k6, k7, k8, kf0, kf1, kf2, kf3, kf4, kf5, kf6, kf7, kf8⟩ := XC2.out
      go_wp2_with fail
      refine (CA.out _).mono ?_
      rintro e _ ⟨rfl, rfl⟩
      go_upto_region 2 with fail
      obtain ⟨w3, hw⟩ : ∃ wx, wx = w2.setCell ⟨w.heap.size, 6, none⟩ (.int .u64 (x : Int)) := ⟨_, rfl⟩
      rw [← hw]
      have XC3 := Lib.hid (show BxPg w.heap.size c t s r al ac x en false w3 by rw [hw]; exact XC2.out.set6)
      have B3 := Lib.hid (show Below w.heap.size w w3 by rw [hw]; exact Below.setCell B2.out GC.out _)
      have SC3 := Lib.hid (show w.heap.size < w3.heap.size by rw [hw]; have := SC2.out; simpa using this)
      have XZ3 := Lib.hid (show BxPg (w.heap.size + 1) 0 0 0 0 0 0 0 0 false w3 by rw [hw]; exact XZ2.out.other rfl (Nat.ne_of_lt OCZ.out))
      have SZ3 := Lib.hid (show (w.heap.size + 1) < w3.heap.size by rw [hw]; have := SZ2.out; simpa using this)
      clear k0 k1 k2 k3 k4 k5 k6 k7 k8 kf0 kf1 kf2 kf3 kf4 kf5 kf6 kf7 kf8
      clear hw B2 XC2 SC2 XZ2 SZ2
      obtain ⟨k0, k1, k2, k3, k4, k5, k6, k7, k8, kf0, kf1, kf2, kf3, kf4, kf5, kf6, kf7, kf8⟩ := XC3.out
      go_upto_region 5 with fail
      obtain ⟨w4, hw⟩ : ∃ wx, wx = w3.setCell ⟨w.heap.size, 8, none⟩ (.bool true) := ⟨_, rfl⟩
      rw [← hw]
      have XC4 := Lib.hid (show BxPg w.heap.size c t s r al ac x en true w4 by rw [hw]; exact XC3.out.set8)
      have B4 := Lib.hid (show Below w.heap.size w w4 by rw [hw]; exact Below.setCell B3.out GC.out _)
      have SC4 := Lib.hid (show w.heap.size < w4.heap.size by rw [hw]; have := SC3.out; simpa using this)
      have XZ4 := Lib.hid (show BxPg (w.heap.size + 1) 0 0 0 0 0 0 0 0 false w4 by rw [hw]; exact XZ3.out.other rfl (Nat.ne_of_lt OCZ.out))
      have SZ4 := Lib.hid (show (w.heap.size + 1) < w4.heap.size by rw [hw]; have := SZ3.out; simpa using this)
      clear k0 k1 k2 k3 k4 k5 k6 k7 k8 kf0 kf1 kf2 kf3 kf4 kf5 kf6 kf7 kf8
      clear hw B3 XC3 SC3 XZ3 SZ3
      obtain ⟨k0, k1, k2, k3, k4, k5, k6, k7, k8, -, -, -, -, -, -, -, -, -⟩ := XC4.out
      go_wp2_with fail
      go_quiet (first | (go_at_call 34; with_reducible exact quiet_eq (CM.out _)) | (go_at_call 33; with_reducible exact quiet_eq (CS.out _)) | (go_at_call 32; with_reducible exact quiet_eq (CH.out _)) | fail)
      obtain ⟨w5, hw⟩ : ∃ wx, wx = w4.drewN nq := ⟨_, rfl⟩
      rw [← hw]
      have B5 := Lib.hid (show Below w.heap.size w w5 by rw [hw]; exact below_drewN' B4.out nq)
      have XC5 := Lib.hid (show BxPg w.heap.size c t s r al ac x en true w5 by rw [hw]; exact XC4.out.drewN nq)
      have SC5 := Lib.hid (show w.heap.size < w5.heap.size by rw [hw]; exact SC4.out)
      have XZ5 := Lib.hid (show BxPg (w.heap.size + 1) 0 0 0 0 0 0 0 0 false w5 by rw [hw]; exact XZ4.out.drewN nq)
      have SZ5 := Lib.hid (show (w.heap.size + 1) < w5.heap.size by rw [hw]; exact SZ4.out)
      clear k0 k1 k2 k3 k4 k5 k6 k7 k8
      clear hw B4 XC4 SC4 XZ4 SZ4
      obtain ⟨k0, k1, k2, k3, k4, k5, k6, k7, k8, kf0, kf1, kf2, kf3, kf4, kf5, kf6, kf7, kf8⟩ := XC5.out
      go_upto_region 7 with fail
      obtain ⟨w6, hw⟩ : ∃ wx, wx = w5.setCell ⟨w.heap.size, 0, none⟩ (.int .u64 (c' : Int)) := ⟨_, rfl⟩
      rw [← hw]
      have XC6 := Lib.hid (show BxPg w.heap.size c' t s r al ac x en true w6 by rw [hw]; exact XC5.out.set0)
      have B6 := Lib.hid (show Below w.heap.size w w6 by rw [hw]; exact Below.setCell B5.out GC.out _)
      have SC6 := Lib.hid (show w.heap.size < w6.heap.size by rw [hw]; have := SC5.out; simpa using this)
      have XZ6 := Lib.hid (show BxPg (w.heap.size + 1) 0 0 0 0 0 0 0 0 false w6 by rw [hw]; exact XZ5.out.other rfl (Nat.ne_of_lt OCZ.out))
      have SZ6 := Lib.hid (show (w.heap.size + 1) < w6.heap.size by rw [hw]; have := SZ5.out; simpa using this)
      clear k0 k1 k2 k3 k4 k5 k6 k7 k8 kf0 kf1 kf2 kf3 kf4 kf5 kf6 kf7 kf8
      clear hw B5 XC5 SC5 XZ5 SZ5
      obtain ⟨w7, hw⟩ : ∃ wx, wx = w6.setCell ⟨w.heap.size, 1, none⟩ (.int .u64 (c' : Int)) := ⟨_, rfl⟩
      rw [← hw]
      have XC7 := Lib.hid (show BxPg w.heap.size c' c' s r al ac x en true w7 by rw [hw]; exact XC6.out.set1)
      have B7 := Lib.hid (show Below w.heap.size w w7 by rw [hw]; exact Below.setCell B6.out GC.out _)
      have SC7 := Lib.hid (show w.heap.size < w7.heap.size by rw [hw]; have := SC6.out; simpa using this)
      have XZ7 := Lib.hid (show BxPg (w.heap.size + 1) 0 0 0 0 0 0 0 0 false w7 by rw [hw]; exact XZ6.out.other rfl (Nat.ne_of_lt OCZ.out))
      have SZ7 := Lib.hid (show (w.heap.size + 1) < w7.heap.size by rw [hw]; have := SZ6.out; simpa using this)
      clear hw B6 XC6 SC6 XZ6 SZ6
      obtain ⟨w8, hw⟩ : ∃ wx, wx = w7.setCell ⟨w.heap.size, 2, none⟩ (.int .u64 (s : Int)) := ⟨_, rfl⟩
      rw [← hw]
      have XC8 := Lib.hid (show BxPg w.heap.size c' c' s r al ac x en true w8 by rw [hw]; exact XC7.out.set2)
      have B8 := Lib.hid (show Below w.heap.size w w8 by rw [hw]; exact Below.setCell B7.out GC.out _)
      have SC8 := Lib.hid (show w.heap.size < w8.heap.size by rw [hw]; have := SC7.out; simpa using this)
      have XZ8 := Lib.hid (show BxPg (w.heap.size + 1) 0 0 0 0 0 0 0 0 false w8 by rw [hw]; exact XZ7.out.other rfl (Nat.ne_of_lt OCZ.out))
      have SZ8 := Lib.hid (show (w.heap.size + 1) < w8.heap.size by rw [hw]; have := SZ7.out; simpa using this)
      clear hw B7 XC7 SC7 XZ7 SZ7
      obtain ⟨w9, hw⟩ : ∃ wx, wx = w8.setCell ⟨w.heap.size, 3, none⟩ (.int .u64 0) := ⟨_, rfl⟩
      rw [← hw]
      have XC9 := Lib.hid (show BxPg w.heap.size c' c' s 0 al ac x en true w9 by rw [hw]; exact XC8.out.set3)
      have B9 := Lib.hid (show Below w.heap.size w w9 by rw [hw]; exact Below.setCell B8.out GC.out _)
      have SC9 := Lib.hid (show w.heap.size < w9.heap.size by rw [hw]; have := SC8.out; simpa using this)
      have XZ9 := Lib.hid (show BxPg (w.heap.size + 1) 0 0 0 0 0 0 0 0 false w9 by rw [hw]; exact XZ8.out.other rfl (Nat.ne_of_lt OCZ.out))
      have SZ9 := Lib.hid (show (w.heap.size + 1) < w9.heap.size by rw [hw]; have := SZ8.out; simpa using this)
      clear hw B8 XC8 SC8 XZ8 SZ8
      obtain ⟨k0, k1, k2, k3, k4, k5, k6, k7, k8, -, -, -, -, -, -, -, -, -⟩ := XC9.out
      obtain ⟨z0, z1, z2, z3, z4, z5, z6, z7, z8, zf0, zf1, zf2, zf3, zf4, zf5, zf6, zf7, zf8⟩ := XZ9.out
      go_wp2_with fail
      show bodyPost _ _ _ _ _ (putPg (w.heap.size + 1) c' c' s 0 al ac x en true w9)
      have BZ : Below w.heap.size w (putPg (w.heap.size + 1) c' c' s 0 al ac x en true w9) := B9.out.trans (putPg_below GZ.out)
      obtain ⟨z0, z1, z2, z3, z4, z5, z6, z7, z8, -, -, -, -, -, -, -, -, -⟩ := (show BxPg (w.heap.size + 1) c' c' s 0 al ac x en true (putPg (w.heap.size + 1) c' c' s 0 al ac x en true w9) from XZ9.out.put)
      exact bodyPost_ret (v := aggPg c' c' s 0 al ac x en true) (by simp [results, Try.results12, z0, z1, z2, z3, z4, z5, z6, z7, z8, go_sem]) rfl ⟨rfl, BZ⟩
/-- What lies in the three boxes of Ack. -/
def QRel (c t s r al ac mk en : Nat) (cu : Bool) (nw b a m n tk fl rt : Nat) (l rd : Bool) (w wx : World) : Prop := BxPg w.heap.size c t s r al ac mk en cu wx ∧ BxGt (w.heap.size + 1) nw b a m n tk fl rt l rd wx ∧ BxPg (w.heap.size + 2) 0 0 0 0 0 0 0 0 false wx ∧ Below w.heap.size w wx ∧ w.heap.size + 3 ≤ wx.heap.size

set_option maxHeartbeats 8000000 in
theorem rack_any (c t s r al ac mk en : Nat) (cu : Bool) (nw b a m n tk fl rt : Nat) (l rd : Bool) (c' t' s' r' al' ac' mk' en' : Nat) (cu' : Bool) (w : World) (hok : Wig.Pg.Ok ⟨⟨c, t, s, r⟩, al, ac, mk, en, cu⟩) (hb : b < 18446744073709551616) (ha : a < 18446744073709551616) (he : Wig.gack ⟨⟨c, t, s, r⟩, al, ac, mk, en, cu⟩ b a m n l = ⟨⟨c', t', s', r'⟩, al', ac', mk', en', cu'⟩) :
    Calls Try.prog 10 #[aggPg c t s r al ac mk en cu, aggGt nw b a m n tk fl rt l rd] w fun e w' => e = .returned (aggPg c' t' s' r' al' ac' mk' en' cu') ∧ Below w.heap.size w w' := by
  obtain ⟨⟨hc, ht, hs, hr⟩, hal, hac, hmk, hen⟩ := hok
  simp only at hc ht hs hr hal hac hmk hen
  obtain ⟨x, hx⟩ : ∃ x, x = Wig.fadd ac b := ⟨_, rfl⟩
  have x1 : x < 18446744073709551616 := by rw [hx]; exact Wig.fadd_lt0 _ _
  have CA := Lib.hid (fun w => (show Calls Try.prog 27 #[.int .u64 (ac : Int), .int .u64 (b : Int)] w fun e w' => e = .returned (.int .u64 (x : Int)) ∧ w = w' by rw [hx]; exact radd_any ac b w hac hb))
  unfold Wig.gack Wig.gturn at he
  simp only at he
  rw [← hx] at he
  by_cases g : en ≤ m
  · rw [if_pos g] at he
    simp only at he
    injection he with r0 r5 r6 r7 r8 r9
    subst r6 r7 r8 r9
    have t1 : decide (en ≤ m) = true := decide_eq_true g
    have CI := Lib.hid (fun w => Rno.rack_any c t s r b a c' t' s' r' l w ⟨hc, ht, hs, hr⟩ hb ha r0)
    unfold Wig.galpha at r5
    obtain ⟨sh, hsh⟩ : ∃ sh, Wig.gshare mk x = sh := ⟨_, rfl⟩
    have s1 : sh ≤ 1048576 := by rw [← hsh]; exact Wig.gshare_le
    rw [hsh] at r5
    obtain ⟨a1, ha1⟩ : ∃ q, q = al / 16 := ⟨_, rfl⟩
    obtain ⟨a2, ha2⟩ : ∃ q, q = al - a1 := ⟨_, rfl⟩
    obtain ⟨a3, ha3⟩ : ∃ q, q = sh / 16 := ⟨_, rfl⟩
    rw [← ha1, ← ha2, ← ha3] at r5
    have e1 : (al : Int) / 16 = (a1 : Int) := by omega
    have e2 : IntKind.u64.wrap (a1 : Int) = (a1 : Int) := by rw [IntKind.wrap_u64]; omega
    have e3 : IntKind.u64.wrap ((al : Int) - (a1 : Int)) = (a2 : Int) := by rw [IntKind.wrap_u64]; omega
    have e4 : (sh : Int) / 16 = (a3 : Int) := by omega
    have e5 : IntKind.u64.wrap (a3 : Int) = (a3 : Int) := by rw [IntKind.wrap_u64]; omega
    have e6 : (al : Int).tdiv 16 = (a1 : Int) := by rw [Int.tdiv_eq_ediv_of_nonneg (by omega)]; exact e1
    have e7 : (sh : Int).tdiv 16 = (a3 : Int) := by rw [Int.tdiv_eq_ediv_of_nonneg (by omega)]; exact e4
    have CS := Lib.hid (fun w => rshare_any mk x sh w hmk x1 hsh)
    have CB := Lib.hid (fun w => (show Calls Try.prog 27 #[.int .u64 (a2 : Int), .int .u64 (a3 : Int)] w fun e w' => e = .returned (.int .u64 (al' : Int)) ∧ w = w' by rw [← r5]; exact radd_any a2 a3 w (by omega) (by omega)))
    clear r0 r5 hb ha hx x1 g hsh s1 ha1 ha2 ha3 hc ht hs hr hal hac hmk hen
    obtain ⟨w1, hw1⟩ : ∃ wx, wx = w.alloc (.cells #[.int .u64 (c : Int), .int .u64 (t : Int), .int .u64 (s : Int), .int .u64 (r : Int), .int .u64 (al : Int), .int .u64 (ac : Int), .int .u64 (mk : Int), .int .u64 (en : Int), .bool cu] 26) := ⟨_, rfl⟩
    have z1 : w1.heap.size = w.heap.size + 1 := by rw [hw1]; simp
    obtain ⟨w2, hw2⟩ : ∃ wx, wx = w1.alloc (.cells #[.int .u64 (nw : Int), .int .u64 (b : Int), .int .u64 (a : Int), .int .u64 (m : Int), .int .u64 (n : Int), .int .u64 (tk : Int), .int .u64 (fl : Int), .int .u64 (rt : Int), .bool l, .bool rd] 28) := ⟨_, rfl⟩
    have z2 : w2.heap.size = w.heap.size + 2 := by rw [hw2]; simp; omega
    obtain ⟨w3, hw3⟩ : ∃ wx, wx = w2.alloc (.cells #[.int .u64 0, .int .u64 0, .int .u64 0, .int .u64 0, .int .u64 0, .int .u64 0, .int .u64 0, .int .u64 0, .bool false] 26) := ⟨_, rfl⟩
    have z3 : w3.heap.size = w.heap.size + 3 := by rw [hw3]; simp; omega
    have t3 : Below w3.heap.size w3 w3 := Below.refl _ _
    have t2 : Below w2.heap.size w2 w3 := (show Below w2.heap.size w2 w3 by rw [hw3]; exact (Below.refl _ _).alloc (Nat.le_refl _) _).trans (t3.mono (by omega))
    have t1 : Below w1.heap.size w1 w3 := (show Below w1.heap.size w1 w2 by rw [hw2]; exact (Below.refl _ _).alloc (Nat.le_refl _) _).trans (t2.mono (by omega))
    have t0 : Below w.heap.size w w3 := (show Below w.heap.size w w1 by rw [hw1]; exact (Below.refl _ _).alloc (Nat.le_refl _) _).trans (t1.mono (by omega))
    have BN := Lib.hid t0
    have ZN := Lib.hid z3
    have XC := Lib.hid (show BxPg w.heap.size c t s r al ac mk en cu w3 from (show BxPg w.heap.size c t s r al ac mk en cu w1 by rw [hw1]; exact BxPg.new _ c t s r al ac mk en cu).below t1 (by omega))
    have XG := Lib.hid (show BxGt (w.heap.size + 1) nw b a m n tk fl rt l rd w3 from (show BxGt (w.heap.size + 1) nw b a m n tk fl rt l rd w2 by rw [hw2, ← z1]; exact BxGt.new _ nw b a m n tk fl rt l rd).below t2 (by omega))
    have XZ := Lib.hid (show BxPg (w.heap.size + 2) 0 0 0 0 0 0 0 0 false w3 from (show BxPg (w.heap.size + 2) 0 0 0 0 0 0 0 0 false w3 by rw [hw3, ← z2]; exact BxPg.new _ 0 0 0 0 0 0 0 0 false).below t3 (by omega))
    clear t0 t1 t2 t3 z1 z2 z3
    have B3 := BN
    have XC3 := XC
    have SC3 := Lib.hid (show w.heap.size < w3.heap.size by have := ZN.out; omega)
    have GC := Lib.hid (show w.heap.size ≤ w.heap.size by omega)
    have XG3 := XG
    have SG3 := Lib.hid (show (w.heap.size + 1) < w3.heap.size by have := ZN.out; omega)
    have GG := Lib.hid (show w.heap.size ≤ (w.heap.size + 1) by omega)
    have OCG := Lib.hid (show w.heap.size < (w.heap.size + 1) by omega)
    have XZ3 := XZ
    have SZ3 := Lib.hid (show (w.heap.size + 2) < w3.heap.size by have := ZN.out; omega)
    have GZ := Lib.hid (show w.heap.size ≤ (w.heap.size + 2) by omega)
    have OCZ := Lib.hid (show w.heap.size < (w.heap.size + 2) by omega)
    have OGZ := Lib.hid (show (w.heap.size + 1) < (w.heap.size + 2) by omega)
    clear ZN BN XC XG XZ
    go_enter Try.func10, Try.ntmps10
    go_upto_region 1 with fail
    rw [← hw1, ← hw2, ← hw3]
    clear hw1 hw2 hw3
    obtain ⟨k0, k1, k2, k3, k4, k5, k6, k7, k8, kf0, kf1, kf2, kf3, kf4, kf5, kf6, kf7, kf8⟩ := XC3.out
    have g1 := XG3.out.c1
    go_wp2_with fail
    refine (CA.out _).mono ?_
    rintro e _ ⟨rfl, rfl⟩
    go_upto_region 2 with fail
    obtain ⟨w4, hw⟩ : ∃ wx, wx = w3.setCell ⟨w.heap.size, 5, none⟩ (.int .u64 (x : Int)) := ⟨_, rfl⟩
    rw [← hw]
    have XC4 := Lib.hid (show BxPg w.heap.size c t s r al x mk en cu w4 by rw [hw]; exact XC3.out.set5)
    have B4 := Lib.hid (show Below w.heap.size w w4 by rw [hw]; exact Below.setCell B3.out GC.out _)
    have SC4 := Lib.hid (show w.heap.size < w4.heap.size by rw [hw]; have := SC3.out; simpa using this)
    have XG4 := Lib.hid (show BxGt (w.heap.size + 1) nw b a m n tk fl rt l rd w4 by rw [hw]; exact XG3.out.other rfl (Nat.ne_of_lt OCG.out))
    have SG4 := Lib.hid (show (w.heap.size + 1) < w4.heap.size by rw [hw]; have := SG3.out; simpa using this)
    have XZ4 := Lib.hid (show BxPg (w.heap.size + 2) 0 0 0 0 0 0 0 0 false w4 by rw [hw]; exact XZ3.out.other rfl (Nat.ne_of_lt OCZ.out))
    have SZ4 := Lib.hid (show (w.heap.size + 2) < w4.heap.size by rw [hw]; have := SZ3.out; simpa using this)
    clear k0 k1 k2 k3 k4 k5 k6 k7 k8 kf0 kf1 kf2 kf3 kf4 kf5 kf6 kf7 kf8 g1
    clear hw B3 XC3 SC3 XG3 SG3 XZ3 SZ3
    have v7 := XC4.out.c7
    have g3 := XG4.out.c3
    go_upto_region 3 with fail
    clear v7 g3
    go_cut [] (fun wx => QRel c t s r al' x mk en cu nw b a m n tk fl rt l rd w wx)
    case first =>
      refine wp_region_held_drew (S := fun wx => wx.cell? ⟨w.heap.size, 5, none⟩ = some (.int .u64 (x : Int)) ∧ wx.cell? ⟨w.heap.size, 6, none⟩ = some (.int .u64 (mk : Int))) (by kernel_rfl) ?_ (fun hHeld => ?_)
      · exact ⟨XC4.out.drew.c5, XC4.out.drew.c6⟩
      obtain ⟨w5, hw⟩ : ∃ wx, wx = w4.drew := ⟨_, rfl⟩
      rw [← hw]
      have B5 := Lib.hid (show Below w.heap.size w w5 by rw [hw]; exact B4.out.drew)
      have XC5 := Lib.hid (show BxPg w.heap.size c t s r al x mk en cu w5 by rw [hw]; exact XC4.out.drew)
      have SC5 := Lib.hid (show w.heap.size < w5.heap.size by rw [hw]; exact SC4.out)
      have XG5 := Lib.hid (show BxGt (w.heap.size + 1) nw b a m n tk fl rt l rd w5 by rw [hw]; exact XG4.out.drew)
      have SG5 := Lib.hid (show (w.heap.size + 1) < w5.heap.size by rw [hw]; exact SG4.out)
      have XZ5 := Lib.hid (show BxPg (w.heap.size + 2) 0 0 0 0 0 0 0 0 false w5 by rw [hw]; exact XZ4.out.drew)
      have SZ5 := Lib.hid (show (w.heap.size + 2) < w5.heap.size by rw [hw]; exact SZ4.out)
      clear hw B4 XC4 SC4 XG4 SG4 XZ4 SZ4
      clear hHeld
      have hHeld := And.intro XC5.out.c5 XC5.out.c6
      obtain ⟨v0, v1, v2, v3, v4, v5, v6, v7, v8, vf0, vf1, vf2, vf3, vf4, vf5, vf6, vf7, vf8⟩ := XC5.out
      refine held_take (v := ?vv101) 0 rfl (by kernel_rfl) (by kernel_rfl) (by kernel_rfl) (fun _ _ _ h => h) (by rfl) ?yy101 (by assumption) ?nn101
      case yy101 =>
        intro w hSw
        (try dsimp only at hSw)
        go_simp
        try with_reducible rfl
      try simp only [Act.put, List.setIfInBounds_toArray, List.set_cons_zero, List.set_cons_succ]
      refine held_take (v := ?vv102) 2 rfl (by kernel_rfl) (by kernel_rfl) (by kernel_rfl) (fun _ _ _ h => h) (by rfl) ?yy102 (by assumption) ?nn102
      case yy102 =>
        intro w hSw
        (try dsimp only at hSw)
        go_simp
        try with_reducible rfl
      try simp only [Act.put, List.setIfInBounds_toArray, List.set_cons_zero, List.set_cons_succ]
      refine held_take (v := ?vv103) 6 rfl (by kernel_rfl) (by kernel_rfl) (by kernel_rfl) (fun _ _ _ h => h) (by rfl) ?yy103 (by assumption) ?nn103
      case yy103 =>
        intro w hSw
        (try dsimp only at hSw)
        go_simp
        try with_reducible rfl
      try simp only [Act.put, List.setIfInBounds_toArray, List.set_cons_zero, List.set_cons_succ]
      refine held_take (v := .int .u64 (mk : Int)) 7 rfl (by kernel_rfl) (by kernel_rfl) (by kernel_rfl) (fun _ _ _ h => h) (by rfl) (fun wx hSw => by have c := hSw.2; clear hSw; go_simp) (by assumption) ?_
      try simp only [Act.put, List.setIfInBounds_toArray, List.set_cons_zero, List.set_cons_succ]
      refine held_take (v := ?vv105) 8 rfl (by kernel_rfl) (by kernel_rfl) (by kernel_rfl) (fun _ _ _ h => h) (by rfl) ?yy105 (by assumption) ?nn105
      case yy105 =>
        intro w hSw
        (try dsimp only at hSw)
        go_simp
        try with_reducible rfl
      try simp only [Act.put, List.setIfInBounds_toArray, List.set_cons_zero, List.set_cons_succ]
      refine held_take (v := .int .u64 (x : Int)) 9 rfl (by kernel_rfl) (by kernel_rfl) (by kernel_rfl) (fun _ _ _ h => h) (by rfl) (fun wx hSw => by have c := hSw.1; clear hSw; go_simp) (by assumption) ?_
      try simp only [Act.put, List.setIfInBounds_toArray, List.set_cons_zero, List.set_cons_succ]
      refine held_three 1 3 10 rfl rfl rfl (by kernel_rfl) (by rfl) (by rfl) (by rfl) (fun K hK => ?_) (fun K hK => ?_) (fun K hK => ?_)
      · go_wp2_with fail
        refine hK.out _ _ ?_ (fun hHeld => ?_)
        · exact ⟨XC5.out.c5, XC5.out.c6⟩
        clear hK K
        try simp only [Act.put, List.setIfInBounds_toArray, List.set_cons_zero, List.set_cons_succ]
        refine held_two 3 10 rfl rfl (by kernel_rfl) (by rfl) (by rfl) (fun K hK => ?_) (fun K hK => ?_)
        · go_wp2_with fail
          refine hK.out _ _ ?_ (fun hHeld => ?_)
          · exact ⟨XC5.out.c5, XC5.out.c6⟩
          clear hK K
          try simp only [Act.put, List.setIfInBounds_toArray, List.set_cons_zero, List.set_cons_succ]
          refine held_take (v := ?vv107) 4 rfl (by kernel_rfl) (by kernel_rfl) (by kernel_rfl) (fun _ _ _ h => h) (by rfl) ?yy107 (by assumption) ?nn107
          case yy107 =>
            intro w hSw
            (try dsimp only at hSw)
            go_simp
            try with_reducible rfl
          try simp only [Act.put, List.setIfInBounds_toArray, List.set_cons_zero, List.set_cons_succ]
          refine held_take (v := ?vv108) 5 rfl (by kernel_rfl) (by kernel_rfl) (by kernel_rfl) (fun _ _ _ h => h) (by rfl) ?yy108 (by assumption) ?nn108
          case yy108 =>
            intro w hSw
            (try dsimp only at hSw)
            go_simp
            try with_reducible rfl
          try simp only [Act.put, List.setIfInBounds_toArray, List.set_cons_zero, List.set_cons_succ]
          refine held_do 10 rfl (by kernel_rfl) (by rfl) (fun K hK => ?_)
          go_wp2_with (go_at_call 28; with_reducible refine (CS.out _).mono ?_; rintro e _ ⟨rfl, rfl⟩)
          refine hK.out _ _ ?_ (fun hHeld => ?_)
          · exact ⟨XC5.out.c5, XC5.out.c6⟩
          clear hK K
          try simp only [Act.put, List.setIfInBounds_toArray, List.set_cons_zero, List.set_cons_succ]
          refine held_take (v := ?vv109) 11 rfl (by kernel_rfl) (by kernel_rfl) (by kernel_rfl) (fun _ _ _ h => h) (by rfl) ?yy109 (by assumption) ?nn109
          case yy109 =>
            intro w hSw
            (try dsimp only at hSw)
            go_simp
            try with_reducible rfl
          try simp only [Act.put, List.setIfInBounds_toArray, List.set_cons_zero, List.set_cons_succ]
          refine held_do 12 rfl (by kernel_rfl) (by rfl) (fun K hK => ?_)
          go_wp2_with (go_at_call 27; with_reducible refine (CB.out _).mono ?_; rintro e _ ⟨rfl, rfl⟩)
          refine hK.out _ _ ?_ (fun hHeld => ?_)
          · exact ⟨XC5.out.c5, XC5.out.c6⟩
          clear hK K
          try simp only [Act.put, List.setIfInBounds_toArray, List.set_cons_zero, List.set_cons_succ]
          refine held_take (v := ?vv110) 13 rfl (by kernel_rfl) (by kernel_rfl) (by kernel_rfl) (fun _ _ _ h => h) (by rfl) ?yy110 (by assumption) ?nn110
          case yy110 =>
            intro w hSw
            (try dsimp only at hSw)
            go_simp
            try with_reducible rfl
          try simp only [Act.put, List.setIfInBounds_toArray, List.set_cons_zero, List.set_cons_succ]
          refine held_do 14 rfl (by kernel_rfl) (by rfl) (fun K hK => ?_)
          go_wp2_with fail
          refine hK.out _ _ ?_ (fun hHeld => ?_)
          · exact ⟨(BxPg.set4 XC5.out).c5, (BxPg.set4 XC5.out).c6⟩
          clear hK K
          try simp only [Act.put, List.setIfInBounds_toArray, List.set_cons_zero, List.set_cons_succ]
          obtain ⟨w6, hw⟩ : ∃ wx, wx = w5.setCell ⟨w.heap.size, 4, none⟩ (.int .u64 (al' : Int)) := ⟨_, rfl⟩
          rw [← hw]
          have XC6 := Lib.hid (show BxPg w.heap.size c t s r al' x mk en cu w6 by rw [hw]; exact XC5.out.set4)
          have B6 := Lib.hid (show Below w.heap.size w w6 by rw [hw]; exact Below.setCell B5.out GC.out _)
          have SC6 := Lib.hid (show w.heap.size < w6.heap.size by rw [hw]; have := SC5.out; simpa using this)
          have XG6 := Lib.hid (show BxGt (w.heap.size + 1) nw b a m n tk fl rt l rd w6 by rw [hw]; exact XG5.out.other rfl (Nat.ne_of_lt OCG.out))
          have SG6 := Lib.hid (show (w.heap.size + 1) < w6.heap.size by rw [hw]; have := SG5.out; simpa using this)
          have XZ6 := Lib.hid (show BxPg (w.heap.size + 2) 0 0 0 0 0 0 0 0 false w6 by rw [hw]; exact XZ5.out.other rfl (Nat.ne_of_lt OCZ.out))
          have SZ6 := Lib.hid (show (w.heap.size + 2) < w6.heap.size by rw [hw]; have := SZ5.out; simpa using this)
          clear v0 v1 v2 v3 v4 v5 v6 v7 v8 vf0 vf1 vf2 vf3 vf4 vf5 vf6 vf7 vf8
          clear hw B5 XC5 SC5 XG5 SG5 XZ5 SZ5
          refine wpAnyH_done (by kernel_rfl) ?_ _
          try go_wp2_with fail
          go_meet
          case rel => exact ⟨XC6.out, XG6.out, XZ6.out, B6.out, (by have := SZ6.out; omega)⟩
        · go_wp2_with (go_at_call 28; with_reducible refine (CS.out _).mono ?_; rintro e _ ⟨rfl, rfl⟩)
          refine hK.out _ _ ?_ (fun hHeld => ?_)
          · exact ⟨XC5.out.c5, XC5.out.c6⟩
          clear hK K
          try simp only [Act.put, List.setIfInBounds_toArray, List.set_cons_zero, List.set_cons_succ]
          refine held_take (v := ?vv111) 11 rfl (by kernel_rfl) (by kernel_rfl) (by kernel_rfl) (fun _ _ _ h => h) (by rfl) ?yy111 (by assumption) ?nn111
          case yy111 =>
            intro w hSw
            (try dsimp only at hSw)
            go_simp
            try with_reducible rfl
          try simp only [Act.put, List.setIfInBounds_toArray, List.set_cons_zero, List.set_cons_succ]
          refine held_do 3 rfl (by kernel_rfl) (by rfl) (fun K hK => ?_)
          go_wp2_with fail
          refine hK.out _ _ ?_ (fun hHeld => ?_)
          · exact ⟨XC5.out.c5, XC5.out.c6⟩
          clear hK K
          try simp only [Act.put, List.setIfInBounds_toArray, List.set_cons_zero, List.set_cons_succ]
          refine held_take (v := ?vv112) 4 rfl (by kernel_rfl) (by kernel_rfl) (by kernel_rfl) (fun _ _ _ h => h) (by rfl) ?yy112 (by assumption) ?nn112
          case yy112 =>
            intro w hSw
            (try dsimp only at hSw)
            go_simp
            try with_reducible rfl
          try simp only [Act.put, List.setIfInBounds_toArray, List.set_cons_zero, List.set_cons_succ]
          refine held_take (v := ?vv113) 5 rfl (by kernel_rfl) (by kernel_rfl) (by kernel_rfl) (fun _ _ _ h => h) (by rfl) ?yy113 (by assumption) ?nn113
          case yy113 =>
            intro w hSw
            (try dsimp only at hSw)
            go_simp
            try with_reducible rfl
          try simp only [Act.put, List.setIfInBounds_toArray, List.set_cons_zero, List.set_cons_succ]
          refine held_do 12 rfl (by kernel_rfl) (by rfl) (fun K hK => ?_)
          go_wp2_with (go_at_call 27; with_reducible refine (CB.out _).mono ?_; rintro e _ ⟨rfl, rfl⟩)
          refine hK.out _ _ ?_ (fun hHeld => ?_)
          · exact ⟨XC5.out.c5, XC5.out.c6⟩
          clear hK K
          try simp only [Act.put, List.setIfInBounds_toArray, List.set_cons_zero, List.set_cons_succ]
          refine held_take (v := ?vv114) 13 rfl (by kernel_rfl) (by kernel_rfl) (by kernel_rfl) (fun _ _ _ h => h) (by rfl) ?yy114 (by assumption) ?nn114
          case yy114 =>
            intro w hSw
            (try dsimp only at hSw)
            go_simp
            try with_reducible rfl
          try simp only [Act.put, List.setIfInBounds_toArray, List.set_cons_zero, List.set_cons_succ]
          refine held_do 14 rfl (by kernel_rfl) (by rfl) (fun K hK => ?_)
          go_wp2_with fail
          refine hK.out _ _ ?_ (fun hHeld => ?_)
          · exact ⟨(BxPg.set4 XC5.out).c5, (BxPg.set4 XC5.out).c6⟩
          clear hK K
          try simp only [Act.put, List.setIfInBounds_toArray, List.set_cons_zero, List.set_cons_succ]
          obtain ⟨w6, hw⟩ : ∃ wx, wx = w5.setCell ⟨w.heap.size, 4, none⟩ (.int .u64 (al' : Int)) := ⟨_, rfl⟩
          rw [← hw]
          have XC6 := Lib.hid (show BxPg w.heap.size c t s r al' x mk en cu w6 by rw [hw]; exact XC5.out.set4)
          have B6 := Lib.hid (show Below w.heap.size w w6 by rw [hw]; exact Below.setCell B5.out GC.out _)
          have SC6 := Lib.hid (show w.heap.size < w6.heap.size by rw [hw]; have := SC5.out; simpa using this)
          have XG6 := Lib.hid (show BxGt (w.heap.size + 1) nw b a m n tk fl rt l rd w6 by rw [hw]; exact XG5.out.other rfl (Nat.ne_of_lt OCG.out))
          have SG6 := Lib.hid (show (w.heap.size + 1) < w6.heap.size by rw [hw]; have := SG5.out; simpa using this)
          have XZ6 := Lib.hid (show BxPg (w.heap.size + 2) 0 0 0 0 0 0 0 0 false w6 by rw [hw]; exact XZ5.out.other rfl (Nat.ne_of_lt OCZ.out))
          have SZ6 := Lib.hid (show (w.heap.size + 2) < w6.heap.size by rw [hw]; have := SZ5.out; simpa using this)
          clear v0 v1 v2 v3 v4 v5 v6 v7 v8 vf0 vf1 vf2 vf3 vf4 vf5 vf6 vf7 vf8
          clear hw B5 XC5 SC5 XG5 SG5 XZ5 SZ5
          refine wpAnyH_done (by kernel_rfl) ?_ _
          try go_wp2_with fail
          go_meet
          case rel => exact ⟨XC6.out, XG6.out, XZ6.out, B6.out, (by have := SZ6.out; omega)⟩
      · go_wp2_with fail
        refine hK.out _ _ ?_ (fun hHeld => ?_)
        · exact ⟨XC5.out.c5, XC5.out.c6⟩
        clear hK K
        try simp only [Act.put, List.setIfInBounds_toArray, List.set_cons_zero, List.set_cons_succ]
        refine held_take (v := ?vv115) 4 rfl (by kernel_rfl) (by kernel_rfl) (by kernel_rfl) (fun _ _ _ h => h) (by rfl) ?yy115 (by assumption) ?nn115
        case yy115 =>
          intro w hSw
          (try dsimp only at hSw)
          go_simp
          try with_reducible rfl
        try simp only [Act.put, List.setIfInBounds_toArray, List.set_cons_zero, List.set_cons_succ]
        refine held_two 1 10 rfl rfl (by kernel_rfl) (by rfl) (by rfl) (fun K hK => ?_) (fun K hK => ?_)
        · go_wp2_with fail
          refine hK.out _ _ ?_ (fun hHeld => ?_)
          · exact ⟨XC5.out.c5, XC5.out.c6⟩
          clear hK K
          try simp only [Act.put, List.setIfInBounds_toArray, List.set_cons_zero, List.set_cons_succ]
          refine held_take (v := ?vv116) 5 rfl (by kernel_rfl) (by kernel_rfl) (by kernel_rfl) (fun _ _ _ h => h) (by rfl) ?yy116 (by assumption) ?nn116
          case yy116 =>
            intro w hSw
            (try dsimp only at hSw)
            go_simp
            try with_reducible rfl
          try simp only [Act.put, List.setIfInBounds_toArray, List.set_cons_zero, List.set_cons_succ]
          refine held_do 10 rfl (by kernel_rfl) (by rfl) (fun K hK => ?_)
          go_wp2_with (go_at_call 28; with_reducible refine (CS.out _).mono ?_; rintro e _ ⟨rfl, rfl⟩)
          refine hK.out _ _ ?_ (fun hHeld => ?_)
          · exact ⟨XC5.out.c5, XC5.out.c6⟩
          clear hK K
          try simp only [Act.put, List.setIfInBounds_toArray, List.set_cons_zero, List.set_cons_succ]
          refine held_take (v := ?vv117) 11 rfl (by kernel_rfl) (by kernel_rfl) (by kernel_rfl) (fun _ _ _ h => h) (by rfl) ?yy117 (by assumption) ?nn117
          case yy117 =>
            intro w hSw
            (try dsimp only at hSw)
            go_simp
            try with_reducible rfl
          try simp only [Act.put, List.setIfInBounds_toArray, List.set_cons_zero, List.set_cons_succ]
          refine held_do 12 rfl (by kernel_rfl) (by rfl) (fun K hK => ?_)
          go_wp2_with (go_at_call 27; with_reducible refine (CB.out _).mono ?_; rintro e _ ⟨rfl, rfl⟩)
          refine hK.out _ _ ?_ (fun hHeld => ?_)
          · exact ⟨XC5.out.c5, XC5.out.c6⟩
          clear hK K
          try simp only [Act.put, List.setIfInBounds_toArray, List.set_cons_zero, List.set_cons_succ]
          refine held_take (v := ?vv118) 13 rfl (by kernel_rfl) (by kernel_rfl) (by kernel_rfl) (fun _ _ _ h => h) (by rfl) ?yy118 (by assumption) ?nn118
          case yy118 =>
            intro w hSw
            (try dsimp only at hSw)
            go_simp
            try with_reducible rfl
          try simp only [Act.put, List.setIfInBounds_toArray, List.set_cons_zero, List.set_cons_succ]
          refine held_do 14 rfl (by kernel_rfl) (by rfl) (fun K hK => ?_)
          go_wp2_with fail
          refine hK.out _ _ ?_ (fun hHeld => ?_)
          · exact ⟨(BxPg.set4 XC5.out).c5, (BxPg.set4 XC5.out).c6⟩
          clear hK K
          try simp only [Act.put, List.setIfInBounds_toArray, List.set_cons_zero, List.set_cons_succ]
          obtain ⟨w6, hw⟩ : ∃ wx, wx = w5.setCell ⟨w.heap.size, 4, none⟩ (.int .u64 (al' : Int)) := ⟨_, rfl⟩
          rw [← hw]
          have XC6 := Lib.hid (show BxPg w.heap.size c t s r al' x mk en cu w6 by rw [hw]; exact XC5.out.set4)
          have B6 := Lib.hid (show Below w.heap.size w w6 by rw [hw]; exact Below.setCell B5.out GC.out _)
          have SC6 := Lib.hid (show w.heap.size < w6.heap.size by rw [hw]; have := SC5.out; simpa using this)
          have XG6 := Lib.hid (show BxGt (w.heap.size + 1) nw b a m n tk fl rt l rd w6 by rw [hw]; exact XG5.out.other rfl (Nat.ne_of_lt OCG.out))
          have SG6 := Lib.hid (show (w.heap.size + 1) < w6.heap.size by rw [hw]; have := SG5.out; simpa using this)
          have XZ6 := Lib.hid (show BxPg (w.heap.size + 2) 0 0 0 0 0 0 0 0 false w6 by rw [hw]; exact XZ5.out.other rfl (Nat.ne_of_lt OCZ.out))
          have SZ6 := Lib.hid (show (w.heap.size + 2) < w6.heap.size by rw [hw]; have := SZ5.out; simpa using this)
          clear v0 v1 v2 v3 v4 v5 v6 v7 v8 vf0 vf1 vf2 vf3 vf4 vf5 vf6 vf7 vf8
          clear hw B5 XC5 SC5 XG5 SG5 XZ5 SZ5
          refine wpAnyH_done (by kernel_rfl) ?_ _
          try go_wp2_with fail
          go_meet
          case rel => exact ⟨XC6.out, XG6.out, XZ6.out, B6.out, (by have := SZ6.out; omega)⟩
        · go_wp2_with (go_at_call 28; with_reducible refine (CS.out _).mono ?_; rintro e _ ⟨rfl, rfl⟩)
          refine hK.out _ _ ?_ (fun hHeld => ?_)
          · exact ⟨XC5.out.c5, XC5.out.c6⟩
          clear hK K
          try simp only [Act.put, List.setIfInBounds_toArray, List.set_cons_zero, List.set_cons_succ]
          refine held_take (v := ?vv119) 11 rfl (by kernel_rfl) (by kernel_rfl) (by kernel_rfl) (fun _ _ _ h => h) (by rfl) ?yy119 (by assumption) ?nn119
          case yy119 =>
            intro w hSw
            (try dsimp only at hSw)
            go_simp
            try with_reducible rfl
          try simp only [Act.put, List.setIfInBounds_toArray, List.set_cons_zero, List.set_cons_succ]
          refine held_do 1 rfl (by kernel_rfl) (by rfl) (fun K hK => ?_)
          go_wp2_with fail
          refine hK.out _ _ ?_ (fun hHeld => ?_)
          · exact ⟨XC5.out.c5, XC5.out.c6⟩
          clear hK K
          try simp only [Act.put, List.setIfInBounds_toArray, List.set_cons_zero, List.set_cons_succ]
          refine held_take (v := ?vv120) 5 rfl (by kernel_rfl) (by kernel_rfl) (by kernel_rfl) (fun _ _ _ h => h) (by rfl) ?yy120 (by assumption) ?nn120
          case yy120 =>
            intro w hSw
            (try dsimp only at hSw)
            go_simp
            try with_reducible rfl
          try simp only [Act.put, List.setIfInBounds_toArray, List.set_cons_zero, List.set_cons_succ]
          refine held_do 12 rfl (by kernel_rfl) (by rfl) (fun K hK => ?_)
          go_wp2_with (go_at_call 27; with_reducible refine (CB.out _).mono ?_; rintro e _ ⟨rfl, rfl⟩)
          refine hK.out _ _ ?_ (fun hHeld => ?_)
          · exact ⟨XC5.out.c5, XC5.out.c6⟩
          clear hK K
          try simp only [Act.put, List.setIfInBounds_toArray, List.set_cons_zero, List.set_cons_succ]
          refine held_take (v := ?vv121) 13 rfl (by kernel_rfl) (by kernel_rfl) (by kernel_rfl) (fun _ _ _ h => h) (by rfl) ?yy121 (by assumption) ?nn121
          case yy121 =>
            intro w hSw
            (try dsimp only at hSw)
            go_simp
            try with_reducible rfl
          try simp only [Act.put, List.setIfInBounds_toArray, List.set_cons_zero, List.set_cons_succ]
          refine held_do 14 rfl (by kernel_rfl) (by rfl) (fun K hK => ?_)
          go_wp2_with fail
          refine hK.out _ _ ?_ (fun hHeld => ?_)
          · exact ⟨(BxPg.set4 XC5.out).c5, (BxPg.set4 XC5.out).c6⟩
          clear hK K
          try simp only [Act.put, List.setIfInBounds_toArray, List.set_cons_zero, List.set_cons_succ]
          obtain ⟨w6, hw⟩ : ∃ wx, wx = w5.setCell ⟨w.heap.size, 4, none⟩ (.int .u64 (al' : Int)) := ⟨_, rfl⟩
          rw [← hw]
          have XC6 := Lib.hid (show BxPg w.heap.size c t s r al' x mk en cu w6 by rw [hw]; exact XC5.out.set4)
          have B6 := Lib.hid (show Below w.heap.size w w6 by rw [hw]; exact Below.setCell B5.out GC.out _)
          have SC6 := Lib.hid (show w.heap.size < w6.heap.size by rw [hw]; have := SC5.out; simpa using this)
          have XG6 := Lib.hid (show BxGt (w.heap.size + 1) nw b a m n tk fl rt l rd w6 by rw [hw]; exact XG5.out.other rfl (Nat.ne_of_lt OCG.out))
          have SG6 := Lib.hid (show (w.heap.size + 1) < w6.heap.size by rw [hw]; have := SG5.out; simpa using this)
          have XZ6 := Lib.hid (show BxPg (w.heap.size + 2) 0 0 0 0 0 0 0 0 false w6 by rw [hw]; exact XZ5.out.other rfl (Nat.ne_of_lt OCZ.out))
          have SZ6 := Lib.hid (show (w.heap.size + 2) < w6.heap.size by rw [hw]; have := SZ5.out; simpa using this)
          clear v0 v1 v2 v3 v4 v5 v6 v7 v8 vf0 vf1 vf2 vf3 vf4 vf5 vf6 vf7 vf8
          clear hw B5 XC5 SC5 XG5 SG5 XZ5 SZ5
          refine wpAnyH_done (by kernel_rfl) ?_ _
          try go_wp2_with fail
          go_meet
          case rel => exact ⟨XC6.out, XG6.out, XZ6.out, B6.out, (by have := SZ6.out; omega)⟩
      · go_wp2_with (go_at_call 28; with_reducible refine (CS.out _).mono ?_; rintro e _ ⟨rfl, rfl⟩)
        refine hK.out _ _ ?_ (fun hHeld => ?_)
        · exact ⟨XC5.out.c5, XC5.out.c6⟩
        clear hK K
        try simp only [Act.put, List.setIfInBounds_toArray, List.set_cons_zero, List.set_cons_succ]
        refine held_take (v := ?vv122) 11 rfl (by kernel_rfl) (by kernel_rfl) (by kernel_rfl) (fun _ _ _ h => h) (by rfl) ?yy122 (by assumption) ?nn122
        case yy122 =>
          intro w hSw
          (try dsimp only at hSw)
          go_simp
          try with_reducible rfl
        try simp only [Act.put, List.setIfInBounds_toArray, List.set_cons_zero, List.set_cons_succ]
        refine held_two 1 3 rfl rfl (by kernel_rfl) (by rfl) (by rfl) (fun K hK => ?_) (fun K hK => ?_)
        · go_wp2_with fail
          refine hK.out _ _ ?_ (fun hHeld => ?_)
          · exact ⟨XC5.out.c5, XC5.out.c6⟩
          clear hK K
          try simp only [Act.put, List.setIfInBounds_toArray, List.set_cons_zero, List.set_cons_succ]
          refine held_do 3 rfl (by kernel_rfl) (by rfl) (fun K hK => ?_)
          go_wp2_with fail
          refine hK.out _ _ ?_ (fun hHeld => ?_)
          · exact ⟨XC5.out.c5, XC5.out.c6⟩
          clear hK K
          try simp only [Act.put, List.setIfInBounds_toArray, List.set_cons_zero, List.set_cons_succ]
          refine held_take (v := ?vv123) 4 rfl (by kernel_rfl) (by kernel_rfl) (by kernel_rfl) (fun _ _ _ h => h) (by rfl) ?yy123 (by assumption) ?nn123
          case yy123 =>
            intro w hSw
            (try dsimp only at hSw)
            go_simp
            try with_reducible rfl
          try simp only [Act.put, List.setIfInBounds_toArray, List.set_cons_zero, List.set_cons_succ]
          refine held_take (v := ?vv124) 5 rfl (by kernel_rfl) (by kernel_rfl) (by kernel_rfl) (fun _ _ _ h => h) (by rfl) ?yy124 (by assumption) ?nn124
          case yy124 =>
            intro w hSw
            (try dsimp only at hSw)
            go_simp
            try with_reducible rfl
          try simp only [Act.put, List.setIfInBounds_toArray, List.set_cons_zero, List.set_cons_succ]
          refine held_do 12 rfl (by kernel_rfl) (by rfl) (fun K hK => ?_)
          go_wp2_with (go_at_call 27; with_reducible refine (CB.out _).mono ?_; rintro e _ ⟨rfl, rfl⟩)
          refine hK.out _ _ ?_ (fun hHeld => ?_)
          · exact ⟨XC5.out.c5, XC5.out.c6⟩
          clear hK K
          try simp only [Act.put, List.setIfInBounds_toArray, List.set_cons_zero, List.set_cons_succ]
          refine held_take (v := ?vv125) 13 rfl (by kernel_rfl) (by kernel_rfl) (by kernel_rfl) (fun _ _ _ h => h) (by rfl) ?yy125 (by assumption) ?nn125
          case yy125 =>
            intro w hSw
            (try dsimp only at hSw)
            go_simp
            try with_reducible rfl
          try simp only [Act.put, List.setIfInBounds_toArray, List.set_cons_zero, List.set_cons_succ]
          refine held_do 14 rfl (by kernel_rfl) (by rfl) (fun K hK => ?_)
          go_wp2_with fail
          refine hK.out _ _ ?_ (fun hHeld => ?_)
          · exact ⟨(BxPg.set4 XC5.out).c5, (BxPg.set4 XC5.out).c6⟩
          clear hK K
          try simp only [Act.put, List.setIfInBounds_toArray, List.set_cons_zero, List.set_cons_succ]
          obtain ⟨w6, hw⟩ : ∃ wx, wx = w5.setCell ⟨w.heap.size, 4, none⟩ (.int .u64 (al' : Int)) := ⟨_, rfl⟩
          rw [← hw]
          have XC6 := Lib.hid (show BxPg w.heap.size c t s r al' x mk en cu w6 by rw [hw]; exact XC5.out.set4)
          have B6 := Lib.hid (show Below w.heap.size w w6 by rw [hw]; exact Below.setCell B5.out GC.out _)
          have SC6 := Lib.hid (show w.heap.size < w6.heap.size by rw [hw]; have := SC5.out; simpa using this)
          have XG6 := Lib.hid (show BxGt (w.heap.size + 1) nw b a m n tk fl rt l rd w6 by rw [hw]; exact XG5.out.other rfl (Nat.ne_of_lt OCG.out))
          have SG6 := Lib.hid (show (w.heap.size + 1) < w6.heap.size by rw [hw]; have := SG5.out; simpa using this)
          have XZ6 := Lib.hid (show BxPg (w.heap.size + 2) 0 0 0 0 0 0 0 0 false w6 by rw [hw]; exact XZ5.out.other rfl (Nat.ne_of_lt OCZ.out))
          have SZ6 := Lib.hid (show (w.heap.size + 2) < w6.heap.size by rw [hw]; have := SZ5.out; simpa using this)
          clear v0 v1 v2 v3 v4 v5 v6 v7 v8 vf0 vf1 vf2 vf3 vf4 vf5 vf6 vf7 vf8
          clear hw B5 XC5 SC5 XG5 SG5 XZ5 SZ5
          refine wpAnyH_done (by kernel_rfl) ?_ _
          try go_wp2_with fail
          go_meet
          case rel => exact ⟨XC6.out, XG6.out, XZ6.out, B6.out, (by have := SZ6.out; omega)⟩
        · go_wp2_with fail
          refine hK.out _ _ ?_ (fun hHeld => ?_)
          · exact ⟨XC5.out.c5, XC5.out.c6⟩
          clear hK K
          try simp only [Act.put, List.setIfInBounds_toArray, List.set_cons_zero, List.set_cons_succ]
          refine held_take (v := ?vv126) 4 rfl (by kernel_rfl) (by kernel_rfl) (by kernel_rfl) (fun _ _ _ h => h) (by rfl) ?yy126 (by assumption) ?nn126
          case yy126 =>
            intro w hSw
            (try dsimp only at hSw)
            go_simp
            try with_reducible rfl
          try simp only [Act.put, List.setIfInBounds_toArray, List.set_cons_zero, List.set_cons_succ]
          refine held_do 1 rfl (by kernel_rfl) (by rfl) (fun K hK => ?_)
          go_wp2_with fail
          refine hK.out _ _ ?_ (fun hHeld => ?_)
          · exact ⟨XC5.out.c5, XC5.out.c6⟩
          clear hK K
          try simp only [Act.put, List.setIfInBounds_toArray, List.set_cons_zero, List.set_cons_succ]
          refine held_take (v := ?vv127) 5 rfl (by kernel_rfl) (by kernel_rfl) (by kernel_rfl) (fun _ _ _ h => h) (by rfl) ?yy127 (by assumption) ?nn127
          case yy127 =>
            intro w hSw
            (try dsimp only at hSw)
            go_simp
            try with_reducible rfl
          try simp only [Act.put, List.setIfInBounds_toArray, List.set_cons_zero, List.set_cons_succ]
          refine held_do 12 rfl (by kernel_rfl) (by rfl) (fun K hK => ?_)
          go_wp2_with (go_at_call 27; with_reducible refine (CB.out _).mono ?_; rintro e _ ⟨rfl, rfl⟩)
          refine hK.out _ _ ?_ (fun hHeld => ?_)
          · exact ⟨XC5.out.c5, XC5.out.c6⟩
          clear hK K
          try simp only [Act.put, List.setIfInBounds_toArray, List.set_cons_zero, List.set_cons_succ]
          refine held_take (v := ?vv128) 13 rfl (by kernel_rfl) (by kernel_rfl) (by kernel_rfl) (fun _ _ _ h => h) (by rfl) ?yy128 (by assumption) ?nn128
          case yy128 =>
            intro w hSw
            (try dsimp only at hSw)
            go_simp
            try with_reducible rfl
          try simp only [Act.put, List.setIfInBounds_toArray, List.set_cons_zero, List.set_cons_succ]
          refine held_do 14 rfl (by kernel_rfl) (by rfl) (fun K hK => ?_)
          go_wp2_with fail
          refine hK.out _ _ ?_ (fun hHeld => ?_)
          · exact ⟨(BxPg.set4 XC5.out).c5, (BxPg.set4 XC5.out).c6⟩
          clear hK K
          try simp only [Act.put, List.setIfInBounds_toArray, List.set_cons_zero, List.set_cons_succ]
          obtain ⟨w6, hw⟩ : ∃ wx, wx = w5.setCell ⟨w.heap.size, 4, none⟩ (.int .u64 (al' : Int)) := ⟨_, rfl⟩
          rw [← hw]
          have XC6 := Lib.hid (show BxPg w.heap.size c t s r al' x mk en cu w6 by rw [hw]; exact XC5.out.set4)
          have B6 := Lib.hid (show Below w.heap.size w w6 by rw [hw]; exact Below.setCell B5.out GC.out _)
          have SC6 := Lib.hid (show w.heap.size < w6.heap.size by rw [hw]; have := SC5.out; simpa using this)
          have XG6 := Lib.hid (show BxGt (w.heap.size + 1) nw b a m n tk fl rt l rd w6 by rw [hw]; exact XG5.out.other rfl (Nat.ne_of_lt OCG.out))
          have SG6 := Lib.hid (show (w.heap.size + 1) < w6.heap.size by rw [hw]; have := SG5.out; simpa using this)
          have XZ6 := Lib.hid (show BxPg (w.heap.size + 2) 0 0 0 0 0 0 0 0 false w6 by rw [hw]; exact XZ5.out.other rfl (Nat.ne_of_lt OCZ.out))
          have SZ6 := Lib.hid (show (w.heap.size + 2) < w6.heap.size by rw [hw]; have := SZ5.out; simpa using this)
          clear v0 v1 v2 v3 v4 v5 v6 v7 v8 vf0 vf1 vf2 vf3 vf4 vf5 vf6 vf7 vf8
          clear hw B5 XC5 SC5 XG5 SG5 XZ5 SZ5
          refine wpAnyH_done (by kernel_rfl) ?_ _
          try go_wp2_with fail
          go_meet
          case rel => exact ⟨XC6.out, XG6.out, XZ6.out, B6.out, (by have := SZ6.out; omega)⟩
    case rest =>
      clear XC4 SC4 XG4 SG4 XZ4 SZ4 B4
      obtain ⟨hx, hg, hz, hb, hs⟩ := hcut
      have XC5 := Lib.hid hx
      have XG5 := Lib.hid hg
      have XZ5 := Lib.hid hz
      have B5 := Lib.hid hb
      have SC5 := Lib.hid (show w.heap.size < wc.heap.size by omega)
      have SG5 := Lib.hid (show w.heap.size + 1 < wc.heap.size by omega)
      have SZ5 := Lib.hid (show w.heap.size + 2 < wc.heap.size by omega)
      clear hx hg hz hb hs
      obtain ⟨v0, v1, v2, v3, v4, v5, v6, v7, v8, vf0, vf1, vf2, vf3, vf4, vf5, vf6, vf7, vf8⟩ := XC5.out
      go_upto_region 5 with fail
      obtain ⟨w6, hw⟩ : ∃ wx, wx = wc.setCell ⟨w.heap.size, 5, none⟩ (.int .u64 0) := ⟨_, rfl⟩
      rw [← hw]
      have XC6 := Lib.hid (show BxPg w.heap.size c t s r al' 0 mk en cu w6 by rw [hw]; exact XC5.out.set5)
      have B6 := Lib.hid (show Below w.heap.size w w6 by rw [hw]; exact Below.setCell B5.out GC.out _)
      have SC6 := Lib.hid (show w.heap.size < w6.heap.size by rw [hw]; have := SC5.out; simpa using this)
      have XG6 := Lib.hid (show BxGt (w.heap.size + 1) nw b a m n tk fl rt l rd w6 by rw [hw]; exact XG5.out.other rfl (Nat.ne_of_lt OCG.out))
      have SG6 := Lib.hid (show (w.heap.size + 1) < w6.heap.size by rw [hw]; have := SG5.out; simpa using this)
      have XZ6 := Lib.hid (show BxPg (w.heap.size + 2) 0 0 0 0 0 0 0 0 false w6 by rw [hw]; exact XZ5.out.other rfl (Nat.ne_of_lt OCZ.out))
      have SZ6 := Lib.hid (show (w.heap.size + 2) < w6.heap.size by rw [hw]; have := SZ5.out; simpa using this)
      clear v0 v1 v2 v3 v4 v5 v6 v7 v8 vf0 vf1 vf2 vf3 vf4 vf5 vf6 vf7 vf8
      clear hw B5 XC5 SC5 XG5 SG5 XZ5 SZ5
      obtain ⟨v0, v1, v2, v3, v4, v5, v6, v7, v8, vf0, vf1, vf2, vf3, vf4, vf5, vf6, vf7, vf8⟩ := XC6.out
      go_upto_region 6 with fail
      obtain ⟨w7, hw⟩ : ∃ wx, wx = w6.setCell ⟨w.heap.size, 6, none⟩ (.int .u64 0) := ⟨_, rfl⟩
      rw [← hw]
      have XC7 := Lib.hid (show BxPg w.heap.size c t s r al' 0 0 en cu w7 by rw [hw]; exact XC6.out.set6)
      have B7 := Lib.hid (show Below w.heap.size w w7 by rw [hw]; exact Below.setCell B6.out GC.out _)
      have SC7 := Lib.hid (show w.heap.size < w7.heap.size by rw [hw]; have := SC6.out; simpa using this)
      have XG7 := Lib.hid (show BxGt (w.heap.size + 1) nw b a m n tk fl rt l rd w7 by rw [hw]; exact XG6.out.other rfl (Nat.ne_of_lt OCG.out))
      have SG7 := Lib.hid (show (w.heap.size + 1) < w7.heap.size by rw [hw]; have := SG6.out; simpa using this)
      have XZ7 := Lib.hid (show BxPg (w.heap.size + 2) 0 0 0 0 0 0 0 0 false w7 by rw [hw]; exact XZ6.out.other rfl (Nat.ne_of_lt OCZ.out))
      have SZ7 := Lib.hid (show (w.heap.size + 2) < w7.heap.size by rw [hw]; have := SZ6.out; simpa using this)
      clear v0 v1 v2 v3 v4 v5 v6 v7 v8 vf0 vf1 vf2 vf3 vf4 vf5 vf6 vf7 vf8
      clear hw B6 XC6 SC6 XG6 SG6 XZ6 SZ6
      obtain ⟨v0, v1, v2, v3, v4, v5, v6, v7, v8, vf0, vf1, vf2, vf3, vf4, vf5, vf6, vf7, vf8⟩ := XC7.out
      have g4 := XG7.out.c4
      go_upto_region 7 with fail
      obtain ⟨w8, hw⟩ : ∃ wx, wx = w7.setCell ⟨w.heap.size, 7, none⟩ (.int .u64 (n : Int)) := ⟨_, rfl⟩
      rw [← hw]
      have XC8 := Lib.hid (show BxPg w.heap.size c t s r al' 0 0 n cu w8 by rw [hw]; exact XC7.out.set7)
      have B8 := Lib.hid (show Below w.heap.size w w8 by rw [hw]; exact Below.setCell B7.out GC.out _)
      have SC8 := Lib.hid (show w.heap.size < w8.heap.size by rw [hw]; have := SC7.out; simpa using this)
      have XG8 := Lib.hid (show BxGt (w.heap.size + 1) nw b a m n tk fl rt l rd w8 by rw [hw]; exact XG7.out.other rfl (Nat.ne_of_lt OCG.out))
      have SG8 := Lib.hid (show (w.heap.size + 1) < w8.heap.size by rw [hw]; have := SG7.out; simpa using this)
      have XZ8 := Lib.hid (show BxPg (w.heap.size + 2) 0 0 0 0 0 0 0 0 false w8 by rw [hw]; exact XZ7.out.other rfl (Nat.ne_of_lt OCZ.out))
      have SZ8 := Lib.hid (show (w.heap.size + 2) < w8.heap.size by rw [hw]; have := SZ7.out; simpa using this)
      clear v0 v1 v2 v3 v4 v5 v6 v7 v8 vf0 vf1 vf2 vf3 vf4 vf5 vf6 vf7 vf8 g4
      clear hw B7 XC7 SC7 XG7 SG7 XZ7 SZ7
      obtain ⟨v0, v1, v2, v3, v4, v5, v6, v7, v8, vf0, vf1, vf2, vf3, vf4, vf5, vf6, vf7, vf8⟩ := XC8.out
      go_upto_region 8 with fail
      obtain ⟨w9, hw⟩ : ∃ wx, wx = w8.setCell ⟨w.heap.size, 8, none⟩ (.bool false) := ⟨_, rfl⟩
      rw [← hw]
      have XC9 := Lib.hid (show BxPg w.heap.size c t s r al' 0 0 n false w9 by rw [hw]; exact XC8.out.set8)
      have B9 := Lib.hid (show Below w.heap.size w w9 by rw [hw]; exact Below.setCell B8.out GC.out _)
      have SC9 := Lib.hid (show w.heap.size < w9.heap.size by rw [hw]; have := SC8.out; simpa using this)
      have XG9 := Lib.hid (show BxGt (w.heap.size + 1) nw b a m n tk fl rt l rd w9 by rw [hw]; exact XG8.out.other rfl (Nat.ne_of_lt OCG.out))
      have SG9 := Lib.hid (show (w.heap.size + 1) < w9.heap.size by rw [hw]; have := SG8.out; simpa using this)
      have XZ9 := Lib.hid (show BxPg (w.heap.size + 2) 0 0 0 0 0 0 0 0 false w9 by rw [hw]; exact XZ8.out.other rfl (Nat.ne_of_lt OCZ.out))
      have SZ9 := Lib.hid (show (w.heap.size + 2) < w9.heap.size by rw [hw]; have := SZ8.out; simpa using this)
      clear v0 v1 v2 v3 v4 v5 v6 v7 v8 vf0 vf1 vf2 vf3 vf4 vf5 vf6 vf7 vf8
      clear hw B8 XC8 SC8 XG8 SG8 XZ8 SZ8
      obtain ⟨v0, v1, v2, v3, v4, v5, v6, v7, v8, -, -, -, -, -, -, -, -, -⟩ := XC9.out
      have g1 := XG9.out.c1
      have g2 := XG9.out.c2
      have g8 := XG9.out.c8
      go_wp2_with fail
      refine (CI.out _).mono ?_
      rintro e w10 ⟨rfl, hb⟩
      have B10 := Lib.hid (below_trans' B9.out hb)
      have XC10 := Lib.hid (XC9.out.below hb SC9.out)
      have SC10 := Lib.hid (Nat.lt_of_lt_of_le SC9.out hb.size)
      have XG10 := Lib.hid (XG9.out.below hb SG9.out)
      have SG10 := Lib.hid (Nat.lt_of_lt_of_le SG9.out hb.size)
      have XZ10 := Lib.hid (XZ9.out.below hb SZ9.out)
      have SZ10 := Lib.hid (Nat.lt_of_lt_of_le SZ9.out hb.size)
      clear v0 v1 v2 v3 v4 v5 v6 v7 v8 g1 g2 g8
      clear hb B9 XC9 SC9 XG9 SG9 XZ9 SZ9
      obtain ⟨v0, v1, v2, v3, v4, v5, v6, v7, v8, vf0, vf1, vf2, vf3, vf4, vf5, vf6, vf7, vf8⟩ := XC10.out
      go_upto_region 9 with fail
      obtain ⟨w11, hw⟩ : ∃ wx, wx = w10.setCell ⟨w.heap.size, 0, none⟩ (.int .u64 (c' : Int)) := ⟨_, rfl⟩
      rw [← hw]
      have XC11 := Lib.hid (show BxPg w.heap.size c' t s r al' 0 0 n false w11 by rw [hw]; exact XC10.out.set0)
      have B11 := Lib.hid (show Below w.heap.size w w11 by rw [hw]; exact Below.setCell B10.out GC.out _)
      have SC11 := Lib.hid (show w.heap.size < w11.heap.size by rw [hw]; have := SC10.out; simpa using this)
      have XG11 := Lib.hid (show BxGt (w.heap.size + 1) nw b a m n tk fl rt l rd w11 by rw [hw]; exact XG10.out.other rfl (Nat.ne_of_lt OCG.out))
      have SG11 := Lib.hid (show (w.heap.size + 1) < w11.heap.size by rw [hw]; have := SG10.out; simpa using this)
      have XZ11 := Lib.hid (show BxPg (w.heap.size + 2) 0 0 0 0 0 0 0 0 false w11 by rw [hw]; exact XZ10.out.other rfl (Nat.ne_of_lt OCZ.out))
      have SZ11 := Lib.hid (show (w.heap.size + 2) < w11.heap.size by rw [hw]; have := SZ10.out; simpa using this)
      clear v0 v1 v2 v3 v4 v5 v6 v7 v8 vf0 vf1 vf2 vf3 vf4 vf5 vf6 vf7 vf8
      clear hw B10 XC10 SC10 XG10 SG10 XZ10 SZ10
      obtain ⟨w12, hw⟩ : ∃ wx, wx = w11.setCell ⟨w.heap.size, 1, none⟩ (.int .u64 (t' : Int)) := ⟨_, rfl⟩
      rw [← hw]
      have XC12 := Lib.hid (show BxPg w.heap.size c' t' s r al' 0 0 n false w12 by rw [hw]; exact XC11.out.set1)
      have B12 := Lib.hid (show Below w.heap.size w w12 by rw [hw]; exact Below.setCell B11.out GC.out _)
      have SC12 := Lib.hid (show w.heap.size < w12.heap.size by rw [hw]; have := SC11.out; simpa using this)
      have XG12 := Lib.hid (show BxGt (w.heap.size + 1) nw b a m n tk fl rt l rd w12 by rw [hw]; exact XG11.out.other rfl (Nat.ne_of_lt OCG.out))
      have SG12 := Lib.hid (show (w.heap.size + 1) < w12.heap.size by rw [hw]; have := SG11.out; simpa using this)
      have XZ12 := Lib.hid (show BxPg (w.heap.size + 2) 0 0 0 0 0 0 0 0 false w12 by rw [hw]; exact XZ11.out.other rfl (Nat.ne_of_lt OCZ.out))
      have SZ12 := Lib.hid (show (w.heap.size + 2) < w12.heap.size by rw [hw]; have := SZ11.out; simpa using this)
      clear hw B11 XC11 SC11 XG11 SG11 XZ11 SZ11
      obtain ⟨w13, hw⟩ : ∃ wx, wx = w12.setCell ⟨w.heap.size, 2, none⟩ (.int .u64 (s' : Int)) := ⟨_, rfl⟩
      rw [← hw]
      have XC13 := Lib.hid (show BxPg w.heap.size c' t' s' r al' 0 0 n false w13 by rw [hw]; exact XC12.out.set2)
      have B13 := Lib.hid (show Below w.heap.size w w13 by rw [hw]; exact Below.setCell B12.out GC.out _)
      have SC13 := Lib.hid (show w.heap.size < w13.heap.size by rw [hw]; have := SC12.out; simpa using this)
      have XG13 := Lib.hid (show BxGt (w.heap.size + 1) nw b a m n tk fl rt l rd w13 by rw [hw]; exact XG12.out.other rfl (Nat.ne_of_lt OCG.out))
      have SG13 := Lib.hid (show (w.heap.size + 1) < w13.heap.size by rw [hw]; have := SG12.out; simpa using this)
      have XZ13 := Lib.hid (show BxPg (w.heap.size + 2) 0 0 0 0 0 0 0 0 false w13 by rw [hw]; exact XZ12.out.other rfl (Nat.ne_of_lt OCZ.out))
      have SZ13 := Lib.hid (show (w.heap.size + 2) < w13.heap.size by rw [hw]; have := SZ12.out; simpa using this)
      clear hw B12 XC12 SC12 XG12 SG12 XZ12 SZ12
      obtain ⟨w14, hw⟩ : ∃ wx, wx = w13.setCell ⟨w.heap.size, 3, none⟩ (.int .u64 (r' : Int)) := ⟨_, rfl⟩
      rw [← hw]
      have XC14 := Lib.hid (show BxPg w.heap.size c' t' s' r' al' 0 0 n false w14 by rw [hw]; exact XC13.out.set3)
      have B14 := Lib.hid (show Below w.heap.size w w14 by rw [hw]; exact Below.setCell B13.out GC.out _)
      have SC14 := Lib.hid (show w.heap.size < w14.heap.size by rw [hw]; have := SC13.out; simpa using this)
      have XG14 := Lib.hid (show BxGt (w.heap.size + 1) nw b a m n tk fl rt l rd w14 by rw [hw]; exact XG13.out.other rfl (Nat.ne_of_lt OCG.out))
      have SG14 := Lib.hid (show (w.heap.size + 1) < w14.heap.size by rw [hw]; have := SG13.out; simpa using this)
      have XZ14 := Lib.hid (show BxPg (w.heap.size + 2) 0 0 0 0 0 0 0 0 false w14 by rw [hw]; exact XZ13.out.other rfl (Nat.ne_of_lt OCZ.out))
      have SZ14 := Lib.hid (show (w.heap.size + 2) < w14.heap.size by rw [hw]; have := SZ13.out; simpa using this)
      clear hw B13 XC13 SC13 XG13 SG13 XZ13 SZ13
      obtain ⟨v0, v1, v2, v3, v4, v5, v6, v7, v8, -, -, -, -, -, -, -, -, -⟩ := XC14.out
      obtain ⟨z0, z1, z2, z3, z4, z5, z6, z7, z8, zf0, zf1, zf2, zf3, zf4, zf5, zf6, zf7, zf8⟩ := XZ14.out
      go_wp2_with fail
      show bodyPost _ _ _ _ _ (putPg (w.heap.size + 2) c' t' s' r' al' 0 0 n false w14)
      have BZ : Below w.heap.size w (putPg (w.heap.size + 2) c' t' s' r' al' 0 0 n false w14) := B14.out.trans (putPg_below GZ.out)
      obtain ⟨z0, z1, z2, z3, z4, z5, z6, z7, z8, -, -, -, -, -, -, -, -, -⟩ := (show BxPg (w.heap.size + 2) c' t' s' r' al' 0 0 n false (putPg (w.heap.size + 2) c' t' s' r' al' 0 0 n false w14) from XZ14.out.put)
      exact bodyPost_ret (v := aggPg c' t' s' r' al' 0 0 n false) (by simp [results, Try.results10, z0, z1, z2, z3, z4, z5, z6, z7, z8, go_sem]) rfl ⟨rfl, BZ⟩
  · rw [if_neg g] at he
    simp only at he
    injection he with r0 r5 r6 r7 r8 r9
    subst r5 r6 r7 r8 r9
    have t1 : decide (en ≤ m) = false := decide_eq_false g
    have CI := Lib.hid (fun w => Rno.rack_any c t s r b a c' t' s' r' l w ⟨hc, ht, hs, hr⟩ hb ha r0)
    clear r0 hb ha hx x1 g hc ht hs hr hal hac hmk hen
    obtain ⟨w1, hw1⟩ : ∃ wx, wx = w.alloc (.cells #[.int .u64 (c : Int), .int .u64 (t : Int), .int .u64 (s : Int), .int .u64 (r : Int), .int .u64 (al : Int), .int .u64 (ac : Int), .int .u64 (mk : Int), .int .u64 (en : Int), .bool cu] 26) := ⟨_, rfl⟩
    have z1 : w1.heap.size = w.heap.size + 1 := by rw [hw1]; simp
    obtain ⟨w2, hw2⟩ : ∃ wx, wx = w1.alloc (.cells #[.int .u64 (nw : Int), .int .u64 (b : Int), .int .u64 (a : Int), .int .u64 (m : Int), .int .u64 (n : Int), .int .u64 (tk : Int), .int .u64 (fl : Int), .int .u64 (rt : Int), .bool l, .bool rd] 28) := ⟨_, rfl⟩
    have z2 : w2.heap.size = w.heap.size + 2 := by rw [hw2]; simp; omega
    obtain ⟨w3, hw3⟩ : ∃ wx, wx = w2.alloc (.cells #[.int .u64 0, .int .u64 0, .int .u64 0, .int .u64 0, .int .u64 0, .int .u64 0, .int .u64 0, .int .u64 0, .bool false] 26) := ⟨_, rfl⟩
    have z3 : w3.heap.size = w.heap.size + 3 := by rw [hw3]; simp; omega
    have t3 : Below w3.heap.size w3 w3 := Below.refl _ _
    have t2 : Below w2.heap.size w2 w3 := (show Below w2.heap.size w2 w3 by rw [hw3]; exact (Below.refl _ _).alloc (Nat.le_refl _) _).trans (t3.mono (by omega))
    have t1 : Below w1.heap.size w1 w3 := (show Below w1.heap.size w1 w2 by rw [hw2]; exact (Below.refl _ _).alloc (Nat.le_refl _) _).trans (t2.mono (by omega))
    have t0 : Below w.heap.size w w3 := (show Below w.heap.size w w1 by rw [hw1]; exact (Below.refl _ _).alloc (Nat.le_refl _) _).trans (t1.mono (by omega))
    have BN := Lib.hid t0
    have ZN := Lib.hid z3
    have XC := Lib.hid (show BxPg w.heap.size c t s r al ac mk en cu w3 from (show BxPg w.heap.size c t s r al ac mk en cu w1 by rw [hw1]; exact BxPg.new _ c t s r al ac mk en cu).below t1 (by omega))
    have XG := Lib.hid (show BxGt (w.heap.size + 1) nw b a m n tk fl rt l rd w3 from (show BxGt (w.heap.size + 1) nw b a m n tk fl rt l rd w2 by rw [hw2, ← z1]; exact BxGt.new _ nw b a m n tk fl rt l rd).below t2 (by omega))
    have XZ := Lib.hid (show BxPg (w.heap.size + 2) 0 0 0 0 0 0 0 0 false w3 from (show BxPg (w.heap.size + 2) 0 0 0 0 0 0 0 0 false w3 by rw [hw3, ← z2]; exact BxPg.new _ 0 0 0 0 0 0 0 0 false).below t3 (by omega))
    clear t0 t1 t2 t3 z1 z2 z3
    have B3 := BN
    have XC3 := XC
    have SC3 := Lib.hid (show w.heap.size < w3.heap.size by have := ZN.out; omega)
    have GC := Lib.hid (show w.heap.size ≤ w.heap.size by omega)
    have XG3 := XG
    have SG3 := Lib.hid (show (w.heap.size + 1) < w3.heap.size by have := ZN.out; omega)
    have GG := Lib.hid (show w.heap.size ≤ (w.heap.size + 1) by omega)
    have OCG := Lib.hid (show w.heap.size < (w.heap.size + 1) by omega)
    have XZ3 := XZ
    have SZ3 := Lib.hid (show (w.heap.size + 2) < w3.heap.size by have := ZN.out; omega)
    have GZ := Lib.hid (show w.heap.size ≤ (w.heap.size + 2) by omega)
    have OCZ := Lib.hid (show w.heap.size < (w.heap.size + 2) by omega)
    have OGZ := Lib.hid (show (w.heap.size + 1) < (w.heap.size + 2) by omega)
    clear ZN BN XC XG XZ
    go_enter Try.func10, Try.ntmps10
    go_upto_region 1 with fail
    rw [← hw1, ← hw2, ← hw3]
    clear hw1 hw2 hw3
    obtain ⟨k0, k1, k2, k3, k4, k5, k6, k7, k8, kf0, kf1, kf2, kf3, kf4, kf5, kf6, kf7, kf8⟩ := XC3.out
    have g1 := XG3.out.c1
    go_wp2_with fail
    refine (CA.out _).mono ?_
    rintro e _ ⟨rfl, rfl⟩
    go_upto_region 2 with fail
    obtain ⟨w4, hw⟩ : ∃ wx, wx = w3.setCell ⟨w.heap.size, 5, none⟩ (.int .u64 (x : Int)) := ⟨_, rfl⟩
    rw [← hw]
    have XC4 := Lib.hid (show BxPg w.heap.size c t s r al x mk en cu w4 by rw [hw]; exact XC3.out.set5)
    have B4 := Lib.hid (show Below w.heap.size w w4 by rw [hw]; exact Below.setCell B3.out GC.out _)
    have SC4 := Lib.hid (show w.heap.size < w4.heap.size by rw [hw]; have := SC3.out; simpa using this)
    have XG4 := Lib.hid (show BxGt (w.heap.size + 1) nw b a m n tk fl rt l rd w4 by rw [hw]; exact XG3.out.other rfl (Nat.ne_of_lt OCG.out))
    have SG4 := Lib.hid (show (w.heap.size + 1) < w4.heap.size by rw [hw]; have := SG3.out; simpa using this)
    have XZ4 := Lib.hid (show BxPg (w.heap.size + 2) 0 0 0 0 0 0 0 0 false w4 by rw [hw]; exact XZ3.out.other rfl (Nat.ne_of_lt OCZ.out))
    have SZ4 := Lib.hid (show (w.heap.size + 2) < w4.heap.size by rw [hw]; have := SZ3.out; simpa using this)
    clear k0 k1 k2 k3 k4 k5 k6 k7 k8 kf0 kf1 kf2 kf3 kf4 kf5 kf6 kf7 kf8 g1
    clear hw B3 XC3 SC3 XG3 SG3 XZ3 SZ3
    have v7 := XC4.out.c7
    have g3 := XG4.out.c3
    go_upto_region 8 with fail
    clear v7 g3
    obtain ⟨v0, v1, v2, v3, v4, v5, v6, v7, v8, -, -, -, -, -, -, -, -, -⟩ := XC4.out
    have g1 := XG4.out.c1
    have g2 := XG4.out.c2
    have g8 := XG4.out.c8
    go_wp2_with fail
    refine (CI.out _).mono ?_
    rintro e w5 ⟨rfl, hb⟩
    have B5 := Lib.hid (below_trans' B4.out hb)
    have XC5 := Lib.hid (XC4.out.below hb SC4.out)
    have SC5 := Lib.hid (Nat.lt_of_lt_of_le SC4.out hb.size)
    have XG5 := Lib.hid (XG4.out.below hb SG4.out)
    have SG5 := Lib.hid (Nat.lt_of_lt_of_le SG4.out hb.size)
    have XZ5 := Lib.hid (XZ4.out.below hb SZ4.out)
    have SZ5 := Lib.hid (Nat.lt_of_lt_of_le SZ4.out hb.size)
    clear v0 v1 v2 v3 v4 v5 v6 v7 v8 g1 g2 g8
    clear hb B4 XC4 SC4 XG4 SG4 XZ4 SZ4
    obtain ⟨v0, v1, v2, v3, v4, v5, v6, v7, v8, vf0, vf1, vf2, vf3, vf4, vf5, vf6, vf7, vf8⟩ := XC5.out
    go_upto_region 9 with fail
    obtain ⟨w6, hw⟩ : ∃ wx, wx = w5.setCell ⟨w.heap.size, 0, none⟩ (.int .u64 (c' : Int)) := ⟨_, rfl⟩
    rw [← hw]
    have XC6 := Lib.hid (show BxPg w.heap.size c' t s r al x mk en cu w6 by rw [hw]; exact XC5.out.set0)
    have B6 := Lib.hid (show Below w.heap.size w w6 by rw [hw]; exact Below.setCell B5.out GC.out _)
    have SC6 := Lib.hid (show w.heap.size < w6.heap.size by rw [hw]; have := SC5.out; simpa using this)
    have XG6 := Lib.hid (show BxGt (w.heap.size + 1) nw b a m n tk fl rt l rd w6 by rw [hw]; exact XG5.out.other rfl (Nat.ne_of_lt OCG.out))
    have SG6 := Lib.hid (show (w.heap.size + 1) < w6.heap.size by rw [hw]; have := SG5.out; simpa using this)
    have XZ6 := Lib.hid (show BxPg (w.heap.size + 2) 0 0 0 0 0 0 0 0 false w6 by rw [hw]; exact XZ5.out.other rfl (Nat.ne_of_lt OCZ.out))
    have SZ6 := Lib.hid (show (w.heap.size + 2) < w6.heap.size by rw [hw]; have := SZ5.out; simpa using this)
    clear v0 v1 v2 v3 v4 v5 v6 v7 v8 vf0 vf1 vf2 vf3 vf4 vf5 vf6 vf7 vf8
    clear hw B5 XC5 SC5 XG5 SG5 XZ5 SZ5
    obtain ⟨w7, hw⟩ : ∃ wx, wx = w6.setCell ⟨w.heap.size, 1, none⟩ (.int .u64 (t' : Int)) := ⟨_, rfl⟩
    rw [← hw]
    have XC7 := Lib.hid (show BxPg w.heap.size c' t' s r al x mk en cu w7 by rw [hw]; exact XC6.out.set1)
    have B7 := Lib.hid (show Below w.heap.size w w7 by rw [hw]; exact Below.setCell B6.out GC.out _)
    have SC7 := Lib.hid (show w.heap.size < w7.heap.size by rw [hw]; have := SC6.out; simpa using this)
    have XG7 := Lib.hid (show BxGt (w.heap.size + 1) nw b a m n tk fl rt l rd w7 by rw [hw]; exact XG6.out.other rfl (Nat.ne_of_lt OCG.out))
    have SG7 := Lib.hid (show (w.heap.size + 1) < w7.heap.size by rw [hw]; have := SG6.out; simpa using this)
    have XZ7 := Lib.hid (show BxPg (w.heap.size + 2) 0 0 0 0 0 0 0 0 false w7 by rw [hw]; exact XZ6.out.other rfl (Nat.ne_of_lt OCZ.out))
    have SZ7 := Lib.hid (show (w.heap.size + 2) < w7.heap.size by rw [hw]; have := SZ6.out; simpa using this)
    clear hw B6 XC6 SC6 XG6 SG6 XZ6 SZ6
    obtain ⟨w8, hw⟩ : ∃ wx, wx = w7.setCell ⟨w.heap.size, 2, none⟩ (.int .u64 (s' : Int)) := ⟨_, rfl⟩
    rw [← hw]
    have XC8 := Lib.hid (show BxPg w.heap.size c' t' s' r al x mk en cu w8 by rw [hw]; exact XC7.out.set2)
    have B8 := Lib.hid (show Below w.heap.size w w8 by rw [hw]; exact Below.setCell B7.out GC.out _)
    have SC8 := Lib.hid (show w.heap.size < w8.heap.size by rw [hw]; have := SC7.out; simpa using this)
    have XG8 := Lib.hid (show BxGt (w.heap.size + 1) nw b a m n tk fl rt l rd w8 by rw [hw]; exact XG7.out.other rfl (Nat.ne_of_lt OCG.out))
    have SG8 := Lib.hid (show (w.heap.size + 1) < w8.heap.size by rw [hw]; have := SG7.out; simpa using this)
    have XZ8 := Lib.hid (show BxPg (w.heap.size + 2) 0 0 0 0 0 0 0 0 false w8 by rw [hw]; exact XZ7.out.other rfl (Nat.ne_of_lt OCZ.out))
    have SZ8 := Lib.hid (show (w.heap.size + 2) < w8.heap.size by rw [hw]; have := SZ7.out; simpa using this)
    clear hw B7 XC7 SC7 XG7 SG7 XZ7 SZ7
    obtain ⟨w9, hw⟩ : ∃ wx, wx = w8.setCell ⟨w.heap.size, 3, none⟩ (.int .u64 (r' : Int)) := ⟨_, rfl⟩
    rw [← hw]
    have XC9 := Lib.hid (show BxPg w.heap.size c' t' s' r' al x mk en cu w9 by rw [hw]; exact XC8.out.set3)
    have B9 := Lib.hid (show Below w.heap.size w w9 by rw [hw]; exact Below.setCell B8.out GC.out _)
    have SC9 := Lib.hid (show w.heap.size < w9.heap.size by rw [hw]; have := SC8.out; simpa using this)
    have XG9 := Lib.hid (show BxGt (w.heap.size + 1) nw b a m n tk fl rt l rd w9 by rw [hw]; exact XG8.out.other rfl (Nat.ne_of_lt OCG.out))
    have SG9 := Lib.hid (show (w.heap.size + 1) < w9.heap.size by rw [hw]; have := SG8.out; simpa using this)
    have XZ9 := Lib.hid (show BxPg (w.heap.size + 2) 0 0 0 0 0 0 0 0 false w9 by rw [hw]; exact XZ8.out.other rfl (Nat.ne_of_lt OCZ.out))
    have SZ9 := Lib.hid (show (w.heap.size + 2) < w9.heap.size by rw [hw]; have := SZ8.out; simpa using this)
    clear hw B8 XC8 SC8 XG8 SG8 XZ8 SZ8
    obtain ⟨v0, v1, v2, v3, v4, v5, v6, v7, v8, -, -, -, -, -, -, -, -, -⟩ := XC9.out
    obtain ⟨z0, z1, z2, z3, z4, z5, z6, z7, z8, zf0, zf1, zf2, zf3, zf4, zf5, zf6, zf7, zf8⟩ := XZ9.out
    go_wp2_with fail
    show bodyPost _ _ _ _ _ (putPg (w.heap.size + 2) c' t' s' r' al x mk en cu w9)
    have BZ : Below w.heap.size w (putPg (w.heap.size + 2) c' t' s' r' al x mk en cu w9) := B9.out.trans (putPg_below GZ.out)
    obtain ⟨z0, z1, z2, z3, z4, z5, z6, z7, z8, -, -, -, -, -, -, -, -, -⟩ := (show BxPg (w.heap.size + 2) c' t' s' r' al x mk en cu (putPg (w.heap.size + 2) c' t' s' r' al x mk en cu w9) from XZ9.out.put)
    exact bodyPost_ret (v := aggPg c' t' s' r' al x mk en cu) (by simp [results, Try.results10, z0, z1, z2, z3, z4, z5, z6, z7, z8, go_sem]) rfl ⟨rfl, BZ⟩
end Go.Proofs.Ytpdmepblmjjeeaa
