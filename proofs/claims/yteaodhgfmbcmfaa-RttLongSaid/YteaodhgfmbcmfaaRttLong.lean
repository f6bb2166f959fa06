/-
  RttLong: a sender waits no shorter than the smooth time and the most delay, a packet is late no sooner than the latest time, nor at once, and longer delays never make the smooth time longer, for all times of 32 bits. No condition.
-/
import Derived.Test.YteaodhgfmbcmfaaRtW
import Derived.Test.YteaodhgfmbcmfaaOpen
import Derived.Test.YteaodhgfmbcmfaaRgn
namespace Wig
theorem fadd_ge {a b : Nat} (h : a < 18446744073709551616) : a ≤ fadd a b := by unfold fadd; split <;> omega
theorem fadd_ge2 {a b c : Nat} (h : a ≤ c) (h2 : a + b < 18446744073709551616) : a + b ≤ fadd c b := by unfold fadd; split <;> omega
theorem fadd_mono {a b c : Nat} (h : b ≤ c) : fadd a b ≤ fadd a c := by unfold fadd; split <;> split <;> omega
/-- What the law asks of two estimates. -/
theorem long_all {a b dl mo ms lo wt : Nat} (ha : a < 4294967296) (hb : b < 4294967296) (hdl : dl < 4294967296) (hmo : mo < 4294967296) (hms : ms < 4294967296) (hlo : lo = min a b) (hwt : wt = min (dl + mo) ms) :
    ∃ sx vx sy vy, rup ⟨true, a, a, a, a / 2⟩ b dl ms = ⟨true, b, lo, sx, vx⟩ ∧ rup ⟨true, a, a, a, a / 2⟩ b (dl + mo) ms = ⟨true, b, lo, sy, vy⟩ ∧ (sy ≤ sx ∨ b < lo + wt) ∧
      sx + ms ≤ rwait ⟨true, b, lo, sx, vx⟩ ms 0 ∧ b ≤ rlate ⟨true, b, lo, sx, vx⟩ ∧ 1 ≤ rlate ⟨true, b, lo, sx, vx⟩ ∧ sx < 8589934592 := by
  have e1 : rup ⟨true, a, a, a, a / 2⟩ b dl ms = ⟨true, b, lo, fadd (a - a / 8) (rown b lo (min dl ms) / 8), fadd (a / 2 - a / 2 / 4) (rgap (rown b lo (min dl ms)) a / 4)⟩ := by
    unfold rup; rw [if_pos rfl, hlo]
  have e2 : rup ⟨true, a, a, a, a / 2⟩ b (dl + mo) ms = ⟨true, b, lo, fadd (a - a / 8) (rown b lo wt / 8), fadd (a / 2 - a / 2 / 4) (rgap (rown b lo wt) a / 4)⟩ := by
    unfold rup; rw [if_pos rfl, hlo, hwt]
  have hx := rown_le b lo (min dl ms)
  have hs : fadd (a - a / 8) (rown b lo (min dl ms) / 8) < 8589934592 := by unfold fadd; rw [if_pos (by omega)]; omega
  refine ⟨_, _, _, _, e1, e2, ?_, ?_, ?_, ?_, hs⟩
  · by_cases h : b < lo + wt
    · exact Or.inr h
    · refine Or.inl (fadd_mono ?_)
      have q1 : fadd lo wt = lo + wt := by unfold fadd; rw [if_pos (by omega)]
      have q2 : fadd lo (min dl ms) = lo + min dl ms := by unfold fadd; rw [if_pos (by omega)]
      unfold rown
      rw [q1, q2, if_neg h, if_neg (by omega)]
      omega
  · rw [rwait_zero]
    generalize fadd (a - a / 8) (rown b lo (min dl ms) / 8) = sx at hs ⊢
    unfold ronce rknown
    rw [if_pos rfl]
    simp only
    exact fadd_ge2 (fadd_ge (by omega)) (by omega)
  · generalize fadd (a - a / 8) (rown b lo (min dl ms) / 8) = sx at hs ⊢
    unfold rlate rknown
    rw [if_pos rfl]
    simp only
    have := fadd_ge (a := max sx b) (b := max sx b / 8) (by omega)
    omega
  · unfold rlate
    omega
end Wig
namespace Go.Proofs.Yteaodhgfmbcmfaa.rttLong
open Go.ChangeShapes Go.WideShapes Go.ChangeAt Go.RowKit Go.Deep
set_option linter.unusedVariables false

theorem held_bx {p a b c d : Nat} {h : Bool} {w1 w' : World} (x : Bx p h a b c d w1) (hp : p < w1.heap.size) (k : Below w1.heap.size w1 w') : Bx p h a b c d w' ∧ Below w1.heap.size w1 w' := ⟨x.below k hp, k⟩

set_option maxHeartbeats 4000000 in
theorem walk (a b dl mo ms : Nat) (ha : a < 4294967296) (hb : b < 4294967296) (hdl : dl < 4294967296) (hmo : mo < 4294967296) (hms : ms < 4294967296) (w : World) :
    Calls Try.prog 7 #[.int .u32 (a : Int), .int .u32 (b : Int), .int .u32 (dl : Int), .int .u32 (mo : Int), .int .u32 (ms : Int)] w fun e w' => e = .returned (.bool true) ∧ Below w.heap.size w w' := by
  obtain ⟨lo, hlo⟩ : ∃ lo, lo = min a b := ⟨_, rfl⟩
  obtain ⟨wt, hwt⟩ : ∃ wt, wt = min (dl + mo) ms := ⟨_, rfl⟩
  obtain ⟨sx, vx, sy, vy, hx, hy, hsh, htm, hl1, hl2, hsx⟩ := Wig.long_all ha hb hdl hmo hms hlo hwt
  obtain ⟨q, hq⟩ : ∃ q, q = dl + mo := ⟨_, rfl⟩
  obtain ⟨p, hp⟩ : ∃ p, p = lo + wt := ⟨_, rfl⟩
  obtain ⟨z, hz⟩ : ∃ z, z = sx + ms := ⟨_, rfl⟩
  obtain ⟨aq, haq⟩ : ∃ aq, aq = a / 2 := ⟨_, rfl⟩
  obtain ⟨tm, htme⟩ : ∃ tm, tm = Wig.rwait ⟨true, b, lo, sx, vx⟩ ms 0 := ⟨_, rfl⟩
  obtain ⟨lt, hlte⟩ : ∃ lt, lt = Wig.rlate ⟨true, b, lo, sx, vx⟩ := ⟨_, rfl⟩
  rw [← haq] at hx hy
  rw [← hq] at hy
  rw [← htme, ← hz] at htm
  rw [← hlte] at hl1 hl2
  rw [← hp] at hsh
  have ok0 : Wig.Rt.Ok ⟨false, 0, 0, 0, 0⟩ := ⟨by decide, by decide, by decide, by decide⟩
  have ok1 : Wig.Rt.Ok ⟨true, a, a, a, aq⟩ := ⟨by show a < _; omega, by show a < _; omega, by show a < _; omega, by show aq < _; omega⟩
  have okx : Wig.Rt.Ok ⟨true, b, lo, sx, vx⟩ := by rw [← hx]; exact Wig.rup_ok (by omega)
  have C0 := Lib.hid (fun w => awake_any w)
  have C1 := Lib.hid (show ∀ w, Calls Try.prog 9 #[.agg #[.bool false, .int .u64 0, .int .u64 0, .int .u64 0, .int .u64 0], .int .u64 (a : Int), .int .u64 0, .int .u64 (ms : Int)] w fun e w' =>
      e = .returned (.agg #[.bool true, .int .u64 (a : Int), .int .u64 (a : Int), .int .u64 (a : Int), .int .u64 (aq : Int)]) ∧ Below w.heap.size w w' from
    fun w => update_any false 0 0 0 0 a 0 ms a a a aq w ok0 (by omega) (by decide) (by omega) (by rw [haq]; rfl))
  have C2 := Lib.hid (fun w => update_any true a a a aq b dl ms b lo sx vx w ok1 (by omega) (by omega) (by omega) hx)
  have C3 := Lib.hid (fun w => update_any true a a a aq b q ms b lo sy vy w ok1 (by omega) (by omega) (by omega) hy)
  have C4 := Lib.hid (fun w => timeout_any true b lo sx vx ms tm 0 w okx (by omega) (by decide) (by decide) htme.symm)
  have C5 := Lib.hid (fun w => late_any true b lo sx vx lt w okx hlte.symm)
  have A := Lib.hid (fun (w : World) (o : Obj) => (show Below w.heap.size w (w.alloc o) from (Below.refl _ _).alloc (Nat.le_refl _) o))
  have Z := Lib.hid (fun (w : World) (o : Obj) => (show (w.alloc o).heap.size = w.heap.size + 1 by simp))
  have v1 : IntKind.u64.wrap (a : Int) = (a : Int) := by rw [IntKind.wrap_u64]; omega
  have v2 : IntKind.u64.wrap (b : Int) = (b : Int) := by rw [IntKind.wrap_u64]; omega
  have v3 : IntKind.u64.wrap (dl : Int) = (dl : Int) := by rw [IntKind.wrap_u64]; omega
  have v4 : IntKind.u64.wrap (mo : Int) = (mo : Int) := by rw [IntKind.wrap_u64]; omega
  have v5 : IntKind.u64.wrap (ms : Int) = (ms : Int) := by rw [IntKind.wrap_u64]; omega
  have e1 : IntKind.u64.wrap ((dl : Int) + (mo : Int)) = (q : Int) := by rw [IntKind.wrap_u64]; omega
  have e2 : IntKind.u64.wrap ((lo : Int) + (wt : Int)) = (p : Int) := by rw [IntKind.wrap_u64]; omega
  have e3 : IntKind.u64.wrap ((sx : Int) + (ms : Int)) = (z : Int) := by rw [IntKind.wrap_u64]; omega
  have m1 : (if b < a then (b : Int) else (a : Int)) = (lo : Int) := by split <;> omega
  have m2 : (if ms < q then (ms : Int) else (q : Int)) = (wt : Int) := by split <;> omega
  have t1 : decide (z ≤ tm) = true := decide_eq_true htm
  have t2 : decide (b ≤ lt) = true := decide_eq_true hl1
  have t3 : decide (1 ≤ lt) = true := decide_eq_true hl2
  have t4 : decide ((1 : Int) ≤ (lt : Int)) = true := decide_eq_true (by omega)
  clear ha hb hdl hmo hms hlo hwt hx hy htm hl1 hl2 hsx hq hp hz haq htme hlte ok0 ok1 okx
  by_cases hle : sy ≤ sx
  · have s1 : decide (sy ≤ sx) = true := decide_eq_true hle
    clear hle hsh
    go_enter Try.func7, Try.ntmps7
    go_wp2_with fail
    refine (C0.out _).mono ?_
    rintro e w2 ⟨rfl, hb⟩
    have B2 := Lib.hid hb
    clear hb C0
    go_wp2_with fail
    refine (C1.out _).mono ?_
    rintro e w3 ⟨rfl, hb⟩
    have B3 := Lib.hid (below_trans' B2.out hb)
    clear hb C1
    go_wp2_with fail
    obtain ⟨w4, hw4⟩ : ∃ w4, w4 = w3.alloc (.cells #[.bool true, .int .u64 (a : Int), .int .u64 (a : Int), .int .u64 (a : Int), .int .u64 (aq : Int)] 24) := ⟨_, rfl⟩
    rw [← hw4]
    have R4 := Lib.hid (show Bx w3.heap.size true a a a aq w4 by rw [hw4]; exact Bx.new w3 true a a a aq)
    have S4 := Lib.hid (show w3.heap.size < w4.heap.size by rw [hw4, Z.out]; omega)
    have A4 := Lib.hid (show Below w3.heap.size w3 w4 from hw4 ▸ A.out w3 _)
    have B4 := Lib.hid (show Below w.heap.size w w4 from below_trans' B3.out A4.out)
    clear hw4
    refine (C2.out _).mono ?_
    rintro e w5 ⟨rfl, hb⟩
    have B5 := Lib.hid (below_trans' B4.out hb)
    have R5 := Lib.hid (R4.out.below hb S4.out)
    have S5 := Lib.hid (show w3.heap.size < w5.heap.size by have := S4.out; have := hb.size; omega)
    clear hb C2
    go_upto_region 4 with fail
    obtain ⟨w6, hw6⟩ : ∃ w6, w6 = w5.alloc (.cells #[.bool true, .int .u64 (b : Int), .int .u64 (lo : Int), .int .u64 (sx : Int), .int .u64 (vx : Int)] 24) := ⟨_, rfl⟩
    rw [← hw6]
    have X6 := Lib.hid (show Bx w5.heap.size true b lo sx vx w6 by rw [hw6]; exact Bx.new w5 true b lo sx vx)
    have S6 := Lib.hid (show w5.heap.size < w6.heap.size by rw [hw6, Z.out]; omega)
    have A6 := Lib.hid (show Below w5.heap.size w5 w6 from hw6 ▸ A.out w5 _)
    have B6 := Lib.hid (show Below w.heap.size w w6 from below_trans' B5.out A6.out)
    clear hw6
    have R6 := Lib.hid (R5.out.below A6.out S5.out)
    obtain ⟨k0, k1, k2, k3, k4, -, -, -, -, -⟩ := R6.out
    go_wp2_with fail
    refine (C3.out _).mono ?_
    rintro e w7 ⟨rfl, hb⟩
    have B7 := Lib.hid (below_trans' B6.out hb)
    have X7 := Lib.hid (X6.out.below hb S6.out)
    have S7 := Lib.hid (show w5.heap.size < w7.heap.size by have := S6.out; have := hb.size; omega)
    clear hb C3 k0 k1 k2 k3 k4
    go_upto_region 5 with fail
    obtain ⟨w8, hw8⟩ : ∃ w8, w8 = w7.alloc (.cells #[.bool true, .int .u64 (b : Int), .int .u64 (lo : Int), .int .u64 (sy : Int), .int .u64 (vy : Int)] 24) := ⟨_, rfl⟩
    rw [← hw8]
    have Y8 := Lib.hid (show Bx w7.heap.size true b lo sy vy w8 by rw [hw8]; exact Bx.new w7 true b lo sy vy)
    have S8 := Lib.hid (show w7.heap.size < w8.heap.size by rw [hw8, Z.out]; omega)
    have A8 := Lib.hid (show Below w7.heap.size w7 w8 from hw8 ▸ A.out w7 _)
    have B8 := Lib.hid (show Below w.heap.size w w8 from below_trans' B7.out A8.out)
    clear hw8
    have X8 := Lib.hid (X7.out.below A8.out S7.out)
    have T8 := Lib.hid (show w5.heap.size < w8.heap.size by have := S7.out; have := S8.out; omega)
    obtain ⟨k0, k1, k2, k3, k4, -, -, -, -, -⟩ := X8.out
    obtain ⟨n0, n1, n2, n3, n4, -, -, -, -, -⟩ := Y8.out
    go_wp2_with fail
    clear k0 k1 k2 k3 k4 n0 n1 n2 n3 n4
    refine wp_region_held_drew (S := fun w' => Bx w5.heap.size true b lo sx vx w' ∧ Below w8.heap.size w8 w') (by kernel_rfl) ?_ (fun hHeld => ?_)
    · exact held_bx X8.out T8.out (Below.refl _ _).drew
    refine held_take (v := ?vv401) 0 rfl (by kernel_rfl) (by kernel_rfl) (by kernel_rfl) (fun _ _ _ h => h) (by rfl) ?yy401 (by assumption) ?nn401
    case yy401 =>
      intro w hSw
      (try dsimp only at hSw)
      go_simp
      try with_reducible rfl
    try simp only [Act.put, List.setIfInBounds_toArray, List.set_cons_zero, List.set_cons_succ]
    refine held_take (v := ?vv402) 1 rfl (by kernel_rfl) (by kernel_rfl) (by kernel_rfl) (fun _ _ _ h => h) (by rfl) ?yy402 (by assumption) ?nn402
    case yy402 =>
      intro w hSw
      (try dsimp only at hSw)
      go_simp
      try with_reducible rfl
    try simp only [Act.put, List.setIfInBounds_toArray, List.set_cons_zero, List.set_cons_succ]
    refine held_take (v := ?vv403) 2 rfl (by kernel_rfl) (by kernel_rfl) (by kernel_rfl) (fun _ _ _ h => h) (by rfl) ?yy403 (by assumption) ?nn403
    case yy403 =>
      intro w hSw
      (try dsimp only at hSw)
      go_simp
      try with_reducible rfl
    try simp only [Act.put, List.setIfInBounds_toArray, List.set_cons_zero, List.set_cons_succ]
    refine held_take (v := ?vv404) 3 rfl (by kernel_rfl) (by kernel_rfl) (by kernel_rfl) (fun _ _ _ h => h) (by rfl) ?yy404 (by assumption) ?nn404
    case yy404 =>
      intro w hSw
      (try dsimp only at hSw)
      go_simp
      try with_reducible rfl
    try simp only [Act.put, List.setIfInBounds_toArray, List.set_cons_zero, List.set_cons_succ]
    refine held_take (v := ?vv405) 4 rfl (by kernel_rfl) (by kernel_rfl) (by kernel_rfl) (fun _ _ _ h => h) (by rfl) ?yy405 (by assumption) ?nn405
    case yy405 =>
      intro w hSw
      (try dsimp only at hSw)
      go_simp
      try with_reducible rfl
    try simp only [Act.put, List.setIfInBounds_toArray, List.set_cons_zero, List.set_cons_succ]
    refine held_take (v := .agg #[.bool true, .int .u64 (b : Int), .int .u64 (lo : Int), .int .u64 (sx : Int), .int .u64 (vx : Int)]) 5 rfl (by kernel_rfl) (by kernel_rfl) (by kernel_rfl) (fun _ _ _ h => h) (by rfl) (fun wx hSw => by obtain ⟨c0, c1, c2, c3, c4, -, -, -, -, -⟩ := hSw.1; clear hSw; go_simp) (by assumption) ?_
    try simp only [Act.put, List.setIfInBounds_toArray, List.set_cons_zero, List.set_cons_succ]
    refine held_take (v := ?vv407) 6 rfl (by kernel_rfl) (by kernel_rfl) (by kernel_rfl) (fun _ _ _ h => h) (by rfl) ?yy407 (by assumption) ?nn407
    case yy407 =>
      intro w hSw
      (try dsimp only at hSw)
      go_simp
      try with_reducible rfl
    try simp only [Act.put, List.setIfInBounds_toArray, List.set_cons_zero, List.set_cons_succ]
    refine held_take (v := ?vv408) 7 rfl (by kernel_rfl) (by kernel_rfl) (by kernel_rfl) (fun _ _ _ h => h) (by rfl) ?yy408 (by assumption) ?nn408
    case yy408 =>
      intro w hSw
      (try dsimp only at hSw)
      go_simp
      try with_reducible rfl
    try simp only [Act.put, List.setIfInBounds_toArray, List.set_cons_zero, List.set_cons_succ]
    refine held_take (v := ?vv409) 9 rfl (by kernel_rfl) (by kernel_rfl) (by kernel_rfl) (fun _ _ _ h => h) (by rfl) ?yy409 (by assumption) ?nn409
    case yy409 =>
      intro w hSw
      (try dsimp only at hSw)
      go_simp
      try with_reducible rfl
    try simp only [Act.put, List.setIfInBounds_toArray, List.set_cons_zero, List.set_cons_succ]
    refine held_take (v := .int .u64 (sx : Int)) 10 rfl (by kernel_rfl) (by kernel_rfl) (by kernel_rfl) (fun _ _ _ h => h) (by rfl) (fun wx hSw => by obtain ⟨c0, c1, c2, c3, c4, -, -, -, -, -⟩ := hSw.1; clear hSw; go_simp) (by assumption) ?_
    try simp only [Act.put, List.setIfInBounds_toArray, List.set_cons_zero, List.set_cons_succ]
    refine held_take (v := ?vv411) 11 rfl (by kernel_rfl) (by kernel_rfl) (by kernel_rfl) (fun _ _ _ h => h) (by rfl) ?yy411 (by assumption) ?nn411
    case yy411 =>
      intro w hSw
      (try dsimp only at hSw)
      go_simp
      try with_reducible rfl
    try simp only [Act.put, List.setIfInBounds_toArray, List.set_cons_zero, List.set_cons_succ]
    refine held_take (v := ?vv412) 12 rfl (by kernel_rfl) (by kernel_rfl) (by kernel_rfl) (fun _ _ _ h => h) (by rfl) ?yy412 (by assumption) ?nn412
    case yy412 =>
      intro w hSw
      (try dsimp only at hSw)
      go_simp
      try with_reducible rfl
    try simp only [Act.put, List.setIfInBounds_toArray, List.set_cons_zero, List.set_cons_succ]
    refine held_take (v := ?vv413) 13 rfl (by kernel_rfl) (by kernel_rfl) (by kernel_rfl) (fun _ _ _ h => h) (by rfl) ?yy413 (by assumption) ?nn413
    case yy413 =>
      intro w hSw
      (try dsimp only at hSw)
      go_simp
      try with_reducible rfl
    try simp only [Act.put, List.setIfInBounds_toArray, List.set_cons_zero, List.set_cons_succ]
    refine held_do 8 rfl (by kernel_rfl) (by rfl) (fun K hK => ?_)
    go_wp2_with (go_at_call 11; refine (C4.out _).mono ?_; rintro e w9 ⟨rfl, hb9⟩; have K9 := Lib.hid (Below.trans hHeld.2 (hb9.mono hHeld.2.size)); clear hb9)
    refine hK.out _ _ ?_ (fun hHeld => ?_)
    · exact held_bx X8.out T8.out K9.out
    clear hK K
    try simp only [Act.put, List.setIfInBounds_toArray, List.set_cons_zero, List.set_cons_succ]
    refine held_take (v := ?vv415) 14 rfl (by kernel_rfl) (by kernel_rfl) (by kernel_rfl) (fun _ _ _ h => h) (by rfl) ?yy415 (by assumption) ?nn415
    case yy415 =>
      intro w hSw
      (try dsimp only at hSw)
      go_simp
      try with_reducible rfl
    try simp only [Act.put, List.setIfInBounds_toArray, List.set_cons_zero, List.set_cons_succ]
    refine held_take (v := ?vv416) 15 rfl (by kernel_rfl) (by kernel_rfl) (by kernel_rfl) (fun _ _ _ h => h) (by rfl) ?yy416 (by assumption) ?nn416
    case yy416 =>
      intro w hSw
      (try dsimp only at hSw)
      go_simp
      try with_reducible rfl
    try simp only [Act.put, List.setIfInBounds_toArray, List.set_cons_zero, List.set_cons_succ]
    refine held_take (v := ?vv417) 16 rfl (by kernel_rfl) (by kernel_rfl) (by kernel_rfl) (fun _ _ _ h => h) (by rfl) ?yy417 (by assumption) ?nn417
    case yy417 =>
      intro w hSw
      (try dsimp only at hSw)
      go_simp
      try with_reducible rfl
    try simp only [Act.put, List.setIfInBounds_toArray, List.set_cons_zero, List.set_cons_succ]
    refine held_take (v := .agg #[.bool true, .int .u64 (b : Int), .int .u64 (lo : Int), .int .u64 (sx : Int), .int .u64 (vx : Int)]) 17 rfl (by kernel_rfl) (by kernel_rfl) (by kernel_rfl) (fun _ _ _ h => h) (by rfl) (fun wx hSw => by obtain ⟨c0, c1, c2, c3, c4, -, -, -, -, -⟩ := hSw.1; clear hSw; go_simp) (by assumption) ?_
    try simp only [Act.put, List.setIfInBounds_toArray, List.set_cons_zero, List.set_cons_succ]
    refine held_take (v := ?vv419) 19 rfl (by kernel_rfl) (by kernel_rfl) (by kernel_rfl) (fun _ _ _ h => h) (by rfl) ?yy419 (by assumption) ?nn419
    case yy419 =>
      intro w hSw
      (try dsimp only at hSw)
      go_simp
      try with_reducible rfl
    try simp only [Act.put, List.setIfInBounds_toArray, List.set_cons_zero, List.set_cons_succ]
    refine held_take (v := .int .u64 (b : Int)) 20 rfl (by kernel_rfl) (by kernel_rfl) (by kernel_rfl) (fun _ _ _ h => h) (by rfl) (fun wx hSw => by obtain ⟨c0, c1, c2, c3, c4, -, -, -, -, -⟩ := hSw.1; clear hSw; go_simp) (by assumption) ?_
    try simp only [Act.put, List.setIfInBounds_toArray, List.set_cons_zero, List.set_cons_succ]
    refine held_do 18 rfl (by kernel_rfl) (by rfl) (fun K hK => ?_)
    go_wp2_with (go_at_call 13; refine (C5.out _).mono ?_; rintro e w10 ⟨rfl, hb10⟩; have K10 := Lib.hid (Below.trans hHeld.2 (hb10.mono hHeld.2.size)); clear hb10)
    refine hK.out _ _ ?_ (fun hHeld => ?_)
    · exact held_bx X8.out T8.out K10.out
    clear hK K
    try simp only [Act.put, List.setIfInBounds_toArray, List.set_cons_zero, List.set_cons_succ]
    refine held_take (v := ?vv422) 21 rfl (by kernel_rfl) (by kernel_rfl) (by kernel_rfl) (fun _ _ _ h => h) (by rfl) ?yy422 (by assumption) ?nn422
    case yy422 =>
      intro w hSw
      (try dsimp only at hSw)
      go_simp
      try with_reducible rfl
    try simp only [Act.put, List.setIfInBounds_toArray, List.set_cons_zero, List.set_cons_succ]
    refine held_take (v := ?vv423) 22 rfl (by kernel_rfl) (by kernel_rfl) (by kernel_rfl) (fun _ _ _ h => h) (by rfl) ?yy423 (by assumption) ?nn423
    case yy423 =>
      intro w hSw
      (try dsimp only at hSw)
      go_simp
      try with_reducible rfl
    try simp only [Act.put, List.setIfInBounds_toArray, List.set_cons_zero, List.set_cons_succ]
    refine held_take (v := ?vv424) 23 rfl (by kernel_rfl) (by kernel_rfl) (by kernel_rfl) (fun _ _ _ h => h) (by rfl) ?yy424 (by assumption) ?nn424
    case yy424 =>
      intro w hSw
      (try dsimp only at hSw)
      go_simp
      try with_reducible rfl
    try simp only [Act.put, List.setIfInBounds_toArray, List.set_cons_zero, List.set_cons_succ]
    refine held_take (v := .agg #[.bool true, .int .u64 (b : Int), .int .u64 (lo : Int), .int .u64 (sx : Int), .int .u64 (vx : Int)]) 24 rfl (by kernel_rfl) (by kernel_rfl) (by kernel_rfl) (fun _ _ _ h => h) (by rfl) (fun wx hSw => by obtain ⟨c0, c1, c2, c3, c4, -, -, -, -, -⟩ := hSw.1; clear hSw; go_simp) (by assumption) ?_
    try simp only [Act.put, List.setIfInBounds_toArray, List.set_cons_zero, List.set_cons_succ]
    refine held_do 25 rfl (by kernel_rfl) (by rfl) (fun K hK => ?_)
    go_wp2_with (go_at_call 13; refine (C5.out _).mono ?_; rintro e w11 ⟨rfl, hb11⟩; have K11 := Lib.hid (Below.trans hHeld.2 (hb11.mono hHeld.2.size)); clear hb11)
    refine hK.out _ _ ?_ (fun hHeld => ?_)
    · exact held_bx X8.out T8.out K11.out
    clear hK K
    try simp only [Act.put, List.setIfInBounds_toArray, List.set_cons_zero, List.set_cons_succ]
    refine held_take (v := ?vv427) 26 rfl (by kernel_rfl) (by kernel_rfl) (by kernel_rfl) (fun _ _ _ h => h) (by rfl) ?yy427 (by assumption) ?nn427
    case yy427 =>
      intro w hSw
      (try dsimp only at hSw)
      go_simp
      try with_reducible rfl
    try simp only [Act.put, List.setIfInBounds_toArray, List.set_cons_zero, List.set_cons_succ]
    refine held_take (v := ?vv428) 27 rfl (by kernel_rfl) (by kernel_rfl) (by kernel_rfl) (fun _ _ _ h => h) (by rfl) ?yy428 (by assumption) ?nn428
    case yy428 =>
      intro w hSw
      (try dsimp only at hSw)
      go_simp
      try with_reducible rfl
    try simp only [Act.put, List.setIfInBounds_toArray, List.set_cons_zero, List.set_cons_succ]
    refine held_take (v := ?vv429) 28 rfl (by kernel_rfl) (by kernel_rfl) (by kernel_rfl) (fun _ _ _ h => h) (by rfl) ?yy429 (by assumption) ?nn429
    case yy429 =>
      intro w hSw
      (try dsimp only at hSw)
      go_simp
      try with_reducible rfl
    try simp only [Act.put, List.setIfInBounds_toArray, List.set_cons_zero, List.set_cons_succ]
    refine held_take (v := ?vv430) 29 rfl (by kernel_rfl) (by kernel_rfl) (by kernel_rfl) (fun _ _ _ h => h) (by rfl) ?yy430 (by assumption) ?nn430
    case yy430 =>
      intro w hSw
      (try dsimp only at hSw)
      go_simp
      try with_reducible rfl
    try simp only [Act.put, List.setIfInBounds_toArray, List.set_cons_zero, List.set_cons_succ]
    refine held_take (v := .int .u64 (lo : Int)) 30 rfl (by kernel_rfl) (by kernel_rfl) (by kernel_rfl) (fun _ _ _ h => h) (by rfl) (fun wx hSw => by obtain ⟨c0, c1, c2, c3, c4, -, -, -, -, -⟩ := hSw.1; clear hSw; go_simp) (by assumption) ?_
    try simp only [Act.put, List.setIfInBounds_toArray, List.set_cons_zero, List.set_cons_succ]
    refine held_take (v := ?vv432) 31 rfl (by kernel_rfl) (by kernel_rfl) (by kernel_rfl) (fun _ _ _ h => h) (by rfl) ?yy432 (by assumption) ?nn432
    case yy432 =>
      intro w hSw
      (try dsimp only at hSw)
      go_simp
      try with_reducible rfl
    try simp only [Act.put, List.setIfInBounds_toArray, List.set_cons_zero, List.set_cons_succ]
    refine held_take (v := ?vv433) 32 rfl (by kernel_rfl) (by kernel_rfl) (by kernel_rfl) (fun _ _ _ h => h) (by rfl) ?yy433 (by assumption) ?nn433
    case yy433 =>
      intro w hSw
      (try dsimp only at hSw)
      go_simp
      try with_reducible rfl
    try simp only [Act.put, List.setIfInBounds_toArray, List.set_cons_zero, List.set_cons_succ]
    refine held_take (v := ?vv434) 33 rfl (by kernel_rfl) (by kernel_rfl) (by kernel_rfl) (fun _ _ _ h => h) (by rfl) ?yy434 (by assumption) ?nn434
    case yy434 =>
      intro w hSw
      (try dsimp only at hSw)
      go_simp
      try with_reducible rfl
    try simp only [Act.put, List.setIfInBounds_toArray, List.set_cons_zero, List.set_cons_succ]
    refine held_take (v := ?vv435) 34 rfl (by kernel_rfl) (by kernel_rfl) (by kernel_rfl) (fun _ _ _ h => h) (by rfl) ?yy435 (by assumption) ?nn435
    case yy435 =>
      intro w hSw
      (try dsimp only at hSw)
      go_simp
      try with_reducible rfl
    try simp only [Act.put, List.setIfInBounds_toArray, List.set_cons_zero, List.set_cons_succ]
    refine wpAnyH_done (by kernel_rfl) ?_ _
    clear hHeld
    have BZ := Lib.hid (B8.out.trans (K11.out.mono B8.out.size))
    go_wp2_with fail
    go_ret
    exact ⟨rfl, BZ.out⟩
  · have s1 : decide (sy ≤ sx) = false := decide_eq_false hle
    have s2 : decide (b < p) = true := decide_eq_true (by omega)
    clear hle hsh
    go_enter Try.func7, Try.ntmps7
    go_wp2_with fail
    refine (C0.out _).mono ?_
    rintro e w2 ⟨rfl, hb⟩
    have B2 := Lib.hid hb
    clear hb C0
    go_wp2_with fail
    refine (C1.out _).mono ?_
    rintro e w3 ⟨rfl, hb⟩
    have B3 := Lib.hid (below_trans' B2.out hb)
    clear hb C1
    go_wp2_with fail
    obtain ⟨w4, hw4⟩ : ∃ w4, w4 = w3.alloc (.cells #[.bool true, .int .u64 (a : Int), .int .u64 (a : Int), .int .u64 (a : Int), .int .u64 (aq : Int)] 24) := ⟨_, rfl⟩
    rw [← hw4]
    have R4 := Lib.hid (show Bx w3.heap.size true a a a aq w4 by rw [hw4]; exact Bx.new w3 true a a a aq)
    have S4 := Lib.hid (show w3.heap.size < w4.heap.size by rw [hw4, Z.out]; omega)
    have A4 := Lib.hid (show Below w3.heap.size w3 w4 from hw4 ▸ A.out w3 _)
    have B4 := Lib.hid (show Below w.heap.size w w4 from below_trans' B3.out A4.out)
    clear hw4
    refine (C2.out _).mono ?_
    rintro e w5 ⟨rfl, hb⟩
    have B5 := Lib.hid (below_trans' B4.out hb)
    have R5 := Lib.hid (R4.out.below hb S4.out)
    have S5 := Lib.hid (show w3.heap.size < w5.heap.size by have := S4.out; have := hb.size; omega)
    clear hb C2
    go_upto_region 4 with fail
    obtain ⟨w6, hw6⟩ : ∃ w6, w6 = w5.alloc (.cells #[.bool true, .int .u64 (b : Int), .int .u64 (lo : Int), .int .u64 (sx : Int), .int .u64 (vx : Int)] 24) := ⟨_, rfl⟩
    rw [← hw6]
    have X6 := Lib.hid (show Bx w5.heap.size true b lo sx vx w6 by rw [hw6]; exact Bx.new w5 true b lo sx vx)
    have S6 := Lib.hid (show w5.heap.size < w6.heap.size by rw [hw6, Z.out]; omega)
    have A6 := Lib.hid (show Below w5.heap.size w5 w6 from hw6 ▸ A.out w5 _)
    have B6 := Lib.hid (show Below w.heap.size w w6 from below_trans' B5.out A6.out)
    clear hw6
    have R6 := Lib.hid (R5.out.below A6.out S5.out)
    obtain ⟨k0, k1, k2, k3, k4, -, -, -, -, -⟩ := R6.out
    go_wp2_with fail
    refine (C3.out _).mono ?_
    rintro e w7 ⟨rfl, hb⟩
    have B7 := Lib.hid (below_trans' B6.out hb)
    have X7 := Lib.hid (X6.out.below hb S6.out)
    have S7 := Lib.hid (show w5.heap.size < w7.heap.size by have := S6.out; have := hb.size; omega)
    clear hb C3 k0 k1 k2 k3 k4
    go_upto_region 5 with fail
    obtain ⟨w8, hw8⟩ : ∃ w8, w8 = w7.alloc (.cells #[.bool true, .int .u64 (b : Int), .int .u64 (lo : Int), .int .u64 (sy : Int), .int .u64 (vy : Int)] 24) := ⟨_, rfl⟩
    rw [← hw8]
    have Y8 := Lib.hid (show Bx w7.heap.size true b lo sy vy w8 by rw [hw8]; exact Bx.new w7 true b lo sy vy)
    have S8 := Lib.hid (show w7.heap.size < w8.heap.size by rw [hw8, Z.out]; omega)
    have A8 := Lib.hid (show Below w7.heap.size w7 w8 from hw8 ▸ A.out w7 _)
    have B8 := Lib.hid (show Below w.heap.size w w8 from below_trans' B7.out A8.out)
    clear hw8
    have X8 := Lib.hid (X7.out.below A8.out S7.out)
    have T8 := Lib.hid (show w5.heap.size < w8.heap.size by have := S7.out; have := S8.out; omega)
    obtain ⟨k0, k1, k2, k3, k4, -, -, -, -, -⟩ := X8.out
    obtain ⟨n0, n1, n2, n3, n4, -, -, -, -, -⟩ := Y8.out
    go_wp2_with fail
    clear k0 k1 k2 k3 k4 n0 n1 n2 n3 n4
    refine wp_region_held_drew (S := fun w' => Bx w5.heap.size true b lo sx vx w' ∧ Below w8.heap.size w8 w') (by kernel_rfl) ?_ (fun hHeld => ?_)
    · exact held_bx X8.out T8.out (Below.refl _ _).drew
    refine held_take (v := ?vv437) 0 rfl (by kernel_rfl) (by kernel_rfl) (by kernel_rfl) (fun _ _ _ h => h) (by rfl) ?yy437 (by assumption) ?nn437
    case yy437 =>
      intro w hSw
      (try dsimp only at hSw)
      go_simp
      try with_reducible rfl
    try simp only [Act.put, List.setIfInBounds_toArray, List.set_cons_zero, List.set_cons_succ]
    refine held_take (v := ?vv438) 1 rfl (by kernel_rfl) (by kernel_rfl) (by kernel_rfl) (fun _ _ _ h => h) (by rfl) ?yy438 (by assumption) ?nn438
    case yy438 =>
      intro w hSw
      (try dsimp only at hSw)
      go_simp
      try with_reducible rfl
    try simp only [Act.put, List.setIfInBounds_toArray, List.set_cons_zero, List.set_cons_succ]
    refine held_take (v := ?vv439) 2 rfl (by kernel_rfl) (by kernel_rfl) (by kernel_rfl) (fun _ _ _ h => h) (by rfl) ?yy439 (by assumption) ?nn439
    case yy439 =>
      intro w hSw
      (try dsimp only at hSw)
      go_simp
      try with_reducible rfl
    try simp only [Act.put, List.setIfInBounds_toArray, List.set_cons_zero, List.set_cons_succ]
    refine held_take (v := ?vv440) 3 rfl (by kernel_rfl) (by kernel_rfl) (by kernel_rfl) (fun _ _ _ h => h) (by rfl) ?yy440 (by assumption) ?nn440
    case yy440 =>
      intro w hSw
      (try dsimp only at hSw)
      go_simp
      try with_reducible rfl
    try simp only [Act.put, List.setIfInBounds_toArray, List.set_cons_zero, List.set_cons_succ]
    refine held_take (v := ?vv441) 4 rfl (by kernel_rfl) (by kernel_rfl) (by kernel_rfl) (fun _ _ _ h => h) (by rfl) ?yy441 (by assumption) ?nn441
    case yy441 =>
      intro w hSw
      (try dsimp only at hSw)
      go_simp
      try with_reducible rfl
    try simp only [Act.put, List.setIfInBounds_toArray, List.set_cons_zero, List.set_cons_succ]
    refine held_take (v := .agg #[.bool true, .int .u64 (b : Int), .int .u64 (lo : Int), .int .u64 (sx : Int), .int .u64 (vx : Int)]) 5 rfl (by kernel_rfl) (by kernel_rfl) (by kernel_rfl) (fun _ _ _ h => h) (by rfl) (fun wx hSw => by obtain ⟨c0, c1, c2, c3, c4, -, -, -, -, -⟩ := hSw.1; clear hSw; go_simp) (by assumption) ?_
    try simp only [Act.put, List.setIfInBounds_toArray, List.set_cons_zero, List.set_cons_succ]
    refine held_take (v := ?vv443) 6 rfl (by kernel_rfl) (by kernel_rfl) (by kernel_rfl) (fun _ _ _ h => h) (by rfl) ?yy443 (by assumption) ?nn443
    case yy443 =>
      intro w hSw
      (try dsimp only at hSw)
      go_simp
      try with_reducible rfl
    try simp only [Act.put, List.setIfInBounds_toArray, List.set_cons_zero, List.set_cons_succ]
    refine held_take (v := ?vv444) 7 rfl (by kernel_rfl) (by kernel_rfl) (by kernel_rfl) (fun _ _ _ h => h) (by rfl) ?yy444 (by assumption) ?nn444
    case yy444 =>
      intro w hSw
      (try dsimp only at hSw)
      go_simp
      try with_reducible rfl
    try simp only [Act.put, List.setIfInBounds_toArray, List.set_cons_zero, List.set_cons_succ]
    refine held_take (v := ?vv445) 9 rfl (by kernel_rfl) (by kernel_rfl) (by kernel_rfl) (fun _ _ _ h => h) (by rfl) ?yy445 (by assumption) ?nn445
    case yy445 =>
      intro w hSw
      (try dsimp only at hSw)
      go_simp
      try with_reducible rfl
    try simp only [Act.put, List.setIfInBounds_toArray, List.set_cons_zero, List.set_cons_succ]
    refine held_take (v := .int .u64 (sx : Int)) 10 rfl (by kernel_rfl) (by kernel_rfl) (by kernel_rfl) (fun _ _ _ h => h) (by rfl) (fun wx hSw => by obtain ⟨c0, c1, c2, c3, c4, -, -, -, -, -⟩ := hSw.1; clear hSw; go_simp) (by assumption) ?_
    try simp only [Act.put, List.setIfInBounds_toArray, List.set_cons_zero, List.set_cons_succ]
    refine held_take (v := ?vv447) 11 rfl (by kernel_rfl) (by kernel_rfl) (by kernel_rfl) (fun _ _ _ h => h) (by rfl) ?yy447 (by assumption) ?nn447
    case yy447 =>
      intro w hSw
      (try dsimp only at hSw)
      go_simp
      try with_reducible rfl
    try simp only [Act.put, List.setIfInBounds_toArray, List.set_cons_zero, List.set_cons_succ]
    refine held_take (v := ?vv448) 12 rfl (by kernel_rfl) (by kernel_rfl) (by kernel_rfl) (fun _ _ _ h => h) (by rfl) ?yy448 (by assumption) ?nn448
    case yy448 =>
      intro w hSw
      (try dsimp only at hSw)
      go_simp
      try with_reducible rfl
    try simp only [Act.put, List.setIfInBounds_toArray, List.set_cons_zero, List.set_cons_succ]
    refine held_take (v := ?vv449) 13 rfl (by kernel_rfl) (by kernel_rfl) (by kernel_rfl) (fun _ _ _ h => h) (by rfl) ?yy449 (by assumption) ?nn449
    case yy449 =>
      intro w hSw
      (try dsimp only at hSw)
      go_simp
      try with_reducible rfl
    try simp only [Act.put, List.setIfInBounds_toArray, List.set_cons_zero, List.set_cons_succ]
    refine held_do 8 rfl (by kernel_rfl) (by rfl) (fun K hK => ?_)
    go_wp2_with (go_at_call 11; refine (C4.out _).mono ?_; rintro e w9 ⟨rfl, hb9⟩; have K9 := Lib.hid (Below.trans hHeld.2 (hb9.mono hHeld.2.size)); clear hb9)
    refine hK.out _ _ ?_ (fun hHeld => ?_)
    · exact held_bx X8.out T8.out K9.out
    clear hK K
    try simp only [Act.put, List.setIfInBounds_toArray, List.set_cons_zero, List.set_cons_succ]
    refine held_take (v := ?vv451) 14 rfl (by kernel_rfl) (by kernel_rfl) (by kernel_rfl) (fun _ _ _ h => h) (by rfl) ?yy451 (by assumption) ?nn451
    case yy451 =>
      intro w hSw
      (try dsimp only at hSw)
      go_simp
      try with_reducible rfl
    try simp only [Act.put, List.setIfInBounds_toArray, List.set_cons_zero, List.set_cons_succ]
    refine held_take (v := ?vv452) 15 rfl (by kernel_rfl) (by kernel_rfl) (by kernel_rfl) (fun _ _ _ h => h) (by rfl) ?yy452 (by assumption) ?nn452
    case yy452 =>
      intro w hSw
      (try dsimp only at hSw)
      go_simp
      try with_reducible rfl
    try simp only [Act.put, List.setIfInBounds_toArray, List.set_cons_zero, List.set_cons_succ]
    refine held_take (v := ?vv453) 16 rfl (by kernel_rfl) (by kernel_rfl) (by kernel_rfl) (fun _ _ _ h => h) (by rfl) ?yy453 (by assumption) ?nn453
    case yy453 =>
      intro w hSw
      (try dsimp only at hSw)
      go_simp
      try with_reducible rfl
    try simp only [Act.put, List.setIfInBounds_toArray, List.set_cons_zero, List.set_cons_succ]
    refine held_take (v := .agg #[.bool true, .int .u64 (b : Int), .int .u64 (lo : Int), .int .u64 (sx : Int), .int .u64 (vx : Int)]) 17 rfl (by kernel_rfl) (by kernel_rfl) (by kernel_rfl) (fun _ _ _ h => h) (by rfl) (fun wx hSw => by obtain ⟨c0, c1, c2, c3, c4, -, -, -, -, -⟩ := hSw.1; clear hSw; go_simp) (by assumption) ?_
    try simp only [Act.put, List.setIfInBounds_toArray, List.set_cons_zero, List.set_cons_succ]
    refine held_take (v := ?vv455) 19 rfl (by kernel_rfl) (by kernel_rfl) (by kernel_rfl) (fun _ _ _ h => h) (by rfl) ?yy455 (by assumption) ?nn455
    case yy455 =>
      intro w hSw
      (try dsimp only at hSw)
      go_simp
      try with_reducible rfl
    try simp only [Act.put, List.setIfInBounds_toArray, List.set_cons_zero, List.set_cons_succ]
    refine held_take (v := .int .u64 (b : Int)) 20 rfl (by kernel_rfl) (by kernel_rfl) (by kernel_rfl) (fun _ _ _ h => h) (by rfl) (fun wx hSw => by obtain ⟨c0, c1, c2, c3, c4, -, -, -, -, -⟩ := hSw.1; clear hSw; go_simp) (by assumption) ?_
    try simp only [Act.put, List.setIfInBounds_toArray, List.set_cons_zero, List.set_cons_succ]
    refine held_do 18 rfl (by kernel_rfl) (by rfl) (fun K hK => ?_)
    go_wp2_with (go_at_call 13; refine (C5.out _).mono ?_; rintro e w10 ⟨rfl, hb10⟩; have K10 := Lib.hid (Below.trans hHeld.2 (hb10.mono hHeld.2.size)); clear hb10)
    refine hK.out _ _ ?_ (fun hHeld => ?_)
    · exact held_bx X8.out T8.out K10.out
    clear hK K
    try simp only [Act.put, List.setIfInBounds_toArray, List.set_cons_zero, List.set_cons_succ]
    refine held_take (v := ?vv458) 21 rfl (by kernel_rfl) (by kernel_rfl) (by kernel_rfl) (fun _ _ _ h => h) (by rfl) ?yy458 (by assumption) ?nn458
    case yy458 =>
      intro w hSw
      (try dsimp only at hSw)
      go_simp
      try with_reducible rfl
    try simp only [Act.put, List.setIfInBounds_toArray, List.set_cons_zero, List.set_cons_succ]
    refine held_take (v := ?vv459) 22 rfl (by kernel_rfl) (by kernel_rfl) (by kernel_rfl) (fun _ _ _ h => h) (by rfl) ?yy459 (by assumption) ?nn459
    case yy459 =>
      intro w hSw
      (try dsimp only at hSw)
      go_simp
      try with_reducible rfl
    try simp only [Act.put, List.setIfInBounds_toArray, List.set_cons_zero, List.set_cons_succ]
    refine held_take (v := ?vv460) 23 rfl (by kernel_rfl) (by kernel_rfl) (by kernel_rfl) (fun _ _ _ h => h) (by rfl) ?yy460 (by assumption) ?nn460
    case yy460 =>
      intro w hSw
      (try dsimp only at hSw)
      go_simp
      try with_reducible rfl
    try simp only [Act.put, List.setIfInBounds_toArray, List.set_cons_zero, List.set_cons_succ]
    refine held_take (v := .agg #[.bool true, .int .u64 (b : Int), .int .u64 (lo : Int), .int .u64 (sx : Int), .int .u64 (vx : Int)]) 24 rfl (by kernel_rfl) (by kernel_rfl) (by kernel_rfl) (fun _ _ _ h => h) (by rfl) (fun wx hSw => by obtain ⟨c0, c1, c2, c3, c4, -, -, -, -, -⟩ := hSw.1; clear hSw; go_simp) (by assumption) ?_
    try simp only [Act.put, List.setIfInBounds_toArray, List.set_cons_zero, List.set_cons_succ]
    refine held_do 25 rfl (by kernel_rfl) (by rfl) (fun K hK => ?_)
    go_wp2_with (go_at_call 13; refine (C5.out _).mono ?_; rintro e w11 ⟨rfl, hb11⟩; have K11 := Lib.hid (Below.trans hHeld.2 (hb11.mono hHeld.2.size)); clear hb11)
    refine hK.out _ _ ?_ (fun hHeld => ?_)
    · exact held_bx X8.out T8.out K11.out
    clear hK K
    try simp only [Act.put, List.setIfInBounds_toArray, List.set_cons_zero, List.set_cons_succ]
    refine held_take (v := ?vv463) 26 rfl (by kernel_rfl) (by kernel_rfl) (by kernel_rfl) (fun _ _ _ h => h) (by rfl) ?yy463 (by assumption) ?nn463
    case yy463 =>
      intro w hSw
      (try dsimp only at hSw)
      go_simp
      try with_reducible rfl
    try simp only [Act.put, List.setIfInBounds_toArray, List.set_cons_zero, List.set_cons_succ]
    refine held_take (v := ?vv464) 27 rfl (by kernel_rfl) (by kernel_rfl) (by kernel_rfl) (fun _ _ _ h => h) (by rfl) ?yy464 (by assumption) ?nn464
    case yy464 =>
      intro w hSw
      (try dsimp only at hSw)
      go_simp
      try with_reducible rfl
    try simp only [Act.put, List.setIfInBounds_toArray, List.set_cons_zero, List.set_cons_succ]
    refine held_take (v := ?vv465) 28 rfl (by kernel_rfl) (by kernel_rfl) (by kernel_rfl) (fun _ _ _ h => h) (by rfl) ?yy465 (by assumption) ?nn465
    case yy465 =>
      intro w hSw
      (try dsimp only at hSw)
      go_simp
      try with_reducible rfl
    try simp only [Act.put, List.setIfInBounds_toArray, List.set_cons_zero, List.set_cons_succ]
    refine held_take (v := ?vv466) 29 rfl (by kernel_rfl) (by kernel_rfl) (by kernel_rfl) (fun _ _ _ h => h) (by rfl) ?yy466 (by assumption) ?nn466
    case yy466 =>
      intro w hSw
      (try dsimp only at hSw)
      go_simp
      try with_reducible rfl
    try simp only [Act.put, List.setIfInBounds_toArray, List.set_cons_zero, List.set_cons_succ]
    refine held_take (v := .int .u64 (lo : Int)) 30 rfl (by kernel_rfl) (by kernel_rfl) (by kernel_rfl) (fun _ _ _ h => h) (by rfl) (fun wx hSw => by obtain ⟨c0, c1, c2, c3, c4, -, -, -, -, -⟩ := hSw.1; clear hSw; go_simp) (by assumption) ?_
    try simp only [Act.put, List.setIfInBounds_toArray, List.set_cons_zero, List.set_cons_succ]
    refine held_take (v := ?vv468) 31 rfl (by kernel_rfl) (by kernel_rfl) (by kernel_rfl) (fun _ _ _ h => h) (by rfl) ?yy468 (by assumption) ?nn468
    case yy468 =>
      intro w hSw
      (try dsimp only at hSw)
      go_simp
      try with_reducible rfl
    try simp only [Act.put, List.setIfInBounds_toArray, List.set_cons_zero, List.set_cons_succ]
    refine held_take (v := ?vv469) 32 rfl (by kernel_rfl) (by kernel_rfl) (by kernel_rfl) (fun _ _ _ h => h) (by rfl) ?yy469 (by assumption) ?nn469
    case yy469 =>
      intro w hSw
      (try dsimp only at hSw)
      go_simp
      try with_reducible rfl
    try simp only [Act.put, List.setIfInBounds_toArray, List.set_cons_zero, List.set_cons_succ]
    refine held_take (v := ?vv470) 33 rfl (by kernel_rfl) (by kernel_rfl) (by kernel_rfl) (fun _ _ _ h => h) (by rfl) ?yy470 (by assumption) ?nn470
    case yy470 =>
      intro w hSw
      (try dsimp only at hSw)
      go_simp
      try with_reducible rfl
    try simp only [Act.put, List.setIfInBounds_toArray, List.set_cons_zero, List.set_cons_succ]
    refine held_take (v := ?vv471) 34 rfl (by kernel_rfl) (by kernel_rfl) (by kernel_rfl) (fun _ _ _ h => h) (by rfl) ?yy471 (by assumption) ?nn471
    case yy471 =>
      intro w hSw
      (try dsimp only at hSw)
      go_simp
      try with_reducible rfl
    try simp only [Act.put, List.setIfInBounds_toArray, List.set_cons_zero, List.set_cons_succ]
    refine wpAnyH_done (by kernel_rfl) ?_ _
    clear hHeld
    have BZ := Lib.hid (B8.out.trans (K11.out.mono B8.out.size))
    go_wp2_with fail
    go_ret
    exact ⟨rfl, BZ.out⟩

set_option maxRecDepth 100000 in
theorem lifted (os : Os) (started : os.Started) (H : Type) (enc : TypeId × Value → H) :
    ReturnsInHanded {} Try.checked os 7 .any (Rows.rttLongSpec.pre6 enc Try.prog Try.f7 Rows.rttLongRow.domain false) (Rows.rttLongSpec.post enc Try.prog Try.f7 false true false false) := by
  refine returnsInHanded_of_change (C := Try.checked) own started (by kernel_rfl) Try.func7
    (ChangeSpec.witness6 (enc := enc) (C := Try.checked) false ⟨#[], #[.int .u32 0, .int .u32 0, .int .u32 0, .int .u32 0, .int .u32 0], []⟩ 8 (by kernel_rfl) (by kernel_rfl) (by kernel_rfl) (by kernel_rfl)) ?_
  intro W base args ds gs before hval0 hW hcnd _
  have hval : ∀ (j : Nat) t v, Try.f7.params[j]? = some t → args[j]? = some v → Value.okWide Try.prog W .any base t v := hval0
  have hW' := hW
  obtain ⟨p, q, hA0, hV, rfl, hfz, hnd⟩ := hW
  have hA : DataW.TrodAll enc Try.prog W 0 (fun _ => true) true Try.f7.params.toList args.toList ds p := hA0
  obtain ⟨rfl, rfl⟩ := trodVars_none hV
  simp only [List.append_nil] at hW'
  have hlow : ∀ x ∈ p, x.block < W.heap.size := fun x hx => hW'.lt x hx
  have hA2 := hA
  rw [Try.params7] at hval hA2
  obtain ⟨v0, vs0, d0, ds0, p0, q0, hargs, rfl, rfl, h0, r0⟩ := trodAll_cons hA2
  obtain ⟨v1, vs1, d1, ds1, p1, q1, rfl, rfl, rfl, h1, r1⟩ := trodAll_cons r0
  obtain ⟨v2, vs2, d2, ds2, p2, q2, rfl, rfl, rfl, h2, r2⟩ := trodAll_cons r1
  obtain ⟨v3, vs3, d3, ds3, p3, q3, rfl, rfl, rfl, h3, r3⟩ := trodAll_cons r2
  obtain ⟨v4, vs4, d4, ds4, p4, q4, rfl, rfl, rfl, h4, r4⟩ := trodAll_cons r3
  obtain ⟨rfl, rfl, rfl⟩ := trodAll_nil r4
  obtain rfl : args = #[v0, v1, v2, v3, v4] := by cases args; simp_all
  obtain ⟨n0, rfl, hn0⟩ := open_u32 Try.underlying31 (hval 0 31 v0 rfl rfl) h0
  obtain ⟨n1, rfl, hn1⟩ := open_u32 Try.underlying31 (hval 1 31 v1 rfl rfl) h1
  obtain ⟨n2, rfl, hn2⟩ := open_u32 Try.underlying31 (hval 2 31 v2 rfl rfl) h2
  obtain ⟨n3, rfl, hn3⟩ := open_u32 Try.underlying31 (hval 3 31 v3 rfl rfl) h3
  obtain ⟨n4, rfl, hn4⟩ := open_u32 Try.underlying31 (hval 4 31 v4 rfl rfl) h4
  refine (walk n0 n1 n2 n3 n4 hn0 hn1 hn2 hn3 hn4 W).mono fun e W' ⟨he, hg⟩ => ?_
  subst he
  exact ⟨_, rfl, law_true laid_out (by kernel_rfl) rfl Try.underlying4 (by kernel_rfl) hW' hA rfl rfl rfl hg⟩

theorem over : Rows.rttLongRow.holds Try.pinned (OpenSpec.ofChange Rows.rttLongSpec) :=
  OpenClaim.holds_of_wide 7 Try.f7 rfl rfl rfl rfl rfl rfl rfl ⟨rfl, rfl, rfl, rfl, rfl⟩ rfl rfl rfl rfl rfl (by kernel_rfl) Try.func7 (by kernel_rfl)
    (of_decide_eq_true (by kernel_rfl)) (by unfold Func.isWrapper; first | (rw [if_pos (by decide +kernel)]; kernel_rfl) | (rw [if_neg (by decide +kernel)]; exact ⟨rfl, rfl⟩))
    (fun os started H enc _ => lifted os started H enc)

/-- The statement. -/
theorem proved : Rows.RttLongSaid := over
end Go.Proofs.Yteaodhgfmbcmfaa.rttLong
