/-
  What math/bits.Div64 returns where the high word is below the divisor. No other condition.
-/
import Derived.Test.YtpdmepblmjjeeaaFixAdd
import Derived.Test.YtpdmepblmjjeeaaShelf
import Derived.Deep.QuietTactic
import Derived.BigQuiet
import Derived.Deep.CutBlock
import Derived.Deep.DeepCutAuto
namespace Go.Proofs.Ytpdmepblmjjeeaa
open Go.ChangeShapes Go.WideShapes Go.ChangeAt Go.RowKit

theorem wrap_id {n : Int} (h0 : 0 ≤ n) (h1 : n < 18446744073709551616) : IntKind.u64.wrap n = n := by rw [IntKind.wrap_u64]; omega
theorem tdiv_nat {a b : Nat} (ha : a < 18446744073709551616) : IntKind.u64.wrap ((a : Int).tdiv (b : Int)) = ((a / b : Nat) : Int) := by
  have := Nat.div_le_self a b
  rw [Int.tdiv_eq_ediv_of_nonneg (by omega), ← Int.natCast_ediv]
  generalize a / b = c at *
  exact wrap_id (by omega) (by omega)
theorem mul_nat {a b : Nat} (h : a * b < 18446744073709551616) : IntKind.u64.wrap ((a : Int) * (b : Int)) = ((a * b : Nat) : Int) := by
  rw [← Int.natCast_mul, wrap_id (by omega) (by omega)]

theorem vu64 {a b : Int} (h : a = b) : Value.int .u64 a = Value.int .u64 b := by rw [h]

set_option maxRecDepth 100000 in
set_option maxHeartbeats 2000000 in
theorem div64_walk (hn lo y s Y y1 y0 u32 u10 u1 u0 qa ra Q1 u21 qb rb Q0 R : Nat) (w : World) (h0 : 0 < hn) (h1 : hn < y) (hy : y < 18446744073709551616) (_hl : lo < 18446744073709551616)
    (hs : s < 64) (hlen : (64 - (Lib.bitLen (y : Int).toNat : Int)) = (s : Int))
    (by1 : 1 ≤ y1) (by1' : y1 < 4294967296) (by0 : y0 < 4294967296) (bqa : qa ≤ 4294967297) (bqb : qb ≤ 4294967297) (bu1 : u1 < 4294967296) (bu0 : u0 < 4294967296) (bQ1 : Q1 < 4294967296) (bQ0 : Q0 < 4294967296)
    (_bu32 : u32 < 18446744073709551616) (_bu21 : u21 < 18446744073709551616)
    (e1 : IntKind.u64.wrap ((y : Int) * 2 ^ s) = (Y : Int)) (e2 : (Y : Int) / 4294967296 = (y1 : Int)) (e3 : bits BinOp.and IntKind.u64 (Y : Int) 4294967295 = (y0 : Int))
    (e4 : bits BinOp.or IntKind.u64 (IntKind.u64.wrap ((hn : Int) * 2 ^ s)) ((lo : Int) / 2 ^ (64 - s)) = (u32 : Int))
    (e5 : IntKind.u64.wrap ((lo : Int) * 2 ^ s) = (u10 : Int)) (e6 : (u10 : Int) / 4294967296 = (u1 : Int)) (e7 : bits BinOp.and IntKind.u64 (u10 : Int) 4294967295 = (u0 : Int))
    (e9 : IntKind.u64.wrap ((u32 : Int) - IntKind.u64.wrap ((qa : Int) * (y1 : Int))) = (ra : Int)) (e10 : (u32 : Int) / (y1 : Int) = (qa : Int))
    (k1 : Wig.KPre u32 u1 y1 y0) (i1 : Wig.KInv u32 u1 y1 y0 qa ra) (x1 : (u32 * 4294967296 + u1) / (y1 * 4294967296 + y0) = Q1)
    (f1 : IntKind.u64.wrap (IntKind.u64.wrap (IntKind.u64.wrap ((u32 : Int) * 4294967296) + (u1 : Int)) - IntKind.u64.wrap ((Q1 : Int) * (Y : Int))) = (u21 : Int))
    (f2 : (u21 : Int) / (y1 : Int) = (qb : Int)) (f3 : IntKind.u64.wrap ((u21 : Int) - IntKind.u64.wrap ((qb : Int) * (y1 : Int))) = (rb : Int))
    (k2 : Wig.KPre u21 u0 y1 y0) (i2 : Wig.KInv u21 u0 y1 y0 qb rb) (x2 : (u21 * 4294967296 + u0) / (y1 * 4294967296 + y0) = Q0)
    (g1 : IntKind.u64.wrap (IntKind.u64.wrap (IntKind.u64.wrap ((u21 : Int) * 4294967296) + (u0 : Int)) - IntKind.u64.wrap ((Q0 : Int) * (Y : Int))) / 2 ^ s = (R : Int)) :
    Calls Try.prog 49 #[.int .u64 hn, .int .u64 lo, .int .u64 y] w fun e w' => e = .returned (.tuple #[.int .u64 ((Q1 * 4294967296 + Q0 : Nat) : Int), .int .u64 (R : Int)]) ∧ w = w' := by
  have hc := Try.bits_LeadingZeros64 (y : Int) w (by omega) (by omega)
  rw [hlen] at hc
  have Hc := Lib.hid hc
  have X1 := Lib.hid x1
  have X2 := Lib.hid x2
  have K1 := Lib.hid k1
  have K2 := Lib.hid k2
  have I1 := Lib.hid i1
  have I2 := Lib.hid i2
  have F1 := Lib.hid f1
  have F2 := Lib.hid f2
  have F3 := Lib.hid f3
  have G1 := Lib.hid g1
  clear hc hlen x1 x2 k1 k2 i1 i2 f1 f2 f3 g1
  go_enter Try.func49, Try.ntmps49
  go_upto_block 0 with (go_at_call 50; refine Hc.out.mono ?_; rintro e w' ⟨rfl, rfl⟩)
  clear e1 e2 e3 e4 e5 e6 e7 e9 e10 h0 h1
  go_cut [15, 16] (fun s15 _ wx => w' = wx ∧ s15 = .int .u64 (Q1 : Int))
  case first =>
    go_wp2_with fail
    go_loop [15, 16] (fun q r => ∃ qn rn : Nat, q = .int .u64 qn ∧ r = .int .u64 rn ∧ Wig.KInv u32 u1 y1 y0 qn rn) (fun q _ => (intOf q).toNat)
    case atStart => exact ⟨qa, ra, rfl, rfl, I1.out⟩
    case round =>
      obtain ⟨qn, rn, rfl, rfl, hinv⟩ := hrel
      have bq := hinv.2.2.1
      have br := hinv.2.2.2
      have Hi := Lib.hid hinv
      clear hinv
      obtain ⟨p, hp⟩ : ∃ p, p = qn * y0 := ⟨_, rfl⟩
      by_cases hA : qn < 4294967296
      · have m1 : IntKind.u64.wrap ((qn : Int) * (y0 : Int)) = (p : Int) := by
          rw [hp]; exact mul_nat (Nat.lt_of_le_of_lt (Nat.mul_le_mul (Nat.le_of_lt_succ (m := qn) (n := 4294967295) hA) (Nat.le_of_lt_succ (m := y0) (n := 4294967295) by0)) (by decide))
        have Hp := Lib.hid hp
        clear hp
        have hA' : decide (4294967296 ≤ (qn : Int)) = false := decide_eq_false (by omega)
        obtain ⟨t, ht⟩ : ∃ t, t = 4294967296 * rn + u1 := ⟨_, rfl⟩
        have m2 : 4294967296 * (rn : Int) + (u1 : Int) = (t : Int) := by omega
        have bt : t < 18446744073709551616 := by omega
        have Ht := Lib.hid ht
        clear hA ht
        by_cases hB : t < p
        · have hQ := Wig.k_less K1.out Hi.out (Or.inr (by rw [← Hp.out, ← Ht.out]; exact hB))
          rw [X1.out] at hQ
          have hB' : (t : Int) < (p : Int) := by omega
          have HB := Lib.hid hB
          clear hB
          by_cases hr : rn + y1 < 4294967296
          · have hr' : decide (4294967296 ≤ (rn : Int) + (y1 : Int)) = false := decide_eq_false (by omega)
            have Hr := Lib.hid hr
            clear hr
            go_wp2_with fail
            go_round
            case rel => exact ⟨qn - 1, rn + y1, vu64 (by omega), vu64 (by omega), Wig.k_step K1.out Hi.out (Or.inr (by rw [← Hp.out, ← Ht.out]; exact HB.out)) Hr.out⟩
            case measure => simp [intOf]; omega
          · have hb := Wig.k_break K1.out Hi.out (Or.inr (by rw [← Hp.out, ← Ht.out]; exact HB.out)) (by omega)
            rw [X1.out] at hb
            have Hb := Lib.hid hb
            have hr' : 4294967296 ≤ (rn : Int) + (y1 : Int) := by omega
            clear hb hr
            go_wp2_with fail
            go_meet
            exact ⟨rfl, vu64 (by have := Hb.out; omega)⟩
        · have hb := Wig.k_exit K1.out Hi.out (by rw [← Hp.out, ← Ht.out]; omega)
          rw [X1.out] at hb
          have Hb := Lib.hid hb
          have hB' : (p : Int) ≤ (t : Int) := by omega
          clear hb hB
          go_wp2_with fail
          go_meet
          exact ⟨rfl, vu64 (by have := Hb.out; omega)⟩
      · have hQ := Wig.k_less K1.out Hi.out (Or.inl (by omega))
        rw [X1.out] at hQ
        have hA' : 4294967296 ≤ (qn : Int) := by omega
        have HA := Lib.hid hA
        clear hp hA
        by_cases hr : rn + y1 < 4294967296
        · have hr' : decide (4294967296 ≤ (rn : Int) + (y1 : Int)) = false := decide_eq_false (by omega)
          have Hr := Lib.hid hr
          clear hr
          go_wp2_with fail
          go_round
          case rel => exact ⟨qn - 1, rn + y1, vu64 (by omega), vu64 (by omega), Wig.k_step K1.out Hi.out (Or.inl (by omega)) Hr.out⟩
          case measure => simp [intOf]; omega
        · have hb := Wig.k_break K1.out Hi.out (Or.inl (by omega)) (by omega)
          rw [X1.out] at hb
          have Hb := Lib.hid hb
          have hr' : 4294967296 ≤ (rn : Int) + (y1 : Int) := by omega
          clear hb hr
          go_wp2_with fail
          go_meet
          exact ⟨rfl, vu64 (by have := Hb.out; omega)⟩
  case rest =>
    obtain ⟨rfl, rfl⟩ := hcut
    have f1' := F1.out
    have f2' := F2.out
    have f3' := F3.out
    go_upto_block 2 with fail
    clear f1' f2' f3'
    go_cut [18, 16] (fun s18 _ wx => w' = wx ∧ s18 = .int .u64 (Q0 : Int))
    case first =>
      go_wp2_with fail
      go_loop [18, 16] (fun q r => ∃ qn rn : Nat, q = .int .u64 qn ∧ r = .int .u64 rn ∧ Wig.KInv u21 u0 y1 y0 qn rn) (fun q _ => (intOf q).toNat)
      case atStart => exact ⟨qb, rb, rfl, rfl, I2.out⟩
      case round =>
        obtain ⟨qn, rn, rfl, rfl, hinv⟩ := hrel
        have bq := hinv.2.2.1
        have br := hinv.2.2.2
        have Hi := Lib.hid hinv
        clear hinv
        obtain ⟨p, hp⟩ : ∃ p, p = qn * y0 := ⟨_, rfl⟩
        by_cases hA : qn < 4294967296
        · have m1 : IntKind.u64.wrap ((qn : Int) * (y0 : Int)) = (p : Int) := by
            rw [hp]; exact mul_nat (Nat.lt_of_le_of_lt (Nat.mul_le_mul (Nat.le_of_lt_succ (m := qn) (n := 4294967295) hA) (Nat.le_of_lt_succ (m := y0) (n := 4294967295) by0)) (by decide))
          have Hp := Lib.hid hp
          clear hp
          have hA' : decide (4294967296 ≤ (qn : Int)) = false := decide_eq_false (by omega)
          obtain ⟨t, ht⟩ : ∃ t, t = 4294967296 * rn + u0 := ⟨_, rfl⟩
          have m2 : 4294967296 * (rn : Int) + (u0 : Int) = (t : Int) := by omega
          have bt : t < 18446744073709551616 := by omega
          have Ht := Lib.hid ht
          clear hA ht
          by_cases hB : t < p
          · have hQ := Wig.k_less K2.out Hi.out (Or.inr (by rw [← Hp.out, ← Ht.out]; exact hB))
            rw [X2.out] at hQ
            have hB' : (t : Int) < (p : Int) := by omega
            have HB := Lib.hid hB
            clear hB
            by_cases hr : rn + y1 < 4294967296
            · have hr' : decide (4294967296 ≤ (rn : Int) + (y1 : Int)) = false := decide_eq_false (by omega)
              have Hr := Lib.hid hr
              clear hr
              go_wp2_with fail
              go_round
              case rel => exact ⟨qn - 1, rn + y1, vu64 (by omega), vu64 (by omega), Wig.k_step K2.out Hi.out (Or.inr (by rw [← Hp.out, ← Ht.out]; exact HB.out)) Hr.out⟩
              case measure => simp [intOf]; omega
            · have hb := Wig.k_break K2.out Hi.out (Or.inr (by rw [← Hp.out, ← Ht.out]; exact HB.out)) (by omega)
              rw [X2.out] at hb
              have Hb := Lib.hid hb
              have hr' : 4294967296 ≤ (rn : Int) + (y1 : Int) := by omega
              clear hb hr
              go_wp2_with fail
              go_meet
              exact ⟨rfl, vu64 (by have := Hb.out; omega)⟩
          · have hb := Wig.k_exit K2.out Hi.out (by rw [← Hp.out, ← Ht.out]; omega)
            rw [X2.out] at hb
            have Hb := Lib.hid hb
            have hB' : (p : Int) ≤ (t : Int) := by omega
            clear hb hB
            go_wp2_with fail
            go_meet
            exact ⟨rfl, vu64 (by have := Hb.out; omega)⟩
        · have hQ := Wig.k_less K2.out Hi.out (Or.inl (by omega))
          rw [X2.out] at hQ
          have hA' : 4294967296 ≤ (qn : Int) := by omega
          have HA := Lib.hid hA
          clear hp hA
          by_cases hr : rn + y1 < 4294967296
          · have hr' : decide (4294967296 ≤ (rn : Int) + (y1 : Int)) = false := decide_eq_false (by omega)
            have Hr := Lib.hid hr
            clear hr
            go_wp2_with fail
            go_round
            case rel => exact ⟨qn - 1, rn + y1, vu64 (by omega), vu64 (by omega), Wig.k_step K2.out Hi.out (Or.inl (by omega)) Hr.out⟩
            case measure => simp [intOf]; omega
          · have hb := Wig.k_break K2.out Hi.out (Or.inl (by omega)) (by omega)
            rw [X2.out] at hb
            have Hb := Lib.hid hb
            have hr' : 4294967296 ≤ (rn : Int) + (y1 : Int) := by omega
            clear hb hr
            go_wp2_with fail
            go_meet
            exact ⟨rfl, vu64 (by have := Hb.out; omega)⟩
    case rest =>
      obtain ⟨rfl, rfl⟩ := hcut
      have g1' := G1.out
      go_wp2_with fail
      go_ret2
      exact ⟨by simp, rfl⟩
theorem shl_nat {a s : Nat} (h : a * 2 ^ s < 18446744073709551616) : IntKind.u64.wrap ((a : Int) * 2 ^ s) = ((a * 2 ^ s : Nat) : Int) := by
  have e : (a : Int) * 2 ^ s = ((a * 2 ^ s : Nat) : Int) := by rw [Int.natCast_mul, Int.natCast_pow]; rfl
  rw [e]
  generalize a * 2 ^ s = z at *
  exact wrap_id (by omega) (by omega)
theorem shl_mod (a s : Nat) : IntKind.u64.wrap ((a : Int) * 2 ^ s) = ((a * 2 ^ s % 18446744073709551616 : Nat) : Int) := by
  have e : (a : Int) * 2 ^ s = ((a * 2 ^ s : Nat) : Int) := by rw [Int.natCast_mul, Int.natCast_pow]; rfl
  rw [e, IntKind.wrap_u64]
  generalize a * 2 ^ s = z at *
  omega
theorem shr_nat (a s : Nat) : (a : Int) / 2 ^ s = ((a / 2 ^ s : Nat) : Int) := by rw [Int.natCast_ediv, Int.natCast_pow]; rfl

theorem sub_prod {u c q Y t : Nat} (h : u * 4294967296 + c = q * Y + t) (ht : t < 18446744073709551616) :
    IntKind.u64.wrap (IntKind.u64.wrap (IntKind.u64.wrap ((u : Int) * 4294967296) + (c : Int)) - IntKind.u64.wrap ((q : Int) * (Y : Int))) = (t : Int) := by
  have e : (u : Int) * 4294967296 + c = ((q * Y : Nat) : Int) + t := by omega
  rw [← Int.natCast_mul]
  generalize q * Y = z at *
  simp only [IntKind.wrap_u64]
  omega

theorem rest_nat {a q y : Nat} (ha : a < 18446744073709551616) (h : q = a / y) : IntKind.u64.wrap ((a : Int) - IntKind.u64.wrap ((q : Int) * (y : Int))) = ((a % y : Nat) : Int) := by
  subst h
  have e := Nat.div_add_mod' a y
  rw [← Int.natCast_mul]
  generalize a / y * y = z at *
  simp only [IntKind.wrap_u64]
  omega

theorem and32_nat (a : Nat) (ha : a < 18446744073709551616) : bits BinOp.and IntKind.u64 (a : Int) 4294967295 = ((a % 4294967296 : Nat) : Int) := Mul64.maskN a ha

theorem or_add {a b s : Nat} (h : b < 2 ^ s) : a * 2 ^ s ||| b = a * 2 ^ s + b := by
  rw [Nat.mul_comm a, Nat.two_pow_add_eq_or_of_lt h]

theorem div64_pos (hn lo y : Nat) (w : World) (h0 : 0 < hn) (h1 : hn < y) (hy : y < 18446744073709551616) (hl : lo < 18446744073709551616) :
    Calls Try.prog 49 #[.int .u64 hn, .int .u64 lo, .int .u64 y] w fun e w' => e = .returned (.tuple #[.int .u64 (((hn * 18446744073709551616 + lo) / y : Nat) : Int), .int .u64 (((hn * 18446744073709551616 + lo) % y : Nat) : Int)]) ∧ w = w' := by
  obtain ⟨s, hs, hlen, hy63, hy64⟩ := Wig.norm_shift y (by omega) hy
  obtain ⟨Y, hY⟩ : ∃ Y, Y = y * 2 ^ s := ⟨_, rfl⟩
  rw [← hY] at hy63 hy64
  have hp : 0 < 2 ^ s := Nat.two_pow_pos s
  obtain ⟨c, hc⟩ : ∃ c, c = lo / 2 ^ (64 - s) := ⟨_, rfl⟩
  obtain ⟨d, hd⟩ : ∃ d, d = lo * 2 ^ s % 18446744073709551616 := ⟨_, rfl⟩
  have hpp : 2 ^ (64 - s) * 2 ^ s = 18446744073709551616 := by rw [← Nat.pow_add, show 64 - s + s = 64 from by omega]
  have hcd : lo * 2 ^ s = c * 18446744073709551616 + d := by
    have e := Nat.div_add_mod' (lo * 2 ^ s) 18446744073709551616
    have e2 : lo * 2 ^ s / 18446744073709551616 = c := by rw [← hpp, Nat.mul_div_mul_right _ _ hp, hc]
    rw [e2] at e
    rw [hd]; exact e.symm
  have hcs : c < 2 ^ s := by
    rw [hc, Nat.div_lt_iff_lt_mul (Nat.two_pow_pos _), Nat.mul_comm, hpp]; exact hl
  have hd64 : d < 18446744073709551616 := by rw [hd]; exact Nat.mod_lt _ (by decide)
  obtain ⟨hh, hhe⟩ : ∃ hh, hh = hn * 2 ^ s := ⟨_, rfl⟩
  have hle : hh + 2 ^ s ≤ Y := by
    rw [hhe, hY, ← Nat.succ_mul]; exact Nat.mul_le_mul_right _ h1
  obtain ⟨u32, hu⟩ : ∃ u32, u32 = hh + c := ⟨_, rfl⟩
  have hltY : u32 < Y := by omega
  have hN : (hn * 18446744073709551616 + lo) * 2 ^ s = (u32 * 4294967296 + d / 4294967296) * 4294967296 + d % 4294967296 := by
    rw [Nat.add_mul, hcd, Nat.mul_right_comm, ← hhe, hu]
    omega
  obtain ⟨y1, hy1⟩ : ∃ y1, y1 = Y / 4294967296 := ⟨_, rfl⟩
  obtain ⟨y0, hy0⟩ : ∃ y0, y0 = Y % 4294967296 := ⟨_, rfl⟩
  obtain ⟨u1, hu1⟩ : ∃ u1, u1 = d / 4294967296 := ⟨_, rfl⟩
  obtain ⟨u0, hu0⟩ : ∃ u0, u0 = d % 4294967296 := ⟨_, rfl⟩
  rw [← hu1, ← hu0] at hN
  have hYs : y1 * 4294967296 + y0 = Y := by omega
  have k1 : Wig.KPre u32 u1 y1 y0 := ⟨by omega, by omega, by omega, by omega, by omega⟩
  have i1 := Wig.k_start k1
  have hQ1 := Wig.k_small k1
  obtain ⟨Q1, x1⟩ : ∃ Q1, (u32 * 4294967296 + u1) / (y1 * 4294967296 + y0) = Q1 := ⟨_, rfl⟩
  obtain ⟨u21, x2⟩ : ∃ u21, (u32 * 4294967296 + u1) % Y = u21 := ⟨_, rfl⟩
  have hdm := Nat.div_add_mod' (u32 * 4294967296 + u1) Y
  rw [hYs] at x1
  rw [x1, x2] at hdm
  have hu21 : u21 < Y := by rw [← x2]; exact Nat.mod_lt _ (by omega)
  have k2 : Wig.KPre u21 u0 y1 y0 := ⟨by omega, by omega, by omega, by omega, by omega⟩
  have i2 := Wig.k_start k2
  have hQ0 := Wig.k_small k2
  obtain ⟨Q0, x3⟩ : ∃ Q0, (u21 * 4294967296 + u0) / (y1 * 4294967296 + y0) = Q0 := ⟨_, rfl⟩
  obtain ⟨t, x4⟩ : ∃ t, (u21 * 4294967296 + u0) % Y = t := ⟨_, rfl⟩
  have hdm2 := Nat.div_add_mod' (u21 * 4294967296 + u0) Y
  rw [hYs] at x3
  rw [x3, x4] at hdm2
  have ht : t < Y := by rw [← x4]; exact Nat.mod_lt _ (by omega)
  have hq : (hn * 18446744073709551616 + lo) / y = Q1 * 4294967296 + Q0 := by
    rw [← Nat.mul_div_mul_right _ _ hp, hN, ← hY, Wig.div_two _ _ _ _ (by omega), x1, x2, x3]
  have hr : (hn * 18446744073709551616 + lo) % y = t / 2 ^ s := by
    have e : (hn * 18446744073709551616 + lo) % y * 2 ^ s = t := by
      rw [← Nat.mul_mod_mul_right, hN, ← hY, Wig.mod_two, x2, x4]
    rw [← e, Nat.mul_div_cancel _ hp]
  rw [hq, hr]
  have hqa : u32 / y1 ≤ 4294967297 := i1.2.2.1
  have hqb : u21 / y1 ≤ 4294967297 := i2.2.2.1
  rw [hYs, x1] at hQ1
  rw [hYs, x3] at hQ0
  refine div64_walk hn lo y s Y y1 y0 u32 d u1 u0 (u32 / y1) (u32 % y1) Q1 u21 (u21 / y1) (u21 % y1) Q0 (t / 2 ^ s) w h0 h1 hy hl hs hlen
    (by omega) (by omega) (by omega) hqa hqb (by omega) (by omega) hQ1 hQ0 (by omega) (by omega)
    (by rw [shl_nat (by rw [← hY]; exact hy64), ← hY]) (by rw [hy1]; exact (Int.natCast_ediv _ _).symm) (by rw [hy0]; exact and32_nat Y hy64)
    ?_ (by rw [shl_mod, ← hd]) (by rw [hu1]; exact (Int.natCast_ediv _ _).symm) (by rw [hu0]; exact and32_nat d hd64)
    (rest_nat (by omega) rfl) (Int.natCast_ediv _ _).symm k1 i1 (by rw [hYs]; exact x1) (sub_prod hdm.symm (by omega)) (Int.natCast_ediv _ _).symm (rest_nat (by omega) rfl) k2 i2 (by rw [hYs]; exact x3) ?_
  · rw [shl_nat (by rw [← hhe]; omega), shr_nat, ← hc, bits_or_u64_nat _ _ (by rw [← hhe]; omega) (by omega), or_add hcs, ← hhe, ← hu]
  · rw [sub_prod hdm2.symm (by omega), shr_nat]

end Go.Proofs.Ytpdmepblmjjeeaa
