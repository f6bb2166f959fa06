/-
  RttLow: the least sample is that of all samples, and the latest the last one; behind them a timeout is no less than the most delay and one, for at most a hundred samples of 32 bits. No condition.
-/
import Derived.Test.YteaodhgfmbcmfaaRtW
import Derived.Test.YteaodhgfmbcmfaaByt
import Derived.Deep.RegionWith
import Derived.Deep.CutBlock
import Derived.Deep.DeepCutAuto
namespace Wig
/-- What is known of the samples that came: the least one lo, the greatest one hi. -/
def LowInv (r : Rt) (lo hi : Nat) : Prop :=
  (r = ⟨false, 0, 0, 0, 0⟩ ∧ lo = 18446744073709551615 ∧ hi = 0) ∨
  (r.has = true ∧ r.low = lo ∧ r.last < 4294967296 ∧ lo < 4294967296 ∧ hi < 4294967296 ∧ r.smooth ≤ hi ∧ r.far ≤ hi)
theorem low_ok {r : Rt} {lo hi : Nat} (h : LowInv r lo hi) : r.Ok := by
  rcases h with ⟨rfl, _, _⟩ | ⟨_, h2, h3, h4, h5, h6, h7⟩
  · exact ⟨by decide, by decide, by decide, by decide⟩
  · exact ⟨by omega, by omega, by omega, by omega⟩
theorem low_step {r : Rt} {lo hi s : Nat} (dl : Nat) {ms : Nat} (h : LowInv r lo hi) (hs : s < 4294967296) (hms : ms < 4294967296) :
    ∃ c d, rup r s dl ms = ⟨true, s, min lo s, c, d⟩ ∧ c ≤ max hi s ∧ d ≤ max hi s ∧ LowInv ⟨true, s, min lo s, c, d⟩ (min lo s) (max hi s) ∧ ms < rwait ⟨true, s, min lo s, c, d⟩ ms 0 := by
  have fin : ∀ c d : Nat, c ≤ max hi s → d ≤ max hi s → hi < 4294967296 → LowInv ⟨true, s, min lo s, c, d⟩ (min lo s) (max hi s) ∧ ms < rwait ⟨true, s, min lo s, c, d⟩ ms 0 := by
    intro c d hc hd hh
    refine ⟨Or.inr ⟨rfl, rfl, hs, by omega, by omega, hc, hd⟩, ?_⟩
    rw [rwait_zero]
    unfold ronce rknown
    rw [if_pos rfl]
    simp only
    have q : 1 ≤ fadd c (max (fmul 4 d) 1) := by unfold fadd; split <;> omega
    generalize fadd c (max (fmul 4 d) 1) = z at q ⊢
    unfold fadd
    split <;> omega
  rcases h with ⟨rfl, h2, h3⟩ | ⟨h1, h2, h3, h4, h5, h6, h7⟩
  · refine ⟨s, s / 2, ?_, by omega, by omega, fin s (s / 2) (by omega) (by omega) (by omega)⟩
    unfold rup
    rw [if_neg (by simp), show min lo s = s by omega]
  · have ho := rown_le s (min lo s) (min dl ms)
    have e : rup r s dl ms = ⟨true, s, min lo s, fadd (r.smooth - r.smooth / 8) (rown s (min lo s) (min dl ms) / 8), fadd (r.far - r.far / 4) (rgap (rown s (min lo s) (min dl ms)) r.smooth / 4)⟩ := by
      unfold rup
      rw [if_pos h1, h2]
    generalize rown s (min lo s) (min dl ms) = x at ho e
    have g1 : fadd (r.smooth - r.smooth / 8) (x / 8) ≤ max hi s := by unfold fadd; rw [if_pos (by omega)]; omega
    have g2 : fadd (r.far - r.far / 4) (rgap x r.smooth / 4) ≤ max hi s := by
      have : rgap x r.smooth ≤ max hi s := by unfold rgap; omega
      unfold fadd
      rw [if_pos (by omega)]
      omega
    exact ⟨_, _, e, g1, g2, fin _ _ g1 g2 h5⟩
end Wig
namespace Go.Proofs.Yteaodhgfmbcmfaa.rttLow
open Go.ChangeShapes Go.WideShapes Go.ChangeAt Go.RowKit Go.Deep
set_option linter.unusedVariables false

/-- At a round's head: what is known lies in its box. -/
def LoRel (n m p : Nat) (w : World) (vl vh i : Value) (wr : World) : Prop :=
  ∃ (j : Nat) (h : Bool) (a b c d lo hi : Nat), j ≤ n ∧ j ≤ m ∧ i = .int .i64 (j : Int) ∧ vl = .int .u64 (lo : Int) ∧ vh = .int .u64 (hi : Int) ∧ Bx p h a b c d wr ∧ Wig.LowInv ⟨h, a, b, c, d⟩ lo hi ∧ Below w.heap.size w wr ∧ p < wr.heap.size

set_option maxRecDepth 20000 in
set_option maxHeartbeats 4000000 in
theorem walk (A : Option Addr) (ca : Nat) (xs : List Nat) (B : Option Addr) (cb : Nat) (ys : List Nat) (ms : Nat) (hx : ∀ x ∈ xs, x < 4294967296) (hl : xs.length ≤ ca) (hcm : ca ≤ maxLen) (hy : ∀ x ∈ ys, x < 4294967296) (hl2 : ys.length ≤ cb) (hcm2 : cb ≤ maxLen)
    (hms : ms < 4294967296) (w : World) (hr : RdN .u32 w w.heap.size A xs) (hq : RdN .u32 w w.heap.size B ys) :
    Calls Try.prog 4 #[.slice A xs.length ca, .slice B ys.length cb, .int .u32 (ms : Int)] w fun e w' => e = .returned (.bool true) ∧ Below w.heap.size w w' := by
  obtain ⟨n, hn⟩ : ∃ n, n = xs.length := ⟨_, rfl⟩
  obtain ⟨m, hm⟩ : ∃ m, m = ys.length := ⟨_, rfl⟩
  rw [← hn] at hl ⊢
  rw [← hm] at hl2 ⊢
  have C0 := Lib.hid (fun w => awake_any w)
  by_cases h100 : 100 < n
  · have t0 : decide (100 < n) = true := decide_eq_true h100
    have t1 : decide ((100 : Int) < (n : Int)) = true := decide_eq_true (by omega)
    clear hx hl hcm hy hl2 hcm2 hms hr hq h100 hn hm
    go_enter Try.func4, Try.ntmps4
    go_wp2_with fail
    refine (C0.out _).mono ?_
    rintro e w2 ⟨rfl, hb⟩
    have B2 := Lib.hid hb
    clear hb C0
    go_wp2_with fail
    go_ret
    exact ⟨rfl, B2.out⟩
  · have t0 : decide (100 < n) = false := decide_eq_false h100
    have t1 : decide ((100 : Int) < (n : Int)) = false := decide_eq_false (by omega)
    have v5 : IntKind.u64.wrap (ms : Int) = (ms : Int) := by rw [IntKind.wrap_u64]; omega
    have HX := Lib.hid hx
    have HY := Lib.hid hy
    have HN := Lib.hid (And.intro hn (And.intro hm (And.intro hms h100)))
    have HR := Lib.hid hr
    have HQ := Lib.hid hq
    have Al := Lib.hid (fun (w : World) (o : Obj) => (show Below w.heap.size w (w.alloc o) from (Below.refl _ _).alloc (Nat.le_refl _) o))
    have Z := Lib.hid (fun (w : World) (o : Obj) => (show (w.alloc o).heap.size = w.heap.size + 1 by simp))
    clear hx hl hcm hy hl2 hcm2 hms hr hq h100 hn hm
    go_enter Try.func4, Try.ntmps4
    go_wp2_with fail
    refine (C0.out _).mono ?_
    rintro e w2 ⟨rfl, hb⟩
    have B2 := Lib.hid hb
    clear hb C0
    go_upto_region 5 with fail
    obtain ⟨w4, hw4⟩ : ∃ w4, w4 = w2.alloc (.cells #[.bool false, .int .u64 0, .int .u64 0, .int .u64 0, .int .u64 0] 24) := ⟨_, rfl⟩
    rw [← hw4]
    obtain ⟨p, hp⟩ : ∃ p, p = w2.heap.size := ⟨_, rfl⟩
    have ST := Lib.hid (show LoRel n m p w (.int .u64 18446744073709551615) (.int .u64 0) (.int .i64 0) w4 from
      ⟨0, false, 0, 0, 0, 0, 18446744073709551615, 0, Nat.zero_le _, Nat.zero_le _, rfl, rfl, rfl, by rw [hw4, hp]; exact Bx.new w2 false 0 0 0 0, Or.inl ⟨rfl, rfl, rfl⟩, below_trans' B2.out (hw4 ▸ Al.out w2 _), by rw [hp, hw4, Z.out]; omega⟩)
    have LP := Lib.hid (show w.heap.size ≤ p by rw [hp]; exact B2.out.size)
    rw [← hp]
    clear hp hw4 t0 t1
    go_wp2_with fail
    go_loopw [9, 10, 11] (fun vl vh i wr => LoRel n m p w vl vh i wr) (fun _ _ i _ => n - (intOf i).toNat)
    case atStart => exact ST.out
    case round =>
      obtain ⟨j, h, a, b, c, d, lo, hi, hj, hj2, rfl, rfl, rfl, hbx, hinv, hbel, hlt⟩ := hrel
      have X0 := Lib.hid hbx
      have B0 := Lib.hid hbel
      have L0 := Lib.hid hlt
      by_cases hjn : j < n
      · by_cases hjm : j < m
        · obtain ⟨s, hs⟩ : ∃ s, xs[j]? = some s := ⟨_, List.getElem?_eq_getElem (by have := HN.out; omega)⟩
          obtain ⟨dl, hdl⟩ : ∃ dl, ys[j]? = some dl := ⟨_, List.getElem?_eq_getElem (by have := HN.out; omega)⟩
          obtain ⟨b1, o1, rfl, lb1, c1⟩ := (HR.out.below hbel).at_ hs
          obtain ⟨b2, o2, rfl, lb2, c2⟩ := (HQ.out.below hbel).at_ hdl
          have sl : s < 4294967296 := HX.out s (List.mem_of_getElem? hs)
          have dll : dl < 4294967296 := HY.out dl (List.mem_of_getElem? hdl)
          obtain ⟨c', d', hup, g1, g2, g3, g4⟩ := Wig.low_step dl hinv sl HN.out.2.2.1
          obtain ⟨lo', hlo⟩ : ∃ lo', lo' = min lo s := ⟨_, rfl⟩
          obtain ⟨hi', hhi⟩ : ∃ hi', hi' = max hi s := ⟨_, rfl⟩
          obtain ⟨j1, hj1⟩ : ∃ j1, j1 = j + 1 := ⟨_, rfl⟩
          rw [← hlo] at hup g3 g4
          rw [← hhi] at g1 g2 g3
          obtain ⟨tm, htm⟩ : ∃ tm, tm = Wig.rwait ⟨true, s, lo', c', d'⟩ ms 0 := ⟨_, rfl⟩
          rw [← htm] at g4
          have okr := Wig.low_ok hinv
          have okx := Wig.low_ok g3
          have C1 := Lib.hid (fun w => update_any h a b c d s dl ms s lo' c' d' w okr (by omega) (by omega) (by have := HN.out; omega) hup)
          have C2 := Lib.hid (fun w => timeout_any true s lo' c' d' ms tm 0 w okx (by have := HN.out; omega) (by decide) (by decide) htm.symm)
          have v1 : IntKind.u64.wrap (s : Int) = (s : Int) := by rw [IntKind.wrap_u64]; omega
          have v2 : IntKind.u64.wrap (dl : Int) = (dl : Int) := by rw [IntKind.wrap_u64]; omega
          have m1 : (if s < lo then (s : Int) else (lo : Int)) = (lo' : Int) := by split <;> omega
          have m2 : (if hi < s then (s : Int) else (hi : Int)) = (hi' : Int) := by split <;> omega
          have t1 : decide (j < n) = true := decide_eq_true hjn
          have t2 : decide (j < m) = true := decide_eq_true hjm
          have t3 : decide (hi' < c') = false := decide_eq_false (by omega)
          have t4 : decide (hi' < d') = false := decide_eq_false (by omega)
          have t5 : decide (tm ≤ ms) = false := decide_eq_false (by omega)
          have i0 : (0 : Int) ≤ (j : Int) := by omega
          have i1 : (j : Int) < (n : Int) := by omega
          have i2 : (j : Int) < (m : Int) := by omega
          have e1 : IntKind.i64.wrap ((j : Int) + 1) = (j1 : Int) := by have := HN.out; rw [IntKind.wrap_i64] <;> omega
          have G := Lib.hid (And.intro hj1 (And.intro hjn (And.intro hjm g3)))
          obtain ⟨k0, k1, k2, k3, k4, -, -, -, -, -⟩ := X0.out
          clear hj hj2 hbx hinv hbel hlt hjn hjm hs hdl lb1 lb2 sl dll hup g1 g2 g3 g4 hlo hhi hj1 htm okr okx
          go_upto_region 11 with fail
          go_cut [] (fun wx => Bx p true s lo' c' d' wx ∧ Below w.heap.size w wx ∧ p < wx.heap.size)
          case first =>
            clear t1 t2 t3 t4 t5 m1 m2 e1
            go_region_with (go_at_call 9; refine (C1.out _).mono ?_; rintro e w5 ⟨rfl, hb⟩; have X5 := Lib.hid (X0.out.drew.below hb L0.out); have B5 := Lib.hid (B0.out.trans ((show Below wr.heap.size wr w5 from (Below.refl _ _).drew.trans hb).mono B0.out.size)); have L5 := Lib.hid (Nat.lt_of_lt_of_le L0.out hb.size); clear hb k0 k1 k2 k3 k4; obtain ⟨n0, n1, n2, n3, n4, l0, l1, l2, l3, l4⟩ := X5.out)
            all_goals
              go_wp2_with fail
              go_meet
              case rel => exact ⟨X5.out.put, B5.out.trans (put_below LP.out), Nat.lt_of_lt_of_le L5.out (put_below (B := p) (Nat.le_refl _)).size⟩
          case rest =>
          obtain ⟨hX6, hB6, hL6⟩ := hcut
          have X6 := Lib.hid hX6
          have B6 := Lib.hid hB6
          have L6 := Lib.hid hL6
          clear hX6 hB6 hL6 k0 k1 k2 k3 k4 X0 B0 L0 C1 c1 c2 i0 i1 i2 v1 v2
          obtain ⟨k0, k1, k2, k3, k4, -, -, -, -, -⟩ := X6.out
          go_wp2_with fail
          refine (C2.out _).mono ?_
          rintro e w7 ⟨rfl, hb⟩
          have X7 := Lib.hid (X6.out.below hb L6.out)
          have B7 := Lib.hid (B6.out.trans (hb.mono B6.out.size))
          have L7 := Lib.hid (Nat.lt_of_lt_of_le L6.out hb.size)
          clear hb k0 k1 k2 k3 k4
          go_wp2_with fail
          go_roundw
          case rel => exact ⟨j1, true, s, lo', c', d', lo', hi', by have := G.out; omega, by have := G.out; omega, rfl, rfl, rfl, X7.out, G.out.2.2.2, B7.out, L7.out⟩
          case measure => have := G.out; simp [intOf]; omega
        · obtain rfl : j = m := by omega
          have t1 : decide (j < n) = true := decide_eq_true hjn
          clear hj hj2 hbx hinv hbel hlt hjn hjm
          go_wp2_with fail
          go_ret
          exact ⟨rfl, B0.out⟩
      · obtain rfl : j = n := by omega
        clear hj hj2 hbx hinv hbel hlt hjn
        go_wp2_with fail
        go_ret
        exact ⟨rfl, B0.out⟩

set_option maxRecDepth 100000 in
theorem lifted (os : Os) (started : os.Started) (H : Type) (enc : TypeId × Value → H) :
    ReturnsInHanded {} Try.checked os 4 .any (Rows.rttLowSpec.pre6 enc Try.prog Try.f4 Rows.rttLowRow.domain false) (Rows.rttLowSpec.post enc Try.prog Try.f4 false true false false) := by
  refine returnsInHanded_of_change (C := Try.checked) own started (by kernel_rfl) Try.func4
    (ChangeSpec.witness6 (enc := enc) (C := Try.checked) false ⟨#[], #[.slice none 0 0, .slice none 0 0, .int .u32 0], []⟩ 8 (by kernel_rfl) (by kernel_rfl) (by kernel_rfl) (by kernel_rfl)) ?_
  intro W base args ds gs before hval0 hW hcnd _
  have hval : ∀ (j : Nat) t v, Try.f4.params[j]? = some t → args[j]? = some v → Value.okWide Try.prog W .any base t v := hval0
  have hW' := hW
  obtain ⟨p, q, hA0, hV, rfl, hfz, hnd⟩ := hW
  have hA : DataW.TrodAll enc Try.prog W 0 (fun _ => true) true Try.f4.params.toList args.toList ds p := hA0
  obtain ⟨rfl, rfl⟩ := trodVars_none hV
  simp only [List.append_nil] at hW'
  have hlow : ∀ x ∈ p, x.block < W.heap.size := fun x hx => hW'.lt x hx
  have hA2 := hA
  rw [Try.params4] at hval hA2
  obtain ⟨v0, vs0, d0, ds0, p0, q0, hargs, rfl, rfl, h0, r0⟩ := trodAll_cons hA2
  obtain ⟨v1, vs1, d1, ds1, p1, q1, rfl, rfl, rfl, h1, r1⟩ := trodAll_cons r0
  obtain ⟨v2, vs2, d2, ds2, p2, q2, rfl, rfl, rfl, h2, r2⟩ := trodAll_cons r1
  obtain ⟨rfl, rfl, rfl⟩ := trodAll_nil r2
  obtain rfl : args = #[v0, v1, v2] := by cases args; simp_all
  obtain ⟨A0, c0, xs0, rfl, hx0, hr0, hl0, hm0⟩ := open_row 4294967296 Try.underlying30 Try.underlying31 (by kernel_rfl) (by intro x h; simp [Lit.wf, IntKind.min, IntKind.max, IntKind.signed, IntKind.bits] at h; omega) (hval 0 30 v0 rfl rfl) h0 (fun x hx => hlow x (by simp [hx]))
  obtain ⟨A1, c1, xs1, rfl, hx1, hr1, hl1, hm1⟩ := open_row 4294967296 Try.underlying30 Try.underlying31 (by kernel_rfl) (by intro x h; simp [Lit.wf, IntKind.min, IntKind.max, IntKind.signed, IntKind.bits] at h; omega) (hval 1 30 v1 rfl rfl) h1 (fun x hx => hlow x (by simp [hx]))
  obtain ⟨n2, rfl, hn2⟩ := open_u32 Try.underlying31 (hval 2 31 v2 rfl rfl) h2
  refine (walk A0 c0 xs0 A1 c1 xs1 n2 hx0 hl0 hm0 hx1 hl1 hm1 hn2 W hr0 hr1).mono fun e W' ⟨he, hg⟩ => ?_
  subst he
  exact ⟨_, rfl, law_true laid_out (by kernel_rfl) rfl Try.underlying4 (by kernel_rfl) hW' hA rfl rfl rfl hg⟩

theorem over : Rows.rttLowRow.holds Try.pinned (OpenSpec.ofChange Rows.rttLowSpec) :=
  OpenClaim.holds_of_wide 4 Try.f4 rfl rfl rfl rfl rfl rfl rfl ⟨rfl, rfl, rfl, rfl, rfl⟩ rfl rfl rfl rfl rfl (by kernel_rfl) Try.func4 (by kernel_rfl)
    (of_decide_eq_true (by kernel_rfl)) (by unfold Func.isWrapper; first | (rw [if_pos (by decide +kernel)]; kernel_rfl) | (rw [if_neg (by decide +kernel)]; exact ⟨rfl, rfl⟩))
    (fun os started H enc _ => lifted os started H enc)

/-- The statement. -/
theorem proved : Rows.RttLowSaid := over
end Go.Proofs.Yteaodhgfmbcmfaa.rttLow
