/-
  SealTurns: a datagram one of whose bytes is another one is none, and one whose byte is turned to itself is one; whatever the numbers, the payload (at most two thousand bytes), the place and the byte. No condition.
-/
import Derived.Test.YtmodafmnokiceaaSeaW
import Derived.Test.YtmodafmnokiceaaOpen
namespace Go.Proofs.Ytmodafmnokiceaa.sealTurns
open Go.ChangeShapes Go.WideShapes Go.ChangeAt Go.RowKit Go.Deep
set_option linter.unusedVariables false

theorem long (a b y l c : Nat) (A : Option Addr) (i : Int) (w : World) (t0 : decide ((2000 : Int) < (l : Int)) = true) :
    Calls Try.prog 7 #[.int .u64 (a : Int), .int .u64 (b : Int), .slice A l c, .int .i64 i, .int .u8 (y : Int)] w fun e w' => e = .returned (.bool true) ∧ Below w.heap.size w w' := by
  have C0 := Lib.hid (awake_any w)
  go_enter Try.func7, Try.ntmps7
  go_wp2_with fail
  refine (C0.out).mono ?_
  rintro e w1 ⟨rfl, hb1⟩
  have B1 := Lib.hid hb1
  clear hb1
  go_wp2_with fail
  go_ret
  exact ⟨rfl, B1.out⟩

theorem refused (a b y l c : Nat) (A : Option Addr) (i : Int) (xs : List Nat) (w : World) (hx : Wig.Bytes xs) (hl : l = xs.length) (h2 : l ≤ 2000) (ha : a < 18446744073709551616) (hb : b < 18446744073709551616) (hs : Wig.sfits a b xs = false) (hr : RdN .u8 w w.heap.size A xs) :
    Calls Try.prog 7 #[.int .u64 (a : Int), .int .u64 (b : Int), .slice A l c, .int .i64 i, .int .u8 (y : Int)] w fun e w' => e = .returned (.bool true) ∧ Below w.heap.size w w' := by
  have t0 : decide ((2000 : Int) < (l : Int)) = false := decide_eq_false (by omega)
  have C0 := Lib.hid (awake_any w)
  have C1 := Lib.hid (fun w hr => pack_gives a b A c l xs [] 1 w (by unfold Wig.spack; rw [if_neg (by simp [hs])]) (by unfold Wig.spackErr; rw [if_neg (by simp [hs])]) ha hb hx hl h2 hr)
  have HR := Lib.hid hr
  clear hx hl h2 ha hb hs hr
  go_enter Try.func7, Try.ntmps7
  go_wp2_with fail
  refine (C0.out).mono ?_
  rintro e w1 ⟨rfl, hb1⟩
  have B1 := Lib.hid hb1
  have R1 := Lib.hid (HR.out.step hb1)
  clear hb1
  go_wp2_with fail
  refine (C1.out _ R1.out).mono ?_
  rintro e w2 ⟨A2, n2, c2, rfl, hn2, -, -, -, -, hb2⟩
  simp only [List.length_nil] at hn2
  subst hn2
  have B2 := Lib.hid (below_trans' B1.out hb2)
  clear hb2
  go_wp2_with fail
  go_ret
  exact ⟨rfl, B2.out⟩

set_option maxHeartbeats 4000000 in
theorem turn (a b y l c p : Nat) (A : Option Addr) (i j : Int) (neg t : Bool) (xs : List Nat) (w : World) (hx : Wig.Bytes xs) (hl : l = xs.length) (h2 : l ≤ 2000) (ha : a < 18446744073709551616) (hb : b < 18446744073709551616) (hy : y < 256) (ht : ((y : Int) == 0) = t)
    (hneg : decide (i < 0) = neg) (hj : neg = true → wrap64 (i + 1) = j ∧ wrap64 (-j) = (p : Int)) (hp : neg = false → i = (p : Int)) (hs : Wig.sfits a b xs = true) (hr : RdN .u8 w w.heap.size A xs) :
    Calls Try.prog 7 #[.int .u64 (a : Int), .int .u64 (b : Int), .slice A l c, .int .i64 i, .int .u8 (y : Int)] w fun e w' => e = .returned (.bool true) ∧ Below w.heap.size w w' := by
  have t0 : decide ((2000 : Int) < (l : Int)) = false := decide_eq_false (by omega)
  have hlen := Wig.spack_length hs
  have hfit := of_decide_eq_true hs
  obtain ⟨ys, hys⟩ : ∃ ys, ys = Wig.spack a b xs := ⟨_, rfl⟩
  have hyb : Wig.Bytes ys := by rw [hys]; exact Wig.spack_bytes a b hx
  obtain ⟨m, hm⟩ : ∃ m, m = ys.length := ⟨_, rfl⟩
  rw [← hys, ← hm] at hlen
  obtain ⟨k, hk⟩ : ∃ k, k = p % m := ⟨_, rfl⟩
  have kl : k < m := by rw [hk]; exact Nat.mod_lt _ (by omega)
  obtain ⟨x, hx0⟩ : ∃ x, ys[k]? = some x := ⟨_, List.getElem?_eq_getElem (by omega)⟩
  have x256 : x < 256 := hyb x (List.mem_of_getElem? hx0)
  obtain ⟨z, hz⟩ : ∃ z, z = x ^^^ y := ⟨_, rfl⟩
  have z256 : z < 256 := by rw [hz]; exact Wig.xor_byte x256 hy
  have e1 : bits .xor .u8 (x : Int) (y : Int) = (z : Int) := by rw [hz]; exact u8_xor_nat x y x256 hy
  obtain ⟨zs, hzs⟩ : ∃ zs, zs = ys.set k z := ⟨_, rfl⟩
  have hzb : Wig.Bytes zs := fun u hu => by
    rw [hzs] at hu
    rcases List.mem_or_eq_of_mem_set hu with h | rfl
    · exact hyb u h
    · exact z256
  have hzl : m = zs.length := by rw [hzs, List.length_set]; exact hm
  obtain ⟨v, hv⟩ : ∃ v, Wig.snum zs b = v := ⟨_, rfl⟩
  obtain ⟨ps, hps⟩ : ∃ ps, Wig.spay zs = ps := ⟨_, rfl⟩
  obtain ⟨r, her⟩ : ∃ r, Wig.sopenErr zs = r := ⟨_, rfl⟩
  have key : (t = true ∧ r = 0) ∨ (t = false ∧ r = 60 ∧ ps = []) := by
    by_cases h0 : y = 0
    · have e : zs = ys := by
        have hzx : z = x := by rw [hz, h0, Nat.xor_zero]
        rw [hzs, hzx, hys]
        rw [hys] at hx0
        apply List.ext_getElem?
        intro q
        rw [List.getElem?_set]
        split
        · rename_i h; subst h; rw [hx0]; rw [if_pos (by rcases Nat.lt_or_ge k (Wig.spack a b xs).length with h | h; exact h; rw [List.getElem?_eq_none h] at hx0; cases hx0)]
        · rfl
      refine .inl ⟨by rw [← ht, h0]; rfl, ?_⟩
      rw [← her, e, hys, Wig.sopenErr, if_pos (Wig.spack_opens hs)]
    · have hne : z ≠ x := fun h => h0 (by
        rw [hz] at h
        have := congrArg (x ^^^ ·) h
        simp only [← Nat.xor_assoc, Nat.xor_self, Nat.zero_xor] at this
        exact this)
      have hno : Wig.sopens zs = false := by rw [hzs, hys]; rw [hys] at hx0; exact Wig.sturned hx hs hx0 z256 hne
      refine .inr ⟨by rw [← ht]; simp; omega, ?_, ?_⟩
      · rw [← her, Wig.sopenErr, if_neg (by simp [hno])]
      · rw [← hps, Wig.spay, if_neg (by simp [hno])]
  have b2 : m ≤ 1200 := by have := Wig.psize_range a b; omega
  have g1 : ((m : Int) == 0) = false := by simp; omega
  have g2 : ¬ m = 0 := by omega
  have g3 : (p : Int).tmod (m : Int) = (k : Int) := by rw [hk, Int.tmod_eq_emod_of_nonneg (by omega)]; rfl
  have g4 : (0 : Int) ≤ (k : Int) := by omega
  have g5 : (k : Int) < (m : Int) := by omega
  have C0 := Lib.hid (awake_any w)
  have C1 := Lib.hid (fun w hr => pack_gives a b A c l xs ys 0 w hys.symm (by unfold Wig.spackErr; rw [if_pos hs]) ha hb hx hl h2 hr)
  have C2 := Lib.hid (fun A c w hc hcm hr => open_gives A m c zs ps b v r w hv hps her hzb hzl (by omega) hc hcm hr hb)
  rw [← hm] at C1
  have HR := Lib.hid hr
  have HZ := Lib.hid (And.intro hzs (And.intro hx0 (And.intro hm.symm (And.intro b2 hzl))))
  clear hx hl h2 ha hb hs hr hlen hfit hys hyb hm hk kl hx0 x256 hz z256 hzs hzb hzl hv hps her hy b2
  rcases key with ⟨rfl, rfl⟩ | ⟨rfl, rfl, rfl⟩ <;> cases neg
  all_goals
    first
    | obtain rfl := hp rfl
    | obtain ⟨u1, u2⟩ := hj rfl
    clear hp hj
    go_enter Try.func7, Try.ntmps7
    go_wp2_with fail
    refine (C0.out).mono ?_
    rintro e w1 ⟨rfl, hb1⟩
    have B1 := Lib.hid hb1
    have R1 := Lib.hid (HR.out.step hb1)
    clear hb1
    go_wp2_with fail
    refine (C1.out _ R1.out).mono ?_
    rintro e w2 ⟨A2, n2, c2, rfl, hn2, -, -, hr2, -, hb2⟩
    obtain rfl : n2 = m := hn2
    have B2 := Lib.hid (below_trans' B1.out hb2)
    have X2 := Lib.hid hr2
    have O2 := Lib.hid (own_none w2)
    have E2 := Lib.hid ((Below.refl w2.heap.size w2).alloc (Nat.le_refl _) (.cells #[] 5))
    clear hb2 hr2
    go_wp2_with (at_builtin; refine wpList_append_bytes rfl _ _ rfl w2.heap.size _ [] ys rfl O2.out w2.heap.size A2 c2 n2 HZ.out.2.2.1 rfl (X2.out.below E2.out) (by have := HZ.out; simp; omega) (by simp) ?_)
    intro v3 w3 hown3 hg3
    have hb3 : Below w2.heap.size w2 w3 := E2.out.grown hg3 (by simp) (fun q hq => (O2.out.block q hq).1)
    obtain ⟨g, cap, ev, hg0, -⟩ := World.ownsRow.form hown3 (by have := HZ.out; omega)
    rw [HZ.out.2.2.1] at ev
    subst ev
    have hcell := own_cell hown3 HZ.out.2.1
    have hfz := own_thaw hown3 k
    have hst := hown3.stored (by rw [HZ.out.2.2.1]) k z
    rw [← HZ.out.1] at hst
    have O3 := Lib.hid hst
    have B3 := Lib.hid (hb3.setCell (p := ⟨g, k, none⟩) hg0 (.int .u8 (z : Int)))
    clear hown3 hg3 hb3 hst hg0 O2 E2
    go_wp2_with fail
    obtain ⟨A4, c4, ev, l4, m4, r4, -⟩ := O3.out.rd
    injection ev with ea eb ec
    subst ea ec
    have C3 := Lib.hid (C2.out (some ⟨g, 0, none⟩) cap (w3.setCell ⟨g, k, none⟩ (.int .u8 (z : Int))) (by rw [HZ.out.2.2.2.2]; exact l4) m4 r4)
    clear eb l4 m4 r4 hcell hfz
    refine (C3.out).mono ?_
    rintro e w4 ⟨A5, n5, c5, rfl, hn5, -, -, -, -, hb5⟩
    first
    | (simp only [List.length_nil] at hn5; subst hn5)
    | skip
    have B5 := Lib.hid (below_trans' (below_trans' B2.out B3.out) hb5)
    clear hb5 C3
    try clear hn5
    go_wp2_with fail
    go_ret
    exact ⟨rfl, B5.out⟩

theorem walk (a b : Nat) (A : Option Addr) (c : Nat) (xs : List Nat) (i : Int) (y : Nat) (ha : a < 18446744073709551616) (hb : b < 18446744073709551616) (hx : ∀ x ∈ xs, x < 256) (hl : xs.length ≤ c) (hc : c ≤ maxLen) (hi : -9223372036854775808 ≤ i) (hj : i ≤ 9223372036854775807) (hy : y < 256) (w : World) (hr : RdN .u8 w w.heap.size A xs) :
    Calls Try.prog 7 #[.int .u64 (a : Int), .int .u64 (b : Int), .slice A xs.length c, .int .i64 i, .int .u8 (y : Int)] w fun e w' => e = .returned (.bool true) ∧ Below w.heap.size w w' := by
  by_cases h0 : 2000 < xs.length
  · exact long a b y _ c A i w (decide_eq_true (by omega))
  · cases hs : Wig.sfits a b xs with
    | false => exact refused a b y _ c A i xs w hx rfl (by omega) ha hb hs hr
    | true =>
      by_cases hneg : i < 0
      · exact turn a b y _ c (-(i + 1)).toNat A i (i + 1) true _ xs w hx rfl (by omega) ha hb hy rfl (decide_eq_true hneg) (fun _ => ⟨by unfold wrap64; omega, by unfold wrap64; omega⟩) (fun h => by cases h) hs hr
      · exact turn a b y _ c i.toNat A i 0 false _ xs w hx rfl (by omega) ha hb hy rfl (decide_eq_false hneg) (fun h => by cases h) (fun _ => by omega) hs hr

set_option maxRecDepth 100000 in
theorem lifted (os : Os) (started : os.Started) (H : Type) (enc : TypeId × Value → H) :
    ReturnsInHanded {} Try.checked os 7 .any (Rows.sealTurnsSpec.pre6 enc Try.prog Try.f7 Rows.sealTurnsRow.domain false) (Rows.sealTurnsSpec.post enc Try.prog Try.f7 false true false false) := by
  refine returnsInHanded_of_change (C := Try.checked) own started (by kernel_rfl) Try.func7
    (ChangeSpec.witness6 (enc := enc) (C := Try.checked) false ⟨#[], #[.int .u64 0, .int .u64 0, .slice none 0 0, .int .i64 0, .int .u8 0], []⟩ 8 (by kernel_rfl) (by kernel_rfl) (by kernel_rfl) (by kernel_rfl)) ?_
  intro W base args ds gs before hval0 hW hcnd _
  have hval : ∀ (j : Nat) t v, Try.f7.params[j]? = some t → args[j]? = some v → Value.okWide Try.prog W .any base t v := hval0
  have hW' := hW
  obtain ⟨p, q, hA0, hV, rfl, hfz, hnd⟩ := hW
  have hA : DataW.TrodAll enc Try.prog W 0 (fun _ => true) true Try.f7.params.toList args.toList ds p := hA0
  obtain ⟨rfl, rfl⟩ := trodVars_none hV
  simp only [List.append_nil] at hW'
  have hlow : ∀ x ∈ p, x.block < W.heap.size := fun x hx => hW'.lt x hx
  have hA2 := hA
  rw [Try.params7] at hval hA2
  obtain ⟨v0, vs0, d0, ds0, p0, q0, hargs, rfl, rfl, h0, r0⟩ := trodAll_cons hA2
  obtain ⟨v1, vs1, d1, ds1, p1, q1, rfl, rfl, rfl, h1, r1⟩ := trodAll_cons r0
  obtain ⟨v2, vs2, d2, ds2, p2, q2, rfl, rfl, rfl, h2, r2⟩ := trodAll_cons r1
  obtain ⟨v3, vs3, d3, ds3, p3, q3, rfl, rfl, rfl, h3, r3⟩ := trodAll_cons r2
  obtain ⟨v4, vs4, d4, ds4, p4, q4, rfl, rfl, rfl, h4, r4⟩ := trodAll_cons r3
  obtain ⟨rfl, rfl, rfl⟩ := trodAll_nil r4
  obtain rfl : args = #[v0, v1, v2, v3, v4] := by cases args; simp_all
  obtain ⟨n0, rfl, hn0⟩ := open_u64 Try.underlying23 (hval 0 23 v0 rfl rfl) h0
  obtain ⟨n1, rfl, hn1⟩ := open_u64 Try.underlying23 (hval 1 23 v1 rfl rfl) h1
  obtain ⟨A2, c2, xs2, rfl, hx2, hr2, hl2, hm2⟩ := open_row 256 Try.underlying24 Try.underlying5 (by kernel_rfl) (by intro x h; simp [Lit.wf, IntKind.min, IntKind.max, IntKind.signed, IntKind.bits] at h; omega) (hval 2 24 v2 rfl rfl) h2 (fun x hx => hlow x (by simp [hx]))
  obtain ⟨i3, rfl, hi3, hj3⟩ := open_i64 Try.underlying3 (hval 3 3 v3 rfl rfl) h3
  obtain ⟨n4, rfl, hn4⟩ := open_u8 Try.underlying5 (hval 4 5 v4 rfl rfl) h4
  refine (walk n0 n1 A2 c2 xs2 i3 n4 hn0 hn1 hx2 hl2 hm2 hi3 hj3 hn4 W hr2).mono fun e W' ⟨he, hg⟩ => ?_
  subst he
  exact ⟨_, rfl, law_true laid_out (by kernel_rfl) rfl Try.underlying4 (by kernel_rfl) hW' hA rfl rfl rfl hg⟩

theorem over : Rows.sealTurnsRow.holds Try.pinned (OpenSpec.ofChange Rows.sealTurnsSpec) :=
  OpenClaim.holds_of_wide 7 Try.f7 rfl rfl rfl rfl rfl rfl rfl ⟨rfl, rfl, rfl, rfl, rfl⟩ rfl rfl rfl rfl rfl (by kernel_rfl) Try.func7 (by kernel_rfl)
    (of_decide_eq_true (by kernel_rfl)) (by unfold Func.isWrapper; first | (rw [if_pos (by decide +kernel)]; kernel_rfl) | (rw [if_neg (by decide +kernel)]; exact ⟨rfl, rfl⟩))
    (fun os started H enc _ => lifted os started H enc)

/-- The statement. -/
theorem proved : Rows.SealTurnsSaid := over
end Go.Proofs.Ytmodafmnokiceaa.sealTurns
