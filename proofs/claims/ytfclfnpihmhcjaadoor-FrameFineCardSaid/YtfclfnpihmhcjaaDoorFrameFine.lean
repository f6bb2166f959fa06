/-
  FrameFine: what is parsed may be, is encoded in no more bytes, and is none when it is cut. Condition: the tables hold what the program's text lays (the card ties them).
-/
import Derived.Test.YtfclfnpihmhcjaaDoorFrW
import Derived.Test.YtfclfnpihmhcjaaDoorOpF
import Derived.Deep.DeepCutAuto
namespace Go.Proofs.YtfclfnpihmhcjaaDoor.frameFine
open Go.ChangeShapes Go.WideShapes Go.ChangeAt Go.RowKit Go.Deep
set_option linter.unusedVariables false

set_option maxRecDepth 20000 in
set_option maxHeartbeats 4000000 in
theorem walk (A : Option Addr) (c : Nat) (xs : List Nat) (i1 : Int) (hx : ∀ x ∈ xs, x < 256) (hl : xs.length ≤ c) (hm : c ≤ maxLen) (hi : -9223372036854775808 ≤ i1) (hj : i1 ≤ 9223372036854775807) (w : World) (hr : RdN .u8 w w.heap.size A xs) (hT : Tab w ∧ NTab w) :
    Calls Tryd.prog 7 #[.slice A xs.length c, .int .i64 i1] w fun e w' => e = .returned (.bool true) ∧ Below w.heap.size w w' := by
  obtain ⟨n, hn⟩ : ∃ n, n = xs.length := ⟨_, rfl⟩
  rw [← hn] at hl ⊢
  have C := Lib.hid (awake_any w hT)
  have HT := Lib.hid hT
  have HR := Lib.hid hr
  have HX := Lib.hid (show Wig.Bytes xs from hx)
  have HN := Lib.hid hn
  have HC := Lib.hid (And.intro hl hm)
  have HI := fun _ : Unit => And.intro hi hj
  by_cases hbig : 2000 < n
  · have t : decide ((2000 : Int) < (n : Int)) = true := decide_eq_true (by omega)
    clear hT hr hx hn hl hm hi hj hbig
    go_enter Tryd.func7, Tryd.ntmps7
    go_wp2_with fail
    refine (C.out).mono ?_
    rintro e w1 ⟨rfl, hb1⟩
    have R := Lib.hid hb1
    clear hb1
    go_wp2_with fail
    go_ret
    exact ⟨rfl, R.out⟩
  have t0 : decide ((2000 : Int) < (n : Int)) = false := decide_eq_false (by omega)
  have HS := Lib.hid (show n ≤ 2000 by omega)
  have PA := Lib.hid fun (w1 : World) (hb : Below w.heap.size w w1) (ys : List Nat) (k : Nat) (hk : k = ys.length) (h5 : k ≤ n) (hy : Wig.Bytes ys) (hr : RdN .u8 w w.heap.size A ys) => parse_any A k c ys w1 hy hk (by have := HS.out; omega) (by have := HC.out.1; omega) HC.out.2 ((hr.below hb).wide hb.size) (two_le (tabs_below HT.out hb)) (tabs_below HT.out hb)
  clear hT hr hx hn hl hm hi hj hbig
  cases hrd : Wig.rdFrame xs with
  | none =>
    have G := Lib.hid (show Wig.pfr xs = Wig.Fr.zero ∧ Wig.plen xs = 0 ∧ Wig.perr xs = 50 by unfold Wig.pfr Wig.plen Wig.perr; rw [hrd]; exact ⟨rfl, rfl, rfl⟩)
    clear hrd
    go_enter Tryd.func7, Tryd.ntmps7
    go_wp2_with fail
    refine (C.out).mono ?_
    rintro e w1 ⟨rfl, hb1⟩
    have B1 := Lib.hid hb1
    have C2 := Lib.hid (PA.out w1 hb1 xs n HN.out (Nat.le_refl _) HX.out HR.out)
    unfold ParseAt at C2
    rw [G.out.1, G.out.2.1, G.out.2.2] at C2
    simp only [farr, Wig.Fr.zero] at C2
    clear hb1
    go_wp2_with fail
    refine (C2.out).mono ?_
    rintro e w2 ⟨D, dc, S, sc, rfl, -, hb2, -, -⟩
    have R := Lib.hid fun o => (below_trans' B1.out hb2).alloc (by have := B1.out.size; have := hb2.size; omega) o
    clear hb2
    go_wp2_with fail
    go_ret
    exact ⟨rfl, R.out _⟩
  | some q =>
    obtain ⟨f, r⟩ := q
    obtain ⟨hfine, hok, hlen, hlt⟩ := Wig.rd_fine HX.out hrd
    obtain ⟨s, hs⟩ : ∃ s, s = xs.length - r.length := ⟨_, rfl⟩
    have hcut : ∀ k, k < s → Wig.rdFrame (xs.take k) = none := fun k hk => Wig.rd_cut HX.out hrd (by omega)
    have G := Lib.hid (show Wig.pfr xs = f ∧ Wig.plen xs = s ∧ Wig.perr xs = 0 by unfold Wig.pfr Wig.plen Wig.perr; rw [hrd, hs]; exact ⟨rfl, rfl, rfl⟩)
    have hsn : 0 < s ∧ s ≤ n := by have := HN.out; omega
    have HF := Lib.hid (And.intro hfine (And.intro hok hcut))
    obtain ⟨m, hm⟩ : ∃ m, m = (Wig.fenc f).length := ⟨_, rfl⟩
    have hms : m ≤ s := by omega
    have HM := Lib.hid hm
    have t1 : decide ((s : Int) < 1) = false := decide_eq_false (by omega)
    have t2 : decide (n < s) = false := decide_eq_false (by omega)
    have t3 : decide (m ≤ s) = true := decide_eq_true hms
    have HSN := Lib.hid hsn
    clear hrd hfine hok hlen hlt hs hcut hm hms hsn
    -- the cut
    by_cases hneg : i1 < 0
    · obtain ⟨j1, hj1⟩ : ∃ j1, j1 = i1 + 1 := ⟨_, rfl⟩
      obtain ⟨cc, hcc⟩ : ∃ cc : Nat, -j1 = (cc : Int) := ⟨(-j1).toNat, by omega⟩
      have tn : decide (i1 < 0) = true := decide_eq_true hneg
      have hlow := (HI ()).1
      have u1 : IntKind.i64.wrap (i1 + 1) = j1 := by rw [IntKind.wrap_i64]; omega
      have u2 : IntKind.i64.wrap (-j1) = (cc : Int) := by rw [IntKind.wrap_i64]; omega
      have u1' : wrap64 (i1 + 1) = j1 := by unfold wrap64; omega
      have u2' : wrap64 (-j1) = (cc : Int) := by unfold wrap64; omega
      clear hlow hneg hj1 hcc
      obtain ⟨k, hk⟩ : ∃ k, k = cc % s := ⟨_, rfl⟩
      have hks : k < s := by rw [hk]; exact Nat.mod_lt _ HSN.out.1
      have r0 : ¬ (s : Int) = 0 := by have := HSN.out; omega
      have r0' : ¬ s = 0 := by have := HSN.out; omega
      have r1 : ((s : Int) == 0) = false := by simp; have := HSN.out; omega
      have r2 : ((cc : Int)).tmod (s : Int) = (k : Int) := by rw [hk, Int.tmod_eq_emod_of_nonneg (by omega)]; rfl
      have r3 : (0 : Int) ≤ (k : Int) := by omega
      have r4 : k ≤ n := by have := HSN.out; omega
      have r5 : k ≤ c := by have := HC.out; omega
      have r6 : n ≤ c := HC.out.1
      have r7 : IntKind.i64.wrap (k : Int) = (k : Int) := by have := HS.out; rw [IntKind.wrap_i64]; omega
      have HKS := Lib.hid hks
      clear hk hks
      go_enter Tryd.func7, Tryd.ntmps7
      go_wp2_with fail
      refine (C.out).mono ?_
      rintro e w1 ⟨rfl, hb1⟩
      have B1 := Lib.hid hb1
      have C2 := Lib.hid (PA.out w1 hb1 xs n HN.out (Nat.le_refl _) HX.out HR.out)
      unfold ParseAt at C2
      rw [G.out.1, G.out.2.1, G.out.2.2] at C2
      clear hb1
      go_wp2_with fail
      refine (C2.out).mono ?_
      rintro e w2 ⟨D, dc, S, sc, rfl, hl2, hb2, -, -⟩
      obtain ⟨w3, hw3⟩ : ∃ w3, w3 = w2.alloc (.cells (farr f D dc S sc) 27) := ⟨_, rfl⟩
      have hb3 : Below w2.heap.size w2 w3 := by rw [hw3]; exact (Below.refl _ _).alloc (Nat.le_refl _) _
      have hat : At w3 w2.heap.size 0 f D dc S sc := by rw [hw3]; exact at_box w2 f D dc S sc 27
      have L3 := Lib.hid (hl2.step hb3)
      have B3 := Lib.hid (below_trans' B1.out (below_trans' hb2 hb3))
      have A3 := Lib.hid hat
      have C3 := Lib.hid (encode_any (.agg #[.int .i64 f.kind, .int .u64 (f.id : Int), .int .u64 (f.off : Int), .int .u64 (f.max : Int), .int .u64 (f.code : Int), .int .u64 (f.delay : Int), .int .u64 (f.ce : Int), .bool f.fin, .slice D f.data.length dc, .slice S f.spans.length sc]) f w3 (Lies.fv L3.out) HF.out.2.1 (two_le (tabs_below HT.out B3.out)) (tabs_below HT.out B3.out))
      unfold EncAt at C3
      rw [ferr_ok HF.out.1] at C3
      simp only [farr] at hw3 ⊢
      clear hl2 hb2 hb3 hat C2
      have k0 := A3.out.c0
      have k1 := A3.out.c1
      have k2 := A3.out.c2
      have k3 := A3.out.c3
      have k4 := A3.out.c4
      have k5 := A3.out.c5
      have k6 := A3.out.c6
      have k7 := A3.out.c7
      have k8 := A3.out.c8
      have k9 := A3.out.c9
      simp only [Nat.zero_add] at k0 k1 k2 k3 k4 k5 k6 k7 k8 k9
      have z3 : w3.heap.size = w2.heap.size + 1 := by rw [hw3]; simp
      have Z3 := Lib.hid z3
      clear z3
      go_upto_region 9 with fail
      rw [← hw3]
      clear hw3
      go_wp2_with fail
      refine (C3.out).mono ?_
      rintro e w4 ⟨v4, rfl, ⟨A4, n4, c4, rfl, hn4, -, -, -, -⟩, hb4⟩
      rw [← HM.out] at hn4
      subst hn4
      have B4 := Lib.hid (below_trans' B3.out hb4)
      have A4' := Lib.hid (A3.out.below hb4)
      have L4 := Lib.hid (L3.out.step hb4)
      have C4 := Lib.hid (PA.out w4 B4.out (xs.take k) k (by rw [List.length_take, ← HN.out]; omega) r4 (HX.out.take k) (HR.out.take k))
      unfold ParseAt at C4
      have e4 : Wig.perr (xs.take k) = 50 := by unfold Wig.perr; rw [HF.out.2.2 k HKS.out]
      rw [e4] at C4
      generalize Wig.plen (xs.take k) = pl at *
      generalize Wig.pfr (xs.take k) = f4 at *
      clear hb4 e4 C3 k0 k1 k2 k3 k4 k5 k6 k7 k8 k9
      go_wp2_with fail
      refine (C4.out).mono ?_
      rintro e w5 ⟨D5, dc5, S5, sc5, rfl, -, hb5, -, -⟩
      obtain ⟨w6, hw6⟩ : ∃ w6, w6 = w5.alloc (.cells (farr f4 D5 dc5 S5 sc5) 27) := ⟨_, rfl⟩
      have hb6 : Below w5.heap.size w5 w6 := by rw [hw6]; exact (Below.refl _ _).alloc (Nat.le_refl _) _
      have hn6 := below_trans' hb5 hb6
      have B6 := Lib.hid (below_trans' B4.out hn6)
      have L6 := Lib.hid (L4.out.step hn6)
      have A6 := Lib.hid (A4'.out.below hn6)
      have C6 := Lib.hid (check_any (.agg #[.int .i64 f.kind, .int .u64 (f.id : Int), .int .u64 (f.off : Int), .int .u64 (f.max : Int), .int .u64 (f.code : Int), .int .u64 (f.delay : Int), .int .u64 (f.ce : Int), .bool f.fin, .slice D f.data.length dc, .slice S f.spans.length sc]) f w6 (Lies.fv L6.out) (HF.out.2.1.num 1) (tabs_below HT.out B6.out).2)
      rw [ferr_ok HF.out.1] at C6
      simp only [farr] at hw6 ⊢
      clear hb5 hb6 hn6 C4
      have k0 := A6.out.c0
      have k1 := A6.out.c1
      have k2 := A6.out.c2
      have k3 := A6.out.c3
      have k4 := A6.out.c4
      have k5 := A6.out.c5
      have k6 := A6.out.c6
      have k7 := A6.out.c7
      have k8 := A6.out.c8
      have k9 := A6.out.c9
      simp only [Nat.zero_add] at k0 k1 k2 k3 k4 k5 k6 k7 k8 k9
      go_upto_region 13 with fail
      rw [← hw6]
      clear hw6
      go_wp2_with fail
      refine (C6.out).mono ?_
      rintro e w7 ⟨rfl, hb7⟩
      have R := Lib.hid (below_trans' B6.out hb7)
      clear hb7
      go_wp2_with fail
      go_ret
      exact ⟨rfl, R.out⟩
    · obtain ⟨cc, hcc⟩ : ∃ cc : Nat, i1 = (cc : Int) := ⟨i1.toNat, by omega⟩
      have tn : decide (i1 < 0) = false := decide_eq_false hneg
      subst hcc
      clear hneg
      obtain ⟨k, hk⟩ : ∃ k, k = cc % s := ⟨_, rfl⟩
      have hks : k < s := by rw [hk]; exact Nat.mod_lt _ HSN.out.1
      have r0 : ¬ (s : Int) = 0 := by have := HSN.out; omega
      have r0' : ¬ s = 0 := by have := HSN.out; omega
      have r1 : ((s : Int) == 0) = false := by simp; have := HSN.out; omega
      have r2 : ((cc : Int)).tmod (s : Int) = (k : Int) := by rw [hk, Int.tmod_eq_emod_of_nonneg (by omega)]; rfl
      have r3 : (0 : Int) ≤ (k : Int) := by omega
      have r4 : k ≤ n := by have := HSN.out; omega
      have r5 : k ≤ c := by have := HC.out; omega
      have r6 : n ≤ c := HC.out.1
      have r7 : IntKind.i64.wrap (k : Int) = (k : Int) := by have := HS.out; rw [IntKind.wrap_i64]; omega
      have HKS := Lib.hid hks
      clear hk hks
      go_enter Tryd.func7, Tryd.ntmps7
      go_wp2_with fail
      refine (C.out).mono ?_
      rintro e w1 ⟨rfl, hb1⟩
      have B1 := Lib.hid hb1
      have C2 := Lib.hid (PA.out w1 hb1 xs n HN.out (Nat.le_refl _) HX.out HR.out)
      unfold ParseAt at C2
      rw [G.out.1, G.out.2.1, G.out.2.2] at C2
      clear hb1
      go_wp2_with fail
      refine (C2.out).mono ?_
      rintro e w2 ⟨D, dc, S, sc, rfl, hl2, hb2, -, -⟩
      obtain ⟨w3, hw3⟩ : ∃ w3, w3 = w2.alloc (.cells (farr f D dc S sc) 27) := ⟨_, rfl⟩
      have hb3 : Below w2.heap.size w2 w3 := by rw [hw3]; exact (Below.refl _ _).alloc (Nat.le_refl _) _
      have hat : At w3 w2.heap.size 0 f D dc S sc := by rw [hw3]; exact at_box w2 f D dc S sc 27
      have L3 := Lib.hid (hl2.step hb3)
      have B3 := Lib.hid (below_trans' B1.out (below_trans' hb2 hb3))
      have A3 := Lib.hid hat
      have C3 := Lib.hid (encode_any (.agg #[.int .i64 f.kind, .int .u64 (f.id : Int), .int .u64 (f.off : Int), .int .u64 (f.max : Int), .int .u64 (f.code : Int), .int .u64 (f.delay : Int), .int .u64 (f.ce : Int), .bool f.fin, .slice D f.data.length dc, .slice S f.spans.length sc]) f w3 (Lies.fv L3.out) HF.out.2.1 (two_le (tabs_below HT.out B3.out)) (tabs_below HT.out B3.out))
      unfold EncAt at C3
      rw [ferr_ok HF.out.1] at C3
      simp only [farr] at hw3 ⊢
      clear hl2 hb2 hb3 hat C2
      have k0 := A3.out.c0
      have k1 := A3.out.c1
      have k2 := A3.out.c2
      have k3 := A3.out.c3
      have k4 := A3.out.c4
      have k5 := A3.out.c5
      have k6 := A3.out.c6
      have k7 := A3.out.c7
      have k8 := A3.out.c8
      have k9 := A3.out.c9
      simp only [Nat.zero_add] at k0 k1 k2 k3 k4 k5 k6 k7 k8 k9
      have z3 : w3.heap.size = w2.heap.size + 1 := by rw [hw3]; simp
      have Z3 := Lib.hid z3
      clear z3
      go_upto_region 9 with fail
      rw [← hw3]
      clear hw3
      go_wp2_with fail
      refine (C3.out).mono ?_
      rintro e w4 ⟨v4, rfl, ⟨A4, n4, c4, rfl, hn4, -, -, -, -⟩, hb4⟩
      rw [← HM.out] at hn4
      subst hn4
      have B4 := Lib.hid (below_trans' B3.out hb4)
      have A4' := Lib.hid (A3.out.below hb4)
      have L4 := Lib.hid (L3.out.step hb4)
      have C4 := Lib.hid (PA.out w4 B4.out (xs.take k) k (by rw [List.length_take, ← HN.out]; omega) r4 (HX.out.take k) (HR.out.take k))
      unfold ParseAt at C4
      have e4 : Wig.perr (xs.take k) = 50 := by unfold Wig.perr; rw [HF.out.2.2 k HKS.out]
      rw [e4] at C4
      generalize Wig.plen (xs.take k) = pl at *
      generalize Wig.pfr (xs.take k) = f4 at *
      clear hb4 e4 C3 k0 k1 k2 k3 k4 k5 k6 k7 k8 k9
      go_wp2_with fail
      refine (C4.out).mono ?_
      rintro e w5 ⟨D5, dc5, S5, sc5, rfl, -, hb5, -, -⟩
      obtain ⟨w6, hw6⟩ : ∃ w6, w6 = w5.alloc (.cells (farr f4 D5 dc5 S5 sc5) 27) := ⟨_, rfl⟩
      have hb6 : Below w5.heap.size w5 w6 := by rw [hw6]; exact (Below.refl _ _).alloc (Nat.le_refl _) _
      have hn6 := below_trans' hb5 hb6
      have B6 := Lib.hid (below_trans' B4.out hn6)
      have L6 := Lib.hid (L4.out.step hn6)
      have A6 := Lib.hid (A4'.out.below hn6)
      have C6 := Lib.hid (check_any (.agg #[.int .i64 f.kind, .int .u64 (f.id : Int), .int .u64 (f.off : Int), .int .u64 (f.max : Int), .int .u64 (f.code : Int), .int .u64 (f.delay : Int), .int .u64 (f.ce : Int), .bool f.fin, .slice D f.data.length dc, .slice S f.spans.length sc]) f w6 (Lies.fv L6.out) (HF.out.2.1.num 1) (tabs_below HT.out B6.out).2)
      rw [ferr_ok HF.out.1] at C6
      simp only [farr] at hw6 ⊢
      clear hb5 hb6 hn6 C4
      have k0 := A6.out.c0
      have k1 := A6.out.c1
      have k2 := A6.out.c2
      have k3 := A6.out.c3
      have k4 := A6.out.c4
      have k5 := A6.out.c5
      have k6 := A6.out.c6
      have k7 := A6.out.c7
      have k8 := A6.out.c8
      have k9 := A6.out.c9
      simp only [Nat.zero_add] at k0 k1 k2 k3 k4 k5 k6 k7 k8 k9
      go_upto_region 13 with fail
      rw [← hw6]
      clear hw6
      go_wp2_with fail
      refine (C6.out).mono ?_
      rintro e w7 ⟨rfl, hb7⟩
      have R := Lib.hid (below_trans' B6.out hb7)
      clear hb7
      go_wp2_with fail
      go_ret
      exact ⟨rfl, R.out⟩

set_option maxRecDepth 100000 in
theorem lifted (os : Os) (started : os.Started) (H : Type) (enc : TypeId × Value → H) :
    ReturnsInHanded {} Tryd.checked os 7 .any (fun w args => (Rows.frameFineSpec.pre enc Tryd.prog Tryd.f7 [] false w args ∧ laidMetH Tryd.prog laidList w) ∧ sizedMet enc Tryd.prog Tryd.f7 (OpenSpec.ofChange Rows.frameFineSpec) false w args)
      (Rows.frameFineSpec.post enc Tryd.prog Tryd.f7 false true false false) := by
  refine returnsInHanded_of_change_and (C := Tryd.checked) (X := fun w _ => laidMetH Tryd.prog laidList w) (fun _ _ _ hh h => h.of_heap hh) own started (by kernel_rfl) Tryd.func7
    (ChangeSpec.witness_shaped (enc := enc) (C := Tryd.checked) (os := os) (X := fun w _ => laidMetH Tryd.prog laidList w) false (World.doorLaid Tryd.prog 400 os) #[.slice none 0 0, .int .i64 0] 8 rfl (World.shaped_of_RefB (by kernel_rfl) (by kernel_rfl)) (by kernel_rfl) (by kernel_rfl) (by kernel_rfl) (door_met os _)) ?_
  intro W base args ds gs before hval0 hW _ _ hL _
  have hval : ∀ (j : Nat) t v, Tryd.f7.params[j]? = some t → args[j]? = some v → Value.okWide Tryd.prog W .any base t v := hval0
  have hW' := hW
  obtain ⟨p, q, hA0, hV, rfl, hfz, hnd⟩ := hW
  have hA : DataW.TrodAll enc Tryd.prog W 0 (fun _ => true) true Tryd.f7.params.toList args.toList ds p := hA0
  obtain ⟨rfl, rfl⟩ := trodVars_none hV
  simp only [List.append_nil] at hW'
  have hlow : ∀ x ∈ p, x.block < W.heap.size := fun x hx => hW'.lt x hx
  have hA2 := hA
  rw [Tryd.params7] at hval hA2
  obtain ⟨v0, vs0, d0, ds0, p0, q0, hargs, rfl, rfl, h0, r0⟩ := trodAll_cons hA2
  obtain ⟨v1, vs1, d1, ds1, p1, q1, rfl, rfl, rfl, h1, r1⟩ := trodAll_cons r0
  obtain ⟨rfl, rfl, rfl⟩ := trodAll_nil r1
  obtain rfl : args = #[v0, v1] := by cases args; simp_all
  obtain ⟨A0, c0, xs0, rfl, hx0, hr0, hl0, hm0⟩ := open_row 256 Tryd.underlying24 Tryd.underlying5 (by kernel_rfl) (by intro x h; simp [Lit.wf, IntKind.min, IntKind.max, IntKind.signed, IntKind.bits] at h; omega) (hval 0 24 v0 rfl rfl) h0 (fun x hx => hlow x (by simp [hx]))
  obtain ⟨i1, rfl, hi1, hj1⟩ := open_i64 Tryd.underlying3 (hval 1 3 v1 rfl rfl) h1
  refine (walk A0 c0 xs0 i1 hx0 hl0 hm0 hi1 hj1 W hr0 (tab_of_laid hL)).mono fun e W' ⟨he, hg⟩ => ?_
  subst he
  exact ⟨_, rfl, law_true laid_out (by kernel_rfl) rfl Tryd.underlying4 (by kernel_rfl) hW' hA rfl rfl rfl hg⟩

theorem over : Rows.frameFineRow.holds Tryd.pinned (OpenSpec.ofChange Rows.frameFineSpec) :=
  OpenClaim.holds_of_wide 7 Tryd.f7 rfl rfl rfl rfl rfl rfl rfl ⟨rfl, rfl, rfl, rfl, rfl⟩ rfl rfl rfl rfl rfl (by kernel_rfl) Tryd.func7 (by kernel_rfl)
    (of_decide_eq_true (by kernel_rfl)) (by unfold Func.isWrapper; first | (rw [if_pos (by decide +kernel)]; kernel_rfl) | (rw [if_neg (by decide +kernel)]; exact ⟨rfl, rfl⟩))
    (fun os started H enc _ => lifted os started H enc)

/-- The statement: the card of it, its table tied to the program. -/
theorem proved : Rows.FrameFineCardSaid :=
  Claim7.holds_tied_plain_at .later [] [.data, .data] true (true, "0af932781d631ec6309ac614fc16388e853ea07b11500c9c71507fb84789da2f") true
    over (fun _ h => by cases h) (by kernel_rfl) (fun _ h => by cases h) frameFine_row_tie rfl ⟨rfl, rfl⟩ (by kernel_rfl) rfl
    (fun f fn hf hfn => by
      obtain rfl : f = 7 := Option.some.inj ((show Tryd.prog.funcNamed "wigwag/wigwaglaw05.FrameFine" = some 7 by kernel_rfl).symm.trans hf) |>.symm
      obtain rfl : fn = Tryd.f7 := (Option.some.inj (Tryd.func7.symm.trans hfn)).symm
      exact ⟨by kernel_rfl, fun j t ht => by
        rw [Tryd.params7] at ht
        have hm : t ∈ [24, 3] := by simpa using Array.mem_of_getElem? ht
        have hall : ([24, 3].all fun u => !Tryd.prog.wantsStandIn u) = true := by kernel_rfl
        exact (show Tryd.prog.wantsStandIn t = false by simpa using List.all_eq_true.1 hall t hm)⟩)
    (by kernel_rfl)
end Go.Proofs.YtfclfnpihmhcjaaDoor.frameFine
