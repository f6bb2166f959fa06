/-
  FiltAgain: a sample that is put in twice is put in once, whatever the list of at most three hundred samples. No condition.
-/
import Derived.Test.YtmfldjdkmfpdkaaFiltW
import Derived.Test.YtmfldjdkmfpdkaaOpen
namespace Wig
theorem pushed_again (great : Bool) (win : Nat) (s : Smp) (ss : List Smp) : pushed great win s (pushed great win s ss) = pushed great win s ss := by
  have h1 : better great s.2 s.2 = false := by cases great <;> simp [better]
  have h2 : stays great win s s = false := by simp [stays, h1]
  simp [pushed, kept, List.filter_append, List.filter_filter, h2]
end Wig
namespace Go.Proofs.Ytmfldjdkmfpdkaa.filtAgain
open Go.ChangeShapes Go.WideShapes Go.ChangeAt Go.RowKit Go.Deep
set_option linter.unusedVariables false

set_option maxHeartbeats 2000000 in
theorem walk (A : Option Addr) (c : Nat) (ss : List Wig.Smp) (win s0 s1 : Nat) (hf : Wig.Fits ss) (hl : ss.length ≤ maxLen) (hw : win < 18446744073709551616) (hs0 : s0 < 18446744073709551616) (hs1 : s1 < 18446744073709551616)
    (w : World) (hr : Rd w w.heap.size A ss) :
    Calls Try.prog 6 #[.slice A ss.length c, .int .u64 (win : Int), .agg #[.int .u64 (s0 : Int), .int .u64 (s1 : Int)]] w fun e w' => e = .returned (.bool true) ∧ Below w.heap.size w w' := by
  obtain ⟨n, hn⟩ : ∃ n, n = ss.length := ⟨_, rfl⟩
  rw [← hn] at hl ⊢
  obtain ⟨wb, hwb⟩ : ∃ wb, wb = w.alloc (.cells #[.int .u64 (s0 : Int), .int .u64 (s1 : Int)] 25) := ⟨_, rfl⟩
  have hB1 : Below w.heap.size w wb := by rw [hwb]; exact (Below.refl _ _).alloc (Nat.le_refl _) _
  have hsz : wb.heap.size = w.heap.size + 1 := by rw [hwb]; simp
  have k0 : wb.cell? ⟨w.heap.size, 0, none⟩ = some (.int .u64 (s0 : Int)) := by rw [hwb, World.cell?_alloc_at _ _ _ _ rfl]; rfl
  have k1 : wb.cell? ⟨w.heap.size, 1, none⟩ = some (.int .u64 (s1 : Int)) := by rw [hwb, World.cell?_alloc_at _ _ _ _ rfl]; rfl
  have HR := Lib.hid ((hr.below hB1).wide (B' := wb.heap.size) (by omega))
  have C0 := Lib.hid (fun w => awake_any w)
  have KS := Lib.hid hsz
  have KB1 := Lib.hid hB1
  have K0 := Lib.hid k0
  have K1 := Lib.hid k1
  by_cases h300 : n ≤ 300
  · obtain ⟨r1, hr1⟩ : ∃ r1, r1 = Wig.pushed true win (s0, s1) ss := ⟨_, rfl⟩
    obtain ⟨r2, hr2⟩ : ∃ r2, r2 = Wig.pushed false win (s0, s1) ss := ⟨_, rfl⟩
    obtain ⟨m1, hm1⟩ : ∃ m1, m1 = r1.length := ⟨_, rfl⟩
    obtain ⟨m2, hm2⟩ : ∃ m2, m2 = r2.length := ⟨_, rfl⟩
    have b1 : m1 ≤ 301 := by have := Wig.pushed_le true win (s0, s1) ss; rw [← hr1] at this; omega
    have b2 : m2 ≤ 301 := by have := Wig.pushed_le false win (s0, s1) ss; rw [← hr2] at this; omega
    have f1 : Wig.Fits r1 := by rw [hr1]; exact Wig.pushed_fits hf ⟨hs0, hs1⟩
    have f2 : Wig.Fits r2 := by rw [hr2]; exact Wig.pushed_fits hf ⟨hs0, hs1⟩
    have g1 : Wig.pushed true win (s0, s1) r1 = r1 := by rw [hr1]; exact Wig.pushed_again _ _ _ _
    have g2 : Wig.pushed false win (s0, s1) r2 = r2 := by rw [hr2]; exact Wig.pushed_again _ _ _ _
    have CA := Lib.hid (fun w' h => pushMax_gives win s0 s1 ss r1 n m1 A c w' hn.symm hm1.symm (by omega) hf h hw hs0 hs1 hr1.symm)
    have CB := Lib.hid (fun w' h => pushMin_gives win s0 s1 ss r2 n m2 A c w' hn.symm hm2.symm (by omega) hf h hw hs0 hs1 hr2.symm)
    have CC := Lib.hid (fun A c w' h => pushMax_gives win s0 s1 r1 r1 m1 m1 A c w' hm1.symm hm1.symm (by omega) f1 h hw hs0 hs1 g1)
    have CD := Lib.hid (fun A c w' h => pushMin_gives win s0 s1 r2 r2 m2 m2 A c w' hm2.symm hm2.symm (by omega) f2 h hw hs0 hs1 g2)
    have CE := Lib.hid (fun A B c d w' => same_lit r1 r1 m1 m1 A B c d w' rfl hm1.symm hm1.symm (by omega))
    have CF := Lib.hid (fun A B c d w' => same_lit r2 r2 m2 m2 A B c d w' rfl hm2.symm hm2.symm (by omega))
    clear hr1 hr2 hm1 hm2 b1 b2 f1 f2 g1 g2 hf hl hw hs0 hs1 hr hn hB1 hsz k0 k1
    go_enter Try.func6, Try.ntmps6
    go_wp2_with fail
    rw [← hwb]
    clear hwb
    refine (C0.out _).mono ?_
    rintro e w1 ⟨rfl, hb1⟩
    have BB := Lib.hid hb1
    have q0 := (hb1.cell (p := ⟨w.heap.size, 0, none⟩) (by have := KS.out; simp; omega)).trans K0.out
    have q1 := (hb1.cell (p := ⟨w.heap.size, 1, none⟩) (by have := KS.out; simp; omega)).trans K1.out
    have QB := Lib.hid (show w.heap.size < w1.heap.size by have := KS.out; have := hb1.size; omega)
    have RL1 := Lib.hid ((HR.out.below hb1).wide hb1.size)
    clear hb1
    go_wp2_with fail
    refine (CA.out _ RL1.out).mono ?_
    rintro e w2 ⟨Aa, ca, rfl, hx, hbx, -⟩
    have RL2 := Lib.hid ((RL1.out.below hbx).wide hbx.size)
    have Ra2 := Lib.hid hx
    clear hx
    replace q0 := (hbx.cell (p := ⟨w.heap.size, 0, none⟩) QB.out).trans q0
    replace q1 := (hbx.cell (p := ⟨w.heap.size, 1, none⟩) QB.out).trans q1
    replace QB := Lib.hid (Nat.lt_of_lt_of_le QB.out hbx.size)
    replace BB := Lib.hid (below_trans' BB.out hbx)
    clear hbx
    go_wp2_with fail
    refine (CB.out _ RL2.out).mono ?_
    rintro e w3 ⟨Ab, cb, rfl, hx, hbx, -⟩
    have RL3 := Lib.hid ((RL2.out.below hbx).wide hbx.size)
    have Ra3 := Lib.hid ((Ra2.out.below hbx).wide hbx.size)
    have Rb3 := Lib.hid hx
    clear hx
    replace q0 := (hbx.cell (p := ⟨w.heap.size, 0, none⟩) QB.out).trans q0
    replace q1 := (hbx.cell (p := ⟨w.heap.size, 1, none⟩) QB.out).trans q1
    replace QB := Lib.hid (Nat.lt_of_lt_of_le QB.out hbx.size)
    replace BB := Lib.hid (below_trans' BB.out hbx)
    clear hbx
    go_wp2_with fail
    refine (CC.out _ _ _ Ra3.out).mono ?_
    rintro e w4 ⟨Ax, cx, rfl, hx, hbx, -⟩
    have RL4 := Lib.hid ((RL3.out.below hbx).wide hbx.size)
    have Ra4 := Lib.hid ((Ra3.out.below hbx).wide hbx.size)
    have Rb4 := Lib.hid ((Rb3.out.below hbx).wide hbx.size)
    have Rx4 := Lib.hid hx
    clear hx
    replace q0 := (hbx.cell (p := ⟨w.heap.size, 0, none⟩) QB.out).trans q0
    replace q1 := (hbx.cell (p := ⟨w.heap.size, 1, none⟩) QB.out).trans q1
    replace QB := Lib.hid (Nat.lt_of_lt_of_le QB.out hbx.size)
    replace BB := Lib.hid (below_trans' BB.out hbx)
    clear hbx
    go_wp2_with fail
    refine (CE.out _ _ _ _ _ Rx4.out Ra4.out).mono ?_
    rintro e wz ⟨rfl, kk, rfl⟩
    obtain ⟨w5, hwx⟩ : ∃ w5, w5 = w4.drewN kk := ⟨_, rfl⟩
    have hbx : Below w4.heap.size w4 w5 := by rw [hwx]; exact below_drewN' (Below.refl _ _) _
    rw [← hwx]
    clear hwx
    have RL5 := Lib.hid ((RL4.out.below hbx).wide hbx.size)
    have Ra5 := Lib.hid ((Ra4.out.below hbx).wide hbx.size)
    have Rb5 := Lib.hid ((Rb4.out.below hbx).wide hbx.size)
    have Rx5 := Lib.hid ((Rx4.out.below hbx).wide hbx.size)
    replace q0 := (hbx.cell (p := ⟨w.heap.size, 0, none⟩) QB.out).trans q0
    replace q1 := (hbx.cell (p := ⟨w.heap.size, 1, none⟩) QB.out).trans q1
    replace QB := Lib.hid (Nat.lt_of_lt_of_le QB.out hbx.size)
    replace BB := Lib.hid (below_trans' BB.out hbx)
    clear hbx
    go_wp2_with fail
    refine (CD.out _ _ _ Rb5.out).mono ?_
    rintro e w6 ⟨Ay, cy, rfl, hx, hbx, -⟩
    have RL6 := Lib.hid ((RL5.out.below hbx).wide hbx.size)
    have Ra6 := Lib.hid ((Ra5.out.below hbx).wide hbx.size)
    have Rb6 := Lib.hid ((Rb5.out.below hbx).wide hbx.size)
    have Rx6 := Lib.hid ((Rx5.out.below hbx).wide hbx.size)
    have Ry6 := Lib.hid hx
    clear hx
    replace q0 := (hbx.cell (p := ⟨w.heap.size, 0, none⟩) QB.out).trans q0
    replace q1 := (hbx.cell (p := ⟨w.heap.size, 1, none⟩) QB.out).trans q1
    replace QB := Lib.hid (Nat.lt_of_lt_of_le QB.out hbx.size)
    replace BB := Lib.hid (below_trans' BB.out hbx)
    clear hbx
    go_wp2_with fail
    refine (CF.out _ _ _ _ _ Ry6.out Rb6.out).mono ?_
    rintro e wz ⟨rfl, kk, rfl⟩
    obtain ⟨w7, hwx⟩ : ∃ w7, w7 = w6.drewN kk := ⟨_, rfl⟩
    have hbx : Below w6.heap.size w6 w7 := by rw [hwx]; exact below_drewN' (Below.refl _ _) _
    rw [← hwx]
    clear hwx
    have RL7 := Lib.hid ((RL6.out.below hbx).wide hbx.size)
    have Ra7 := Lib.hid ((Ra6.out.below hbx).wide hbx.size)
    have Rb7 := Lib.hid ((Rb6.out.below hbx).wide hbx.size)
    have Rx7 := Lib.hid ((Rx6.out.below hbx).wide hbx.size)
    have Ry7 := Lib.hid ((Ry6.out.below hbx).wide hbx.size)
    replace q0 := (hbx.cell (p := ⟨w.heap.size, 0, none⟩) QB.out).trans q0
    replace q1 := (hbx.cell (p := ⟨w.heap.size, 1, none⟩) QB.out).trans q1
    replace QB := Lib.hid (Nat.lt_of_lt_of_le QB.out hbx.size)
    replace BB := Lib.hid (below_trans' BB.out hbx)
    clear hbx
    go_wp2_with fail
    go_ret
    exact ⟨rfl, KB1.out.trans (BB.out.mono (by have := KS.out; omega))⟩
  · have h300' : decide ((300 : Int) < (n : Int)) = true := decide_eq_true (by omega)
    clear hf hl hw hs0 hs1 hr hn hB1 hsz k0 k1 h300
    go_enter Try.func6, Try.ntmps6
    go_wp2_with fail
    rw [← hwb]
    clear hwb
    refine (C0.out _).mono ?_
    rintro e w1 ⟨rfl, hb1⟩
    have B1 := Lib.hid hb1
    clear hb1
    go_wp2_with fail
    go_ret
    refine ⟨rfl, KB1.out.trans (B1.out.mono (by have := KS.out; omega))⟩

set_option maxRecDepth 100000 in
theorem lifted (os : Os) (started : os.Started) (H : Type) (enc : TypeId × Value → H) :
    ReturnsInHanded {} Try.checked os 6 .any (Rows.filtAgainSpec.pre6 enc Try.prog Try.f6 Rows.filtAgainRow.domain false) (Rows.filtAgainSpec.post enc Try.prog Try.f6 false true false false) := by
  refine returnsInHanded_of_change (C := Try.checked) own started (by kernel_rfl) Try.func6
    (ChangeSpec.witness6 (enc := enc) (C := Try.checked) false ⟨#[], #[.slice none 0 0, .int .u64 0, .agg #[.int .u64 0, .int .u64 0]], []⟩ 8 (by kernel_rfl) (by kernel_rfl) (by kernel_rfl) (by kernel_rfl)) ?_
  intro W base args ds gs before hval0 hW hcnd _
  have hval : ∀ (j : Nat) t v, Try.f6.params[j]? = some t → args[j]? = some v → Value.okWide Try.prog W .any base t v := hval0
  have hW' := hW
  obtain ⟨p, q, hA0, hV, rfl, hfz, hnd⟩ := hW
  have hA : DataW.TrodAll enc Try.prog W 0 (fun _ => true) true Try.f6.params.toList args.toList ds p := hA0
  obtain ⟨rfl, rfl⟩ := trodVars_none hV
  simp only [List.append_nil] at hW'
  have hlow : ∀ x ∈ p, x.block < W.heap.size := fun x hx => hW'.lt x hx
  have hA2 := hA
  rw [Try.params6] at hval hA2
  obtain ⟨v0, vs0, d0, ds0, p0, q0, hargs, rfl, rfl, h0, r0⟩ := trodAll_cons hA2
  obtain ⟨v1, vs1, d1, ds1, p1, q1, rfl, rfl, rfl, h1, r1⟩ := trodAll_cons r0
  obtain ⟨v2, vs2, d2, ds2, p2, q2, rfl, rfl, rfl, h2, r2⟩ := trodAll_cons r1
  obtain ⟨rfl, rfl, rfl⟩ := trodAll_nil r2
  obtain rfl : args = #[v0, v1, v2] := by cases args; simp_all
  obtain ⟨A0, c0, ss0, rfl, hf0, hr0, hl0⟩ := open_samples Try.underlying22 Try.underlying25 (by kernel_rfl) (by kernel_rfl) rfl rfl Try.underlying23 (hval 0 22 v0 rfl rfl) h0 (fun x hx => hlow x (by simp [hx]))
  obtain ⟨n1, rfl, hn1⟩ := open_u64 Try.underlying23 (hval 1 23 v1 rfl rfl) h1
  obtain ⟨a2, b2, rfl, ha2, hb2⟩ := open_two Try.underlying25 (by kernel_rfl) (by kernel_rfl) rfl rfl Try.underlying23 (hval 2 25 v2 rfl rfl) h2
  refine (walk A0 c0 ss0 n1 a2 b2 hf0 hl0 hn1 ha2 hb2 W hr0).mono fun e W' ⟨he, hg⟩ => ?_
  subst he
  exact ⟨_, rfl, law_true laid_out (by kernel_rfl) rfl Try.underlying4 (by kernel_rfl) hW' hA rfl rfl rfl hg⟩

theorem over : Rows.filtAgainRow.holds Try.pinned (OpenSpec.ofChange Rows.filtAgainSpec) :=
  OpenClaim.holds_of_wide 6 Try.f6 rfl rfl rfl rfl rfl rfl rfl ⟨rfl, rfl, rfl, rfl, rfl⟩ rfl rfl rfl rfl rfl (by kernel_rfl) Try.func6 (by kernel_rfl)
    (of_decide_eq_true (by kernel_rfl)) (by unfold Func.isWrapper; first | (rw [if_pos (by decide +kernel)]; kernel_rfl) | (rw [if_neg (by decide +kernel)]; exact ⟨rfl, rfl⟩))
    (fun os started H enc _ => lifted os started H enc)

/-- The statement. -/
theorem proved : Rows.FiltAgainSaid := over
end Go.Proofs.Ytmfldjdkmfpdkaa.filtAgain
