/-
  ProbeTells: any model behind packets that came, and a loss, what the path holds, the window and the rate, are what the document says. Condition: the table of the phases' parts holds what the door laid.
-/
import Derived.Test.YtjojnbeflongkaaDoorPbW
import Derived.Test.YtjojnbeflongkaaDoorOpen
import Derived.Test.YtjojnbeflongkaaDoorPbH
import Derived.Test.YtjojnbeflongkaaDoorOpP
import Derived.Test.YtjojnbeflongkaaDoorGotR
import Derived.Test.YtjojnbeflongkaaDoorLaidP
import Derived.Deep.CutBlock
import Derived.Deep.DeepCutAuto
namespace Go.Proofs.YtjojnbeflongkaaDoor.probeTells
open Go.ChangeShapes Go.WideShapes Go.ChangeAt Go.RowKit Go.Deep
set_option linter.unusedVariables false

set_option maxHeartbeats 16000000 in
theorem walk (s : Int) (A : Option Addr) (c : Nat) (ss : List Wig.Smp) (lo la fu sl ro ph si hi : Nat) (g0 g1 g2 g3 g4 g5 g6 g7 : Nat) (gl gr : Bool) (fl pa : Nat) (hs0 : -9223372036854775808 ≤ s) (hs1 : s ≤ 9223372036854775807) (hf : Wig.Fits ss) (hl : ss.length ≤ maxLen) (hlo : lo < 18446744073709551616) (hla : la < 18446744073709551616) (hfu : fu < 18446744073709551616) (hsl : sl < 18446744073709551616) (hro : ro < 18446744073709551616) (hph : ph < 18446744073709551616) (hsi : si < 18446744073709551616) (hhi : hi < 18446744073709551616) (hg0 : g0 < 18446744073709551616) (hg1 : g1 < 18446744073709551616) (hg2 : g2 < 18446744073709551616) (hg3 : g3 < 18446744073709551616) (hg4 : g4 < 18446744073709551616) (hg5 : g5 < 18446744073709551616) (hg6 : g6 < 18446744073709551616) (hg7 : g7 < 18446744073709551616) (hfl : fl < 18446744073709551616) (hpa : pa < 18446744073709551616) (w : World) (hr : Rd w w.heap.size A ss) (hT : Tab w) :
    Calls Tryd.prog 4 #[aggPb s A ss.length c lo la fu sl ro ph si hi, aggGt g0 g1 g2 g3 g4 g5 g6 g7 gl gr, .int .u64 (fl : Int), .int .u64 (pa : Int)] w fun e w' => e = .returned (.bool true) ∧ Below w.heap.size w w' := by
  have ok : Wig.Pb.Ok ⟨s, ss, lo, la, fu, sl, ro, ph, si, hi⟩ := ⟨hs0, hs1, hf, hlo, hla, hfu, hsl, hro, hph, hsi, hhi⟩
  have C0 := Lib.hid (fun (w0 : World) (hb0 : Below w.heap.size w w0) => awake_any w0 (hT.below hb0))
  obtain ⟨n, hn⟩ : ∃ n, n = ss.length := ⟨_, rfl⟩
  rw [← hn]
  by_cases h100 : 100 < n
  · obtain ⟨w1, hw1⟩ : ∃ wx, wx = w.alloc (.cells #[.int .i64 s, .slice A n c, .int .u64 (lo : Int), .int .u64 (la : Int), .int .u64 (fu : Int), .int .u64 (sl : Int), .int .u64 (ro : Int), .int .u64 (ph : Int), .int .u64 (si : Int), .int .u64 (hi : Int)] 26) := ⟨_, rfl⟩
    have z1 : w1.heap.size = w.heap.size + 1 := by rw [hw1]; simp
    obtain ⟨w2, hw2⟩ : ∃ wx, wx = w1.alloc (.cells #[.int .u64 (g0 : Int), .int .u64 (g1 : Int), .int .u64 (g2 : Int), .int .u64 (g3 : Int), .int .u64 (g4 : Int), .int .u64 (g5 : Int), .int .u64 (g6 : Int), .int .u64 (g7 : Int), .bool gl, .bool gr] 28) := ⟨_, rfl⟩
    have z2 : w2.heap.size = w.heap.size + 2 := by rw [hw2]; simp; omega
    have t2 : Below w2.heap.size w2 w2 := Below.refl _ _
    have t1 : Below w1.heap.size w1 w2 := (show Below w1.heap.size w1 w2 by rw [hw2]; exact (Below.refl _ _).alloc (Nat.le_refl _) _).trans (t2.mono (by omega))
    have t0 : Below w.heap.size w w2 := (show Below w.heap.size w w1 by rw [hw1]; exact (Below.refl _ _).alloc (Nat.le_refl _) _).trans (t1.mono (by omega))
    have BN := Lib.hid t0
    have ZN := Lib.hid z2
    have XP := Lib.hid (show BxPb w.heap.size s A n c lo la fu sl ro ph si hi w2 from (show BxPb w.heap.size s A n c lo la fu sl ro ph si hi w1 by rw [hw1]; exact BxPb.new _ s A n c lo la fu sl ro ph si hi).below t1 (by omega))
    have XG := Lib.hid (show BxGt (w.heap.size + 1) g0 g1 g2 g3 g4 g5 g6 g7 gl gr w2 from (show BxGt (w.heap.size + 1) g0 g1 g2 g3 g4 g5 g6 g7 gl gr w2 by rw [hw2, ← z1]; exact BxGt.new _ g0 g1 g2 g3 g4 g5 g6 g7 gl gr).below t2 (by omega))
    clear t0 t1 t2 z1 z2
    have B2 := BN
    have XP2 := XP
    have SP2 := Lib.hid (show w.heap.size < w2.heap.size by have := ZN.out; omega)
    have GP := Lib.hid (show w.heap.size ≤ w.heap.size by omega)
    have XG2 := XG
    have SG2 := Lib.hid (show (w.heap.size + 1) < w2.heap.size by have := ZN.out; omega)
    have GG := Lib.hid (show w.heap.size ≤ (w.heap.size + 1) by omega)
    have OPG := Lib.hid (show w.heap.size < (w.heap.size + 1) by omega)
    clear ZN BN XP XG
    have t1 : decide ((100 : Int) < (n : Int)) = true := decide_eq_true (by omega)
    clear hs0 hs1 hf hl hlo hla hfu hsl hro hph hsi hhi hg0 hg1 hg2 hg3 hg4 hg5 hg6 hg7 hfl hpa hr hT hn h100 ok
    go_enter Tryd.func4, Tryd.ntmps4
    go_upto_region 1 with fail
    rw [← hw1, ← hw2]
    clear hw1 hw2
    have k1 := XP2.out.c1
    go_wp2_with fail
    refine (C0.out _ B2.out).mono ?_
    rintro e w3 ⟨rfl, hb⟩
    have B3 := Lib.hid (below_trans' B2.out hb)
    have XP3 := Lib.hid (XP2.out.below hb SP2.out)
    have SP3 := Lib.hid (Nat.lt_of_lt_of_le SP2.out hb.size)
    have XG3 := Lib.hid (XG2.out.below hb SG2.out)
    have SG3 := Lib.hid (Nat.lt_of_lt_of_le SG2.out hb.size)
    clear k1
    clear hb B2 XP2 SP2 XG2 SG2
    have k1 := XP3.out.c1
    go_wp2_with fail
    go_ret
    exact ⟨rfl, B3.out⟩
  · obtain ⟨w1, hw1⟩ : ∃ wx, wx = w.alloc (.cells #[.int .i64 s, .slice A n c, .int .u64 (lo : Int), .int .u64 (la : Int), .int .u64 (fu : Int), .int .u64 (sl : Int), .int .u64 (ro : Int), .int .u64 (ph : Int), .int .u64 (si : Int), .int .u64 (hi : Int)] 26) := ⟨_, rfl⟩
    have z1 : w1.heap.size = w.heap.size + 1 := by rw [hw1]; simp
    obtain ⟨w2, hw2⟩ : ∃ wx, wx = w1.alloc (.cells #[.int .u64 (g0 : Int), .int .u64 (g1 : Int), .int .u64 (g2 : Int), .int .u64 (g3 : Int), .int .u64 (g4 : Int), .int .u64 (g5 : Int), .int .u64 (g6 : Int), .int .u64 (g7 : Int), .bool gl, .bool gr] 28) := ⟨_, rfl⟩
    have z2 : w2.heap.size = w.heap.size + 2 := by rw [hw2]; simp; omega
    have t2 : Below w2.heap.size w2 w2 := Below.refl _ _
    have t1 : Below w1.heap.size w1 w2 := (show Below w1.heap.size w1 w2 by rw [hw2]; exact (Below.refl _ _).alloc (Nat.le_refl _) _).trans (t2.mono (by omega))
    have t0 : Below w.heap.size w w2 := (show Below w.heap.size w w1 by rw [hw1]; exact (Below.refl _ _).alloc (Nat.le_refl _) _).trans (t1.mono (by omega))
    have BN := Lib.hid t0
    have ZN := Lib.hid z2
    have XP := Lib.hid (show BxPb w.heap.size s A n c lo la fu sl ro ph si hi w2 from (show BxPb w.heap.size s A n c lo la fu sl ro ph si hi w1 by rw [hw1]; exact BxPb.new _ s A n c lo la fu sl ro ph si hi).below t1 (by omega))
    have XG := Lib.hid (show BxGt (w.heap.size + 1) g0 g1 g2 g3 g4 g5 g6 g7 gl gr w2 from (show BxGt (w.heap.size + 1) g0 g1 g2 g3 g4 g5 g6 g7 gl gr w2 by rw [hw2, ← z1]; exact BxGt.new _ g0 g1 g2 g3 g4 g5 g6 g7 gl gr).below t2 (by omega))
    clear t0 t1 t2 z1 z2
    have B2 := BN
    have XP2 := XP
    have SP2 := Lib.hid (show w.heap.size < w2.heap.size by have := ZN.out; omega)
    have GP := Lib.hid (show w.heap.size ≤ w.heap.size by omega)
    have XG2 := XG
    have SG2 := Lib.hid (show (w.heap.size + 1) < w2.heap.size by have := ZN.out; omega)
    have GG := Lib.hid (show w.heap.size ≤ (w.heap.size + 1) by omega)
    have OPG := Lib.hid (show w.heap.size < (w.heap.size + 1) by omega)
    clear ZN BN XP XG
    have t1 : decide ((100 : Int) < (n : Int)) = false := decide_eq_false (by omega)
    have hR : Rt w 0 w.heap.size A n ss := Rt.of hn.symm (by omega) hf hr
    have hg : Wig.Gt.Ok ⟨g0, g1, g2, g3, g4, g5, g6, g7, gl, gr⟩ := ⟨hg0, hg1, hg2, hg3, hg4, hg5, hg6, hg7⟩
    obtain ⟨⟨xs, xss, xlo, xla, xfu, xsl, xro, xph, xsi, xhi⟩, hack⟩ : ∃ q, Wig.pback ⟨s, ss, lo, la, fu, sl, ro, ph, si, hi⟩ ⟨g0, g1, g2, g3, g4, g5, g6, g7, gl, gr⟩ = q := ⟨_, rfl⟩
    obtain ⟨⟨ls, lss, llo, lla, lfu, lsl, lro, lph, lsi, lhi⟩, hloss⟩ : ∃ q, Wig.pbloss ⟨s, ss, lo, la, fu, sl, ro, ph, si, hi⟩ fl = q := ⟨_, rfl⟩
    have hls := congrArg Wig.Pb.rates hloss
    rw [Wig.pbloss_rates] at hls
    have hls : ss = lss := hls
    subst hls
    obtain ⟨xn, han⟩ : ∃ xn, xss.length = xn := ⟨_, rfl⟩
    obtain ⟨pr, hpr⟩ : ∃ q, Wig.pbprod ⟨s, ss, lo, la, fu, sl, ro, ph, si, hi⟩ pa = q := ⟨_, rfl⟩
    obtain ⟨wi, hwi⟩ : ∃ q, Wig.pbwindow ⟨s, ss, lo, la, fu, sl, ro, ph, si, hi⟩ = q := ⟨_, rfl⟩
    obtain ⟨ra, hra⟩ : ∃ q, Wig.pbrate ⟨s, ss, lo, la, fu, sl, ro, ph, si, hi⟩ = q := ⟨_, rfl⟩
    have C1 := Lib.hid (fun (w0 : World) (hb0 : Below w.heap.size w w0) => ack_any s A n c lo la fu sl ro ph si hi ss g0 g1 g2 g3 g4 g5 g6 g7 gl gr xs xss xlo xla xfu xsl xro xph xsi xhi xn w0 ok (hR.step hb0) hg (by omega) hack han)
    have C2 := Lib.hid (fun (w0 : World) (hb0 : Below w.heap.size w w0) => rack_any s A n c lo la fu sl ro ph si hi ss g0 g1 g2 g3 g4 g5 g6 g7 gl gr xs xss xlo xla xfu xsl xro xph xsi xhi xn w0 ok (hR.step hb0) hg (by omega) hack han)
    have C3 := Lib.hid (fun (w0 : World) (hb0 : Below w.heap.size w w0) => loss_any s A n c lo la fu sl ro ph si hi ss fl ls ss llo lla lfu lsl lro lph lsi lhi w0 ok (hR.step hb0) hfl hloss)
    have C4 := Lib.hid (fun (w0 : World) (hb0 : Below w.heap.size w w0) => rloss_any s A n c lo la fu sl ro ph si hi ss fl ls ss llo lla lfu lsl lro lph lsi lhi w0 ok (hR.step hb0) hfl hloss)
    have CN := Lib.hid (fun w0 => new_any fl w0)
    have CO := Lib.hid (fun w0 => rnew_any fl w0)
    have CS1 := Lib.hid (fun (A1 : Option Addr) (c1 : Nat) (A2 : Option Addr) (c2 : Nat) (w0 : World) (h1 : Rt w0 0 w0.heap.size A1 xn xss) (h2 : Rt w0 0 w0.heap.size A2 xn xss) => rsame_any xs A1 xn c1 xlo xla xfu xsl xro xph xsi xhi xss A2 c2 w0 h1 h2)
    have CS2 := Lib.hid (fun (A1 : Option Addr) (c1 : Nat) (w0 : World) (hb0 : Below w.heap.size w w0) (h1 : Rt w0 0 w0.heap.size A1 n ss) => rsame_any ls A1 n c1 llo lla lfu lsl lro lph lsi lhi ss A c w0 h1 (hR.step hb0))
    have CS3 := Lib.hid (fun (w0 : World) => (show Calls Tryd.prog 10 #[.agg #[.int .i64 0, .slice none 0 0, .int .u64 18446744073709551615, .int .u64 (fl : Int), .int .u64 0, .int .u64 0, .int .u64 0, .int .u64 0, .int .u64 (fl : Int), .int .u64 16777216], .agg #[.int .i64 0, .slice none 0 0, .int .u64 18446744073709551615, .int .u64 (fl : Int), .int .u64 0, .int .u64 0, .int .u64 0, .int .u64 0, .int .u64 (fl : Int), .int .u64 16777216]] w0 fun e w' => e = .returned (.bool true) ∧ Below w0.heap.size w0 w' from rsame_any 0 none 0 0 18446744073709551615 fl 0 0 0 0 fl 16777216 [] none 0 w0 Rt.empty Rt.empty))
    have C5 := Lib.hid (fun (w0 : World) (hb0 : Below w.heap.size w w0) => product_any s A n c lo la fu sl ro ph si hi ss pa pr w0 ok (hR.step hb0) hpa hpr)
    have C6 := Lib.hid (fun (w0 : World) (hb0 : Below w.heap.size w w0) => rproduct_any s A n c lo la fu sl ro ph si hi ss pa pr w0 ok (hR.step hb0) hpa hpr)
    have C7 := Lib.hid (fun (w0 : World) (hb0 : Below w.heap.size w w0) => window_any s A n c lo la fu sl ro ph si hi ss wi w0 ok (hR.step hb0) hwi)
    have C8 := Lib.hid (fun (w0 : World) (hb0 : Below w.heap.size w w0) => rwindow_any s A n c lo la fu sl ro ph si hi ss wi w0 ok (hR.step hb0) hwi)
    have C9 := Lib.hid (fun (w0 : World) (hb0 : Below w.heap.size w w0) => rate_any s A n c lo la fu sl ro ph si hi ss ra w0 ok (hR.step hb0) (hT.below hb0) hra)
    have C10 := Lib.hid (fun (w0 : World) (hb0 : Below w.heap.size w w0) => rrate_any s A n c lo la fu sl ro ph si hi ss ra w0 ok (hR.step hb0) hra)
    clear hs0 hs1 hf hl hlo hla hfu hsl hro hph hsi hhi hg0 hg1 hg2 hg3 hg4 hg5 hg6 hg7 hfl hpa hr hT hn h100 ok hR hg hack hloss han hpr hwi hra
    go_enter Tryd.func4, Tryd.ntmps4
    go_upto_region 1 with fail
    rw [← hw1, ← hw2]
    clear hw1 hw2
    have k1 := XP2.out.c1
    go_wp2_with fail
    refine (C0.out _ B2.out).mono ?_
    rintro e w3 ⟨rfl, hb⟩
    have B3 := Lib.hid (below_trans' B2.out hb)
    have XP3 := Lib.hid (XP2.out.below hb SP2.out)
    have SP3 := Lib.hid (Nat.lt_of_lt_of_le SP2.out hb.size)
    have XG3 := Lib.hid (XG2.out.below hb SG2.out)
    have SG3 := Lib.hid (Nat.lt_of_lt_of_le SG2.out hb.size)
    clear k1
    clear hb B2 XP2 SP2 XG2 SG2
    have k1 := XP3.out.c1
    go_wp2_with fail
    clear k1
    refine wp_region_held_drew (S := fun wx => BxPb w.heap.size s A n c lo la fu sl ro ph si hi wx ∧ BxGt (w.heap.size + 1) g0 g1 g2 g3 g4 g5 g6 g7 gl gr wx ∧ Below w3.heap.size w3 wx) (by kernel_rfl) ?_ (fun hHeld => ?_)
    · exact ⟨XP3.out.drew, XG3.out.drew, (Below.refl _ _).drew⟩
    refine held_take (v := .agg #[.int .i64 s, .slice A n c, .int .u64 (lo : Int), .int .u64 (la : Int), .int .u64 (fu : Int), .int .u64 (sl : Int), .int .u64 (ro : Int), .int .u64 (ph : Int), .int .u64 (si : Int), .int .u64 (hi : Int)]) 0 rfl (by kernel_rfl) (by kernel_rfl) (by kernel_rfl) (fun _ _ _ h => h) (by rfl) (fun wx hSw => by obtain ⟨c0, c1, c2, c3, c4, c5, c6, c7, c8, c9, -, -, -, -, -, -, -, -, -, -⟩ := hSw.1; clear hSw; go_simp) (by assumption) ?_
    try simp only [Act.put, List.setIfInBounds_toArray, List.set_cons_zero, List.set_cons_succ]
    refine held_take (v := .agg #[.int .u64 (g0 : Int), .int .u64 (g1 : Int), .int .u64 (g2 : Int), .int .u64 (g3 : Int), .int .u64 (g4 : Int), .int .u64 (g5 : Int), .int .u64 (g6 : Int), .int .u64 (g7 : Int), .bool gl, .bool gr]) 1 rfl (by kernel_rfl) (by kernel_rfl) (by kernel_rfl) (fun _ _ _ h => h) (by rfl) (fun wx hSw => by obtain ⟨c0, c1, c2, c3, c4, c5, c6, c7, c8, c9, -, -, -, -, -, -, -, -, -, -⟩ := hSw.2.1; clear hSw; go_simp) (by assumption) ?_
    try simp only [Act.put, List.setIfInBounds_toArray, List.set_cons_zero, List.set_cons_succ]
    refine held_take (v := .agg #[.int .i64 s, .slice A n c, .int .u64 (lo : Int), .int .u64 (la : Int), .int .u64 (fu : Int), .int .u64 (sl : Int), .int .u64 (ro : Int), .int .u64 (ph : Int), .int .u64 (si : Int), .int .u64 (hi : Int)]) 3 rfl (by kernel_rfl) (by kernel_rfl) (by kernel_rfl) (fun _ _ _ h => h) (by rfl) (fun wx hSw => by obtain ⟨c0, c1, c2, c3, c4, c5, c6, c7, c8, c9, -, -, -, -, -, -, -, -, -, -⟩ := hSw.1; clear hSw; go_simp) (by assumption) ?_
    try simp only [Act.put, List.setIfInBounds_toArray, List.set_cons_zero, List.set_cons_succ]
    refine held_take (v := .agg #[.int .u64 (g0 : Int), .int .u64 (g1 : Int), .int .u64 (g2 : Int), .int .u64 (g3 : Int), .int .u64 (g4 : Int), .int .u64 (g5 : Int), .int .u64 (g6 : Int), .int .u64 (g7 : Int), .bool gl, .bool gr]) 4 rfl (by kernel_rfl) (by kernel_rfl) (by kernel_rfl) (fun _ _ _ h => h) (by rfl) (fun wx hSw => by obtain ⟨c0, c1, c2, c3, c4, c5, c6, c7, c8, c9, -, -, -, -, -, -, -, -, -, -⟩ := hSw.2.1; clear hSw; go_simp) (by assumption) ?_
    try simp only [Act.put, List.setIfInBounds_toArray, List.set_cons_zero, List.set_cons_succ]
    refine held_do 2 rfl (by kernel_rfl) (by rfl) (fun K hK => ?_)
    go_wp2_with (go_at_call 11; refine (C1.out _ (below_trans' B3.out hHeld.2.2)).mono ?_; rintro e w4 ⟨A1, c1, rfl, hr1, hb4⟩; have K4 := Lib.hid (Below.trans hHeld.2.2 (hb4.mono hHeld.2.2.size)); clear hb4)
    refine hK.out _ _ ?_ (fun hHeld => ?_)
    · exact ⟨XP3.out.below K4.out SP3.out, XG3.out.below K4.out SG3.out, K4.out⟩
    clear hK K
    try simp only [Act.put, List.setIfInBounds_toArray, List.set_cons_zero, List.set_cons_succ]
    refine held_do 5 rfl (by kernel_rfl) (by rfl) (fun K hK => ?_)
    go_wp2_with (go_at_call 12; refine (C2.out _ (below_trans' B3.out hHeld.2.2)).mono ?_; rintro e w5 ⟨A2, c2, rfl, hr2, hb5⟩; have K5 := Lib.hid (Below.trans hHeld.2.2 (hb5.mono hHeld.2.2.size)); have HR1 := Lib.hid (hr1.low.step hb5); clear hr1; clear hb5)
    refine hK.out _ _ ?_ (fun hHeld => ?_)
    · exact ⟨XP3.out.below K5.out SP3.out, XG3.out.below K5.out SG3.out, K5.out⟩
    clear hK K
    try simp only [Act.put, List.setIfInBounds_toArray, List.set_cons_zero, List.set_cons_succ]
    refine held_do 6 rfl (by kernel_rfl) (by rfl) (fun K hK => ?_)
    go_wp2_with (go_at_call 10; refine (CS1.out _ _ _ _ _ HR1.out hr2.low).mono ?_; rintro e w6 ⟨rfl, hb6⟩; have K6 := Lib.hid (Below.trans hHeld.2.2 (hb6.mono hHeld.2.2.size)); clear hb6)
    refine hK.out _ _ ?_ (fun hHeld => ?_)
    · exact ⟨XP3.out.below K6.out SP3.out, XG3.out.below K6.out SG3.out, K6.out⟩
    clear hK K
    try simp only [Act.put, List.setIfInBounds_toArray, List.set_cons_zero, List.set_cons_succ]
    refine held_take (v := ?vv108) 7 rfl (by kernel_rfl) (by kernel_rfl) (by kernel_rfl) (fun _ _ _ h => h) (by rfl) ?yy108 (by assumption) ?nn108
    case yy108 =>
      intro w hSw
      (try dsimp only at hSw)
      go_simp
      try with_reducible rfl
    try simp only [Act.put, List.setIfInBounds_toArray, List.set_cons_zero, List.set_cons_succ]
    refine wpAnyH_done (by kernel_rfl) ?_ _
    clear hHeld
    have B6 := Lib.hid (below_trans' B3.out K6.out)
    have XP6 := Lib.hid (XP3.out.below K6.out SP3.out)
    have SP6 := Lib.hid (Nat.lt_of_lt_of_le SP3.out K6.out.size)
    have XG6 := Lib.hid (XG3.out.below K6.out SG3.out)
    have SG6 := Lib.hid (Nat.lt_of_lt_of_le SG3.out K6.out.size)
    clear B3 XP3 SP3 XG3 SG3
    clear HR1 hr2
    go_wp2_with fail
    refine wp_region_held_drew (S := fun wx => BxPb w.heap.size s A n c lo la fu sl ro ph si hi wx ∧ BxGt (w.heap.size + 1) g0 g1 g2 g3 g4 g5 g6 g7 gl gr wx ∧ Below w6.heap.size w6 wx) (by kernel_rfl) ?_ (fun hHeld => ?_)
    · exact ⟨XP6.out.drew, XG6.out.drew, (Below.refl _ _).drew⟩
    refine held_take (v := .agg #[.int .i64 s, .slice A n c, .int .u64 (lo : Int), .int .u64 (la : Int), .int .u64 (fu : Int), .int .u64 (sl : Int), .int .u64 (ro : Int), .int .u64 (ph : Int), .int .u64 (si : Int), .int .u64 (hi : Int)]) 0 rfl (by kernel_rfl) (by kernel_rfl) (by kernel_rfl) (fun _ _ _ h => h) (by rfl) (fun wx hSw => by obtain ⟨c0, c1, c2, c3, c4, c5, c6, c7, c8, c9, -, -, -, -, -, -, -, -, -, -⟩ := hSw.1; clear hSw; go_simp) (by assumption) ?_
    try simp only [Act.put, List.setIfInBounds_toArray, List.set_cons_zero, List.set_cons_succ]
    refine held_take (v := ?vv111) 1 rfl (by kernel_rfl) (by kernel_rfl) (by kernel_rfl) (fun _ _ _ h => h) (by rfl) ?yy111 (by assumption) ?nn111
    case yy111 =>
      intro w hSw
      (try dsimp only at hSw)
      go_simp
      try with_reducible rfl
    try simp only [Act.put, List.setIfInBounds_toArray, List.set_cons_zero, List.set_cons_succ]
    refine held_take (v := .agg #[.int .i64 s, .slice A n c, .int .u64 (lo : Int), .int .u64 (la : Int), .int .u64 (fu : Int), .int .u64 (sl : Int), .int .u64 (ro : Int), .int .u64 (ph : Int), .int .u64 (si : Int), .int .u64 (hi : Int)]) 3 rfl (by kernel_rfl) (by kernel_rfl) (by kernel_rfl) (fun _ _ _ h => h) (by rfl) (fun wx hSw => by obtain ⟨c0, c1, c2, c3, c4, c5, c6, c7, c8, c9, -, -, -, -, -, -, -, -, -, -⟩ := hSw.1; clear hSw; go_simp) (by assumption) ?_
    try simp only [Act.put, List.setIfInBounds_toArray, List.set_cons_zero, List.set_cons_succ]
    refine held_take (v := ?vv113) 4 rfl (by kernel_rfl) (by kernel_rfl) (by kernel_rfl) (fun _ _ _ h => h) (by rfl) ?yy113 (by assumption) ?nn113
    case yy113 =>
      intro w hSw
      (try dsimp only at hSw)
      go_simp
      try with_reducible rfl
    try simp only [Act.put, List.setIfInBounds_toArray, List.set_cons_zero, List.set_cons_succ]
    refine held_do 2 rfl (by kernel_rfl) (by rfl) (fun K hK => ?_)
    go_wp2_with (go_at_call 13; refine (C3.out _ (below_trans' B6.out hHeld.2.2)).mono ?_; rintro e w7 ⟨A3, c3, rfl, hr3, hb7⟩; have K7 := Lib.hid (Below.trans hHeld.2.2 (hb7.mono hHeld.2.2.size)); clear hb7)
    refine hK.out _ _ ?_ (fun hHeld => ?_)
    · exact ⟨XP6.out.below K7.out SP6.out, XG6.out.below K7.out SG6.out, K7.out⟩
    clear hK K
    try simp only [Act.put, List.setIfInBounds_toArray, List.set_cons_zero, List.set_cons_succ]
    refine held_do 5 rfl (by kernel_rfl) (by rfl) (fun K hK => ?_)
    go_wp2_with (go_at_call 14; refine (C4.out _ (below_trans' B6.out hHeld.2.2)).mono ?_; rintro e w8 ⟨rfl, -, hb8⟩; have K8 := Lib.hid (Below.trans hHeld.2.2 (hb8.mono hHeld.2.2.size)); have HR3 := Lib.hid (hr3.low.step hb8); clear hr3; clear hb8)
    refine hK.out _ _ ?_ (fun hHeld => ?_)
    · exact ⟨XP6.out.below K8.out SP6.out, XG6.out.below K8.out SG6.out, K8.out⟩
    clear hK K
    try simp only [Act.put, List.setIfInBounds_toArray, List.set_cons_zero, List.set_cons_succ]
    refine held_do 6 rfl (by kernel_rfl) (by rfl) (fun K hK => ?_)
    go_wp2_with (go_at_call 10; refine (CS2.out _ _ _ (below_trans' B6.out hHeld.2.2) HR3.out).mono ?_; rintro e w9 ⟨rfl, hb9⟩; have K9 := Lib.hid (Below.trans hHeld.2.2 (hb9.mono hHeld.2.2.size)); clear hb9)
    refine hK.out _ _ ?_ (fun hHeld => ?_)
    · exact ⟨XP6.out.below K9.out SP6.out, XG6.out.below K9.out SG6.out, K9.out⟩
    clear hK K
    try simp only [Act.put, List.setIfInBounds_toArray, List.set_cons_zero, List.set_cons_succ]
    refine held_take (v := ?vv117) 7 rfl (by kernel_rfl) (by kernel_rfl) (by kernel_rfl) (fun _ _ _ h => h) (by rfl) ?yy117 (by assumption) ?nn117
    case yy117 =>
      intro w hSw
      (try dsimp only at hSw)
      go_simp
      try with_reducible rfl
    try simp only [Act.put, List.setIfInBounds_toArray, List.set_cons_zero, List.set_cons_succ]
    refine wpAnyH_done (by kernel_rfl) ?_ _
    clear hHeld
    have B9 := Lib.hid (below_trans' B6.out K9.out)
    have XP9 := Lib.hid (XP6.out.below K9.out SP6.out)
    have SP9 := Lib.hid (Nat.lt_of_lt_of_le SP6.out K9.out.size)
    have XG9 := Lib.hid (XG6.out.below K9.out SG6.out)
    have SG9 := Lib.hid (Nat.lt_of_lt_of_le SG6.out K9.out.size)
    clear B6 XP6 SP6 XG6 SG6
    clear HR3
    go_wp2_with fail
    refine (CN.out _).mono ?_
    rintro e w10 ⟨rfl, hb⟩
    have B10 := Lib.hid (below_trans' B9.out hb)
    have XP10 := Lib.hid (XP9.out.below hb SP9.out)
    have SP10 := Lib.hid (Nat.lt_of_lt_of_le SP9.out hb.size)
    have XG10 := Lib.hid (XG9.out.below hb SG9.out)
    have SG10 := Lib.hid (Nat.lt_of_lt_of_le SG9.out hb.size)
    clear hb B9 XP9 SP9 XG9 SG9
    go_wp2_with fail
    refine (CO.out _).mono ?_
    rintro e w11 ⟨rfl, hb⟩
    have B11 := Lib.hid (below_trans' B10.out hb)
    have XP11 := Lib.hid (XP10.out.below hb SP10.out)
    have SP11 := Lib.hid (Nat.lt_of_lt_of_le SP10.out hb.size)
    have XG11 := Lib.hid (XG10.out.below hb SG10.out)
    have SG11 := Lib.hid (Nat.lt_of_lt_of_le SG10.out hb.size)
    clear hb B10 XP10 SP10 XG10 SG10
    go_wp2_with fail
    refine (CS3.out _).mono ?_
    rintro e w12 ⟨rfl, hb⟩
    have B12 := Lib.hid (below_trans' B11.out hb)
    have XP12 := Lib.hid (XP11.out.below hb SP11.out)
    have SP12 := Lib.hid (Nat.lt_of_lt_of_le SP11.out hb.size)
    have XG12 := Lib.hid (XG11.out.below hb SG11.out)
    have SG12 := Lib.hid (Nat.lt_of_lt_of_le SG11.out hb.size)
    clear hb B11 XP11 SP11 XG11 SG11
    go_wp2_with fail
    refine wp_region_held_drew (S := fun wx => BxPb w.heap.size s A n c lo la fu sl ro ph si hi wx ∧ BxGt (w.heap.size + 1) g0 g1 g2 g3 g4 g5 g6 g7 gl gr wx ∧ Below w12.heap.size w12 wx) (by kernel_rfl) ?_ (fun hHeld => ?_)
    · exact ⟨XP12.out.drew, XG12.out.drew, (Below.refl _ _).drew⟩
    refine held_take (v := ?vv119) 0 rfl (by kernel_rfl) (by kernel_rfl) (by kernel_rfl) (fun _ _ _ h => h) (by rfl) ?yy119 (by assumption) ?nn119
    case yy119 =>
      intro w hSw
      (try dsimp only at hSw)
      go_simp
      try with_reducible rfl
    try simp only [Act.put, List.setIfInBounds_toArray, List.set_cons_zero, List.set_cons_succ]
    refine held_take (v := ?vv120) 1 rfl (by kernel_rfl) (by kernel_rfl) (by kernel_rfl) (fun _ _ _ h => h) (by rfl) ?yy120 (by assumption) ?nn120
    case yy120 =>
      intro w hSw
      (try dsimp only at hSw)
      go_simp
      try with_reducible rfl
    try simp only [Act.put, List.setIfInBounds_toArray, List.set_cons_zero, List.set_cons_succ]
    refine held_take (v := ?vv121) 2 rfl (by kernel_rfl) (by kernel_rfl) (by kernel_rfl) (fun _ _ _ h => h) (by rfl) ?yy121 (by assumption) ?nn121
    case yy121 =>
      intro w hSw
      (try dsimp only at hSw)
      go_simp
      try with_reducible rfl
    try simp only [Act.put, List.setIfInBounds_toArray, List.set_cons_zero, List.set_cons_succ]
    refine held_take (v := ?vv122) 3 rfl (by kernel_rfl) (by kernel_rfl) (by kernel_rfl) (fun _ _ _ h => h) (by rfl) ?yy122 (by assumption) ?nn122
    case yy122 =>
      intro w hSw
      (try dsimp only at hSw)
      go_simp
      try with_reducible rfl
    try simp only [Act.put, List.setIfInBounds_toArray, List.set_cons_zero, List.set_cons_succ]
    refine held_take (v := ?vv123) 4 rfl (by kernel_rfl) (by kernel_rfl) (by kernel_rfl) (fun _ _ _ h => h) (by rfl) ?yy123 (by assumption) ?nn123
    case yy123 =>
      intro w hSw
      (try dsimp only at hSw)
      go_simp
      try with_reducible rfl
    try simp only [Act.put, List.setIfInBounds_toArray, List.set_cons_zero, List.set_cons_succ]
    refine held_take (v := ?vv124) 5 rfl (by kernel_rfl) (by kernel_rfl) (by kernel_rfl) (fun _ _ _ h => h) (by rfl) ?yy124 (by assumption) ?nn124
    case yy124 =>
      intro w hSw
      (try dsimp only at hSw)
      go_simp
      try with_reducible rfl
    try simp only [Act.put, List.setIfInBounds_toArray, List.set_cons_zero, List.set_cons_succ]
    refine held_take (v := ?vv125) 6 rfl (by kernel_rfl) (by kernel_rfl) (by kernel_rfl) (fun _ _ _ h => h) (by rfl) ?yy125 (by assumption) ?nn125
    case yy125 =>
      intro w hSw
      (try dsimp only at hSw)
      go_simp
      try with_reducible rfl
    try simp only [Act.put, List.setIfInBounds_toArray, List.set_cons_zero, List.set_cons_succ]
    refine held_take (v := ?vv126) 7 rfl (by kernel_rfl) (by kernel_rfl) (by kernel_rfl) (fun _ _ _ h => h) (by rfl) ?yy126 (by assumption) ?nn126
    case yy126 =>
      intro w hSw
      (try dsimp only at hSw)
      go_simp
      try with_reducible rfl
    try simp only [Act.put, List.setIfInBounds_toArray, List.set_cons_zero, List.set_cons_succ]
    refine held_take (v := ?vv127) 8 rfl (by kernel_rfl) (by kernel_rfl) (by kernel_rfl) (fun _ _ _ h => h) (by rfl) ?yy127 (by assumption) ?nn127
    case yy127 =>
      intro w hSw
      (try dsimp only at hSw)
      go_simp
      try with_reducible rfl
    try simp only [Act.put, List.setIfInBounds_toArray, List.set_cons_zero, List.set_cons_succ]
    refine held_take (v := ?vv128) 9 rfl (by kernel_rfl) (by kernel_rfl) (by kernel_rfl) (fun _ _ _ h => h) (by rfl) ?yy128 (by assumption) ?nn128
    case yy128 =>
      intro w hSw
      (try dsimp only at hSw)
      go_simp
      try with_reducible rfl
    try simp only [Act.put, List.setIfInBounds_toArray, List.set_cons_zero, List.set_cons_succ]
    refine held_take (v := ?vv129) 10 rfl (by kernel_rfl) (by kernel_rfl) (by kernel_rfl) (fun _ _ _ h => h) (by rfl) ?yy129 (by assumption) ?nn129
    case yy129 =>
      intro w hSw
      (try dsimp only at hSw)
      go_simp
      try with_reducible rfl
    try simp only [Act.put, List.setIfInBounds_toArray, List.set_cons_zero, List.set_cons_succ]
    refine held_take (v := .agg #[.int .i64 s, .slice A n c, .int .u64 (lo : Int), .int .u64 (la : Int), .int .u64 (fu : Int), .int .u64 (sl : Int), .int .u64 (ro : Int), .int .u64 (ph : Int), .int .u64 (si : Int), .int .u64 (hi : Int)]) 11 rfl (by kernel_rfl) (by kernel_rfl) (by kernel_rfl) (fun _ _ _ h => h) (by rfl) (fun wx hSw => by obtain ⟨c0, c1, c2, c3, c4, c5, c6, c7, c8, c9, -, -, -, -, -, -, -, -, -, -⟩ := hSw.1; clear hSw; go_simp) (by assumption) ?_
    try simp only [Act.put, List.setIfInBounds_toArray, List.set_cons_zero, List.set_cons_succ]
    refine held_take (v := ?vv131) 12 rfl (by kernel_rfl) (by kernel_rfl) (by kernel_rfl) (fun _ _ _ h => h) (by rfl) ?yy131 (by assumption) ?nn131
    case yy131 =>
      intro w hSw
      (try dsimp only at hSw)
      go_simp
      try with_reducible rfl
    try simp only [Act.put, List.setIfInBounds_toArray, List.set_cons_zero, List.set_cons_succ]
    refine held_take (v := .agg #[.int .i64 s, .slice A n c, .int .u64 (lo : Int), .int .u64 (la : Int), .int .u64 (fu : Int), .int .u64 (sl : Int), .int .u64 (ro : Int), .int .u64 (ph : Int), .int .u64 (si : Int), .int .u64 (hi : Int)]) 14 rfl (by kernel_rfl) (by kernel_rfl) (by kernel_rfl) (fun _ _ _ h => h) (by rfl) (fun wx hSw => by obtain ⟨c0, c1, c2, c3, c4, c5, c6, c7, c8, c9, -, -, -, -, -, -, -, -, -, -⟩ := hSw.1; clear hSw; go_simp) (by assumption) ?_
    try simp only [Act.put, List.setIfInBounds_toArray, List.set_cons_zero, List.set_cons_succ]
    refine held_take (v := ?vv133) 15 rfl (by kernel_rfl) (by kernel_rfl) (by kernel_rfl) (fun _ _ _ h => h) (by rfl) ?yy133 (by assumption) ?nn133
    case yy133 =>
      intro w hSw
      (try dsimp only at hSw)
      go_simp
      try with_reducible rfl
    try simp only [Act.put, List.setIfInBounds_toArray, List.set_cons_zero, List.set_cons_succ]
    refine held_do 13 rfl (by kernel_rfl) (by rfl) (fun K hK => ?_)
    go_wp2_with (go_at_call 17; refine (C5.out _ (below_trans' B12.out hHeld.2.2)).mono ?_; rintro e w13 ⟨rfl, hb13⟩; have K13 := Lib.hid (Below.trans hHeld.2.2 (hb13.mono hHeld.2.2.size)); clear hb13)
    refine hK.out _ _ ?_ (fun hHeld => ?_)
    · exact ⟨XP12.out.below K13.out SP12.out, XG12.out.below K13.out SG12.out, K13.out⟩
    clear hK K
    try simp only [Act.put, List.setIfInBounds_toArray, List.set_cons_zero, List.set_cons_succ]
    refine held_do 16 rfl (by kernel_rfl) (by rfl) (fun K hK => ?_)
    go_wp2_with (go_at_call 18; refine (C6.out _ (below_trans' B12.out hHeld.2.2)).mono ?_; rintro e w14 ⟨rfl, hb14⟩; have K14 := Lib.hid (Below.trans hHeld.2.2 (hb14.mono hHeld.2.2.size)); clear hb14)
    refine hK.out _ _ ?_ (fun hHeld => ?_)
    · exact ⟨XP12.out.below K14.out SP12.out, XG12.out.below K14.out SG12.out, K14.out⟩
    clear hK K
    try simp only [Act.put, List.setIfInBounds_toArray, List.set_cons_zero, List.set_cons_succ]
    refine held_take (v := ?vv136) 17 rfl (by kernel_rfl) (by kernel_rfl) (by kernel_rfl) (fun _ _ _ h => h) (by rfl) ?yy136 (by assumption) ?nn136
    case yy136 =>
      intro w hSw
      (try dsimp only at hSw)
      go_simp
      try with_reducible rfl
    try simp only [Act.put, List.setIfInBounds_toArray, List.set_cons_zero, List.set_cons_succ]
    refine held_take (v := ?vv137) 18 rfl (by kernel_rfl) (by kernel_rfl) (by kernel_rfl) (fun _ _ _ h => h) (by rfl) ?yy137 (by assumption) ?nn137
    case yy137 =>
      intro w hSw
      (try dsimp only at hSw)
      go_simp
      try with_reducible rfl
    try simp only [Act.put, List.setIfInBounds_toArray, List.set_cons_zero, List.set_cons_succ]
    refine held_take (v := ?vv138) 19 rfl (by kernel_rfl) (by kernel_rfl) (by kernel_rfl) (fun _ _ _ h => h) (by rfl) ?yy138 (by assumption) ?nn138
    case yy138 =>
      intro w hSw
      (try dsimp only at hSw)
      go_simp
      try with_reducible rfl
    try simp only [Act.put, List.setIfInBounds_toArray, List.set_cons_zero, List.set_cons_succ]
    refine held_take (v := .agg #[.int .i64 s, .slice A n c, .int .u64 (lo : Int), .int .u64 (la : Int), .int .u64 (fu : Int), .int .u64 (sl : Int), .int .u64 (ro : Int), .int .u64 (ph : Int), .int .u64 (si : Int), .int .u64 (hi : Int)]) 20 rfl (by kernel_rfl) (by kernel_rfl) (by kernel_rfl) (fun _ _ _ h => h) (by rfl) (fun wx hSw => by obtain ⟨c0, c1, c2, c3, c4, c5, c6, c7, c8, c9, -, -, -, -, -, -, -, -, -, -⟩ := hSw.1; clear hSw; go_simp) (by assumption) ?_
    try simp only [Act.put, List.setIfInBounds_toArray, List.set_cons_zero, List.set_cons_succ]
    refine held_take (v := .agg #[.int .i64 s, .slice A n c, .int .u64 (lo : Int), .int .u64 (la : Int), .int .u64 (fu : Int), .int .u64 (sl : Int), .int .u64 (ro : Int), .int .u64 (ph : Int), .int .u64 (si : Int), .int .u64 (hi : Int)]) 22 rfl (by kernel_rfl) (by kernel_rfl) (by kernel_rfl) (fun _ _ _ h => h) (by rfl) (fun wx hSw => by obtain ⟨c0, c1, c2, c3, c4, c5, c6, c7, c8, c9, -, -, -, -, -, -, -, -, -, -⟩ := hSw.1; clear hSw; go_simp) (by assumption) ?_
    try simp only [Act.put, List.setIfInBounds_toArray, List.set_cons_zero, List.set_cons_succ]
    refine held_do 21 rfl (by kernel_rfl) (by rfl) (fun K hK => ?_)
    go_wp2_with (go_at_call 19; refine (C7.out _ (below_trans' B12.out hHeld.2.2)).mono ?_; rintro e w15 ⟨rfl, hb15⟩; have K15 := Lib.hid (Below.trans hHeld.2.2 (hb15.mono hHeld.2.2.size)); clear hb15)
    refine hK.out _ _ ?_ (fun hHeld => ?_)
    · exact ⟨XP12.out.below K15.out SP12.out, XG12.out.below K15.out SG12.out, K15.out⟩
    clear hK K
    try simp only [Act.put, List.setIfInBounds_toArray, List.set_cons_zero, List.set_cons_succ]
    refine held_do 23 rfl (by kernel_rfl) (by rfl) (fun K hK => ?_)
    go_wp2_with (go_at_call 20; refine (C8.out _ (below_trans' B12.out hHeld.2.2)).mono ?_; rintro e w16 ⟨rfl, hb16⟩; have K16 := Lib.hid (Below.trans hHeld.2.2 (hb16.mono hHeld.2.2.size)); clear hb16)
    refine hK.out _ _ ?_ (fun hHeld => ?_)
    · exact ⟨XP12.out.below K16.out SP12.out, XG12.out.below K16.out SG12.out, K16.out⟩
    clear hK K
    try simp only [Act.put, List.setIfInBounds_toArray, List.set_cons_zero, List.set_cons_succ]
    refine held_take (v := ?vv143) 24 rfl (by kernel_rfl) (by kernel_rfl) (by kernel_rfl) (fun _ _ _ h => h) (by rfl) ?yy143 (by assumption) ?nn143
    case yy143 =>
      intro w hSw
      (try dsimp only at hSw)
      go_simp
      try with_reducible rfl
    try simp only [Act.put, List.setIfInBounds_toArray, List.set_cons_zero, List.set_cons_succ]
    refine held_take (v := ?vv144) 25 rfl (by kernel_rfl) (by kernel_rfl) (by kernel_rfl) (fun _ _ _ h => h) (by rfl) ?yy144 (by assumption) ?nn144
    case yy144 =>
      intro w hSw
      (try dsimp only at hSw)
      go_simp
      try with_reducible rfl
    try simp only [Act.put, List.setIfInBounds_toArray, List.set_cons_zero, List.set_cons_succ]
    refine held_take (v := ?vv145) 26 rfl (by kernel_rfl) (by kernel_rfl) (by kernel_rfl) (fun _ _ _ h => h) (by rfl) ?yy145 (by assumption) ?nn145
    case yy145 =>
      intro w hSw
      (try dsimp only at hSw)
      go_simp
      try with_reducible rfl
    try simp only [Act.put, List.setIfInBounds_toArray, List.set_cons_zero, List.set_cons_succ]
    refine held_take (v := .agg #[.int .i64 s, .slice A n c, .int .u64 (lo : Int), .int .u64 (la : Int), .int .u64 (fu : Int), .int .u64 (sl : Int), .int .u64 (ro : Int), .int .u64 (ph : Int), .int .u64 (si : Int), .int .u64 (hi : Int)]) 27 rfl (by kernel_rfl) (by kernel_rfl) (by kernel_rfl) (fun _ _ _ h => h) (by rfl) (fun wx hSw => by obtain ⟨c0, c1, c2, c3, c4, c5, c6, c7, c8, c9, -, -, -, -, -, -, -, -, -, -⟩ := hSw.1; clear hSw; go_simp) (by assumption) ?_
    try simp only [Act.put, List.setIfInBounds_toArray, List.set_cons_zero, List.set_cons_succ]
    refine held_take (v := .agg #[.int .i64 s, .slice A n c, .int .u64 (lo : Int), .int .u64 (la : Int), .int .u64 (fu : Int), .int .u64 (sl : Int), .int .u64 (ro : Int), .int .u64 (ph : Int), .int .u64 (si : Int), .int .u64 (hi : Int)]) 29 rfl (by kernel_rfl) (by kernel_rfl) (by kernel_rfl) (fun _ _ _ h => h) (by rfl) (fun wx hSw => by obtain ⟨c0, c1, c2, c3, c4, c5, c6, c7, c8, c9, -, -, -, -, -, -, -, -, -, -⟩ := hSw.1; clear hSw; go_simp) (by assumption) ?_
    try simp only [Act.put, List.setIfInBounds_toArray, List.set_cons_zero, List.set_cons_succ]
    refine held_do 28 rfl (by kernel_rfl) (by rfl) (fun K hK => ?_)
    go_wp2_with (go_at_call 21; refine (C9.out _ (below_trans' B12.out hHeld.2.2)).mono ?_; rintro e w17 ⟨rfl, hb17⟩; have K17 := Lib.hid (Below.trans hHeld.2.2 (hb17.mono hHeld.2.2.size)); clear hb17)
    refine hK.out _ _ ?_ (fun hHeld => ?_)
    · exact ⟨XP12.out.below K17.out SP12.out, XG12.out.below K17.out SG12.out, K17.out⟩
    clear hK K
    try simp only [Act.put, List.setIfInBounds_toArray, List.set_cons_zero, List.set_cons_succ]
    refine held_do 30 rfl (by kernel_rfl) (by rfl) (fun K hK => ?_)
    go_wp2_with (go_at_call 22; refine (C10.out _ (below_trans' B12.out hHeld.2.2)).mono ?_; rintro e w18 ⟨rfl, hb18⟩; have K18 := Lib.hid (Below.trans hHeld.2.2 (hb18.mono hHeld.2.2.size)); clear hb18)
    refine hK.out _ _ ?_ (fun hHeld => ?_)
    · exact ⟨XP12.out.below K18.out SP12.out, XG12.out.below K18.out SG12.out, K18.out⟩
    clear hK K
    try simp only [Act.put, List.setIfInBounds_toArray, List.set_cons_zero, List.set_cons_succ]
    refine held_take (v := ?vv150) 31 rfl (by kernel_rfl) (by kernel_rfl) (by kernel_rfl) (fun _ _ _ h => h) (by rfl) ?yy150 (by assumption) ?nn150
    case yy150 =>
      intro w hSw
      (try dsimp only at hSw)
      go_simp
      try with_reducible rfl
    try simp only [Act.put, List.setIfInBounds_toArray, List.set_cons_zero, List.set_cons_succ]
    refine held_take (v := ?vv151) 32 rfl (by kernel_rfl) (by kernel_rfl) (by kernel_rfl) (fun _ _ _ h => h) (by rfl) ?yy151 (by assumption) ?nn151
    case yy151 =>
      intro w hSw
      (try dsimp only at hSw)
      go_simp
      try with_reducible rfl
    try simp only [Act.put, List.setIfInBounds_toArray, List.set_cons_zero, List.set_cons_succ]
    refine held_take (v := ?vv152) 33 rfl (by kernel_rfl) (by kernel_rfl) (by kernel_rfl) (fun _ _ _ h => h) (by rfl) ?yy152 (by assumption) ?nn152
    case yy152 =>
      intro w hSw
      (try dsimp only at hSw)
      go_simp
      try with_reducible rfl
    try simp only [Act.put, List.setIfInBounds_toArray, List.set_cons_zero, List.set_cons_succ]
    refine wpAnyH_done (by kernel_rfl) ?_ _
    clear hHeld
    have B18 := Lib.hid (below_trans' B12.out K18.out)
    have XP18 := Lib.hid (XP12.out.below K18.out SP12.out)
    have SP18 := Lib.hid (Nat.lt_of_lt_of_le SP12.out K18.out.size)
    have XG18 := Lib.hid (XG12.out.below K18.out SG12.out)
    have SG18 := Lib.hid (Nat.lt_of_lt_of_le SG12.out K18.out.size)
    clear B12 XP12 SP12 XG12 SG12
    go_wp2_with fail
    go_ret
    exact ⟨rfl, B18.out⟩

set_option maxRecDepth 100000 in
theorem lifted (os : Os) (started : os.Started) (H : Type) (enc : TypeId × Value → H) :
    ReturnsInHanded {} Tryd.checked os 4 .any (fun w args => (Rows.probeTellsSpec.pre enc Tryd.prog Tryd.f4 [] false w args ∧ laidMetH Tryd.prog laidList w) ∧ sizedMet enc Tryd.prog Tryd.f4 (OpenSpec.ofChange Rows.probeTellsSpec) false w args)
      (Rows.probeTellsSpec.post enc Tryd.prog Tryd.f4 false true false false) := by
  refine returnsInHanded_of_change_and (C := Tryd.checked) (X := fun w _ => laidMetH Tryd.prog laidList w) (fun _ _ _ hh h => h.of_heap hh) own started (by kernel_rfl) Tryd.func4
    (ChangeSpec.witness_shaped (enc := enc) (C := Tryd.checked) (os := os) (X := fun w _ => laidMetH Tryd.prog laidList w) false (World.doorLaid Tryd.prog 400 os) #[.agg #[.int .i64 0, .slice none 0 0, .int .u64 0, .int .u64 0, .int .u64 0, .int .u64 0, .int .u64 0, .int .u64 0, .int .u64 0, .int .u64 0], .agg #[.int .u64 0, .int .u64 0, .int .u64 0, .int .u64 0, .int .u64 0, .int .u64 0, .int .u64 0, .int .u64 0, .bool false, .bool false], .int .u64 0, .int .u64 0] 8 rfl (World.shaped_of_RefB (by kernel_rfl) (by kernel_rfl)) (by kernel_rfl) (by kernel_rfl) (by kernel_rfl) (door_met os _)) ?_
  intro W base args ds gs before hval0 hW _ _ hL _
  have hval : ∀ (j : Nat) t v, Tryd.f4.params[j]? = some t → args[j]? = some v → Value.okWide Tryd.prog W .any base t v := hval0
  have hW' := hW
  obtain ⟨p, q, hA0, hV, rfl, hfz, hnd⟩ := hW
  have hA : DataW.TrodAll enc Tryd.prog W 0 (fun _ => true) true Tryd.f4.params.toList args.toList ds p := hA0
  obtain ⟨rfl, rfl⟩ := trodVars_none hV
  simp only [List.append_nil] at hW'
  have hlow : ∀ x ∈ p, x.block < W.heap.size := fun x hx => hW'.lt x hx
  have hA2 := hA
  rw [Tryd.params4] at hval hA2
  obtain ⟨v0, vs0, d0, ds0, p0, q0, hargs, rfl, rfl, h0, r0⟩ := trodAll_cons hA2
  obtain ⟨v1, vs1, d1, ds1, p1, q1, rfl, rfl, rfl, h1, r1⟩ := trodAll_cons r0
  obtain ⟨v2, vs2, d2, ds2, p2, q2, rfl, rfl, rfl, h2, r2⟩ := trodAll_cons r1
  obtain ⟨v3, vs3, d3, ds3, p3, q3, rfl, rfl, rfl, h3, r3⟩ := trodAll_cons r2
  obtain ⟨rfl, rfl, rfl⟩ := trodAll_nil r3
  obtain rfl : args = #[v0, v1, v2, v3] := by cases args; simp_all
  obtain ⟨s0, A0, c0, ss0, x0_2, x0_3, x0_4, x0_5, x0_6, x0_7, x0_8, x0_9, rfl, b0_0, d0_0, hf0, hl0, b0_2, b0_3, b0_4, b0_5, b0_6, b0_7, b0_8, b0_9, hr0⟩ := open_probe (hval 0 26 v0 rfl rfl) h0 (fun x hx => hlow x (by simp [hx]))
  obtain ⟨x1_0, x1_1, x1_2, x1_3, x1_4, x1_5, x1_6, x1_7, x1_8, x1_9, rfl, b1_0, b1_1, b1_2, b1_3, b1_4, b1_5, b1_6, b1_7⟩ := open_got (hval 1 28 v1 rfl rfl) h1 (fun x hx => hlow x (by simp [hx]))
  obtain ⟨n2, rfl, hn2⟩ := open_u64 Tryd.underlying24 (hval 2 24 v2 rfl rfl) h2
  obtain ⟨n3, rfl, hn3⟩ := open_u64 Tryd.underlying24 (hval 3 24 v3 rfl rfl) h3
  refine (walk s0 A0 c0 ss0 x0_2 x0_3 x0_4 x0_5 x0_6 x0_7 x0_8 x0_9 x1_0 x1_1 x1_2 x1_3 x1_4 x1_5 x1_6 x1_7 x1_8 x1_9 n2 n3 b0_0 d0_0 hf0 hl0 b0_2 b0_3 b0_4 b0_5 b0_6 b0_7 b0_8 b0_9 b1_0 b1_1 b1_2 b1_3 b1_4 b1_5 b1_6 b1_7 hn2 hn3 W hr0 (tab_of_laid hL)).mono fun e W' ⟨he, hg⟩ => ?_
  subst he
  exact ⟨_, rfl, law_true laid_out (by kernel_rfl) rfl Tryd.underlying4 (by kernel_rfl) hW' hA rfl rfl rfl hg⟩

theorem over : Rows.probeTellsRow.holds Tryd.pinned (OpenSpec.ofChange Rows.probeTellsSpec) :=
  OpenClaim.holds_of_wide 4 Tryd.f4 rfl rfl rfl rfl rfl rfl rfl ⟨rfl, rfl, rfl, rfl, rfl⟩ rfl rfl rfl rfl rfl (by kernel_rfl) Tryd.func4 (by kernel_rfl)
    (of_decide_eq_true (by kernel_rfl)) (by unfold Func.isWrapper; first | (rw [if_pos (by decide +kernel)]; kernel_rfl) | (rw [if_neg (by decide +kernel)]; exact ⟨rfl, rfl⟩))
    (fun os started H enc _ => lifted os started H enc)

/-- The statement: the card of it, its table tied to the program. -/
theorem proved : Rows.ProbeTellsCardSaid :=
  Claim7.holds_tied_plain_at .later [] [.data] true (true, "0cfa15146e02506e26c00cdb08a8114b329d7ab63ab7622119cae80ce9231d0a") false
    over (fun _ h => by cases h) (by kernel_rfl) (fun _ h => by cases h) probeTells_row_tie rfl ⟨rfl, rfl⟩ (by kernel_rfl) rfl
    (fun f fn hf hfn => by
      obtain rfl : f = 4 := Option.some.inj ((show Tryd.prog.funcNamed "wigwag/wigwaglaw13.ProbeTells" = some 4 by kernel_rfl).symm.trans hf) |>.symm
      obtain rfl : fn = Tryd.f4 := (Option.some.inj (Tryd.func4.symm.trans hfn)).symm
      exact ⟨by kernel_rfl, fun j t ht => by
        rw [Tryd.params4] at ht
        have hm : t ∈ [26, 28, 24, 24] := by simpa using Array.mem_of_getElem? ht
        have hall : ([26, 28, 24, 24].all fun u => !Tryd.prog.wantsStandIn u) = true := by kernel_rfl
        exact (show Tryd.prog.wantsStandIn t = false by simpa using List.all_eq_true.1 hall t hm)⟩)
    (by kernel_rfl)
end Go.Proofs.YtjojnbeflongkaaDoor.probeTells
