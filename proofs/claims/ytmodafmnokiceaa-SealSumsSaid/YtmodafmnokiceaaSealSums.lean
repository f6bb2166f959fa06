/-
  SealSums: bytes one of which is another one have another check sum, and of three lists of as many bytes the sum of the difference is the difference of the sums; whatever the lists (at most two thousand bytes), the place and the byte. No condition.
-/
import Derived.Test.YtmodafmnokiceaaSeaW
import Derived.Test.YtmodafmnokiceaaOpen
import Derived.Deep.RegionHeld3
import Derived.Deep.DrawnRows
namespace Go.Proofs.Ytmodafmnokiceaa.sealSums
open Go.ChangeShapes Go.WideShapes Go.ChangeAt Go.RowKit Go.Deep
set_option linter.unusedVariables false

theorem up_alone (A B C : Option Addr) (la lb lc ca cb cc y : Nat) (i : Int) (w : World) (h : decide ((2000 : Int) < (la : Int)) = true ∨ (decide ((2000 : Int) < (la : Int)) = false ∧ (((la : Int) != (lb : Int)) = true ∨ (((la : Int) != (lb : Int)) = false ∧ (((la : Int) != (lc : Int)) = true ∨ (((la : Int) != (lc : Int)) = false ∧ ((la : Int) == 0) = true)))))) :
    Calls Try.prog 8 #[.slice A la ca, .slice B lb cb, .slice C lc cc, .int .i64 i, .int .u8 (y : Int)] w fun e w' => e = .returned (.bool true) ∧ Below w.heap.size w w' := by
  have C0 := Lib.hid (awake_any w)
  rcases h with t0 | ⟨t0, t1 | ⟨t1, t2 | ⟨t2, t3⟩⟩⟩
  all_goals
    go_enter Try.func8, Try.ntmps8
    go_wp2_with fail
    refine (C0.out).mono ?_
    rintro e w1 ⟨rfl, hb1⟩
    have B1 := Lib.hid hb1
    clear hb1
    go_wp2_with fail
    go_ret
    exact ⟨rfl, B1.out⟩

/-- At a round's head: k bytes of the difference lie there. -/
def DifRel (zs : List Nat) (w : World) (v i : Value) (wr : World) : Prop :=
  ∃ k : Nat, k ≤ zs.length ∧ i = .int .i64 (k : Int) ∧ OwnN .u8 5 wr w.heap.size v (zs.take k) ∧ Below w.heap.size w wr

theorem cell_one (w : World) (a : Nat) : ∀ j u, (ncells .u8 [a])[j]? = some u → (w.alloc (.cells #[.int .u8 (a : Int)] 5)).cell? ((⟨w.heap.size, 0, none⟩ : Addr).add j) = some u := by
  intro j u hj
  rw [add_plain, Nat.zero_add, World.cell?_alloc_at _ _ _ _ rfl]
  simpa [ncells] using hj
theorem grown_by {base : Nat} {wr w3 : World} {o : Obj} {v : Value} (hg : ((wr.alloc o).drew).grownBy w3 v.ownBlock) (hB : base ≤ wr.heap.size) (ho : ∀ q, v.ownBlock = some q → base ≤ q) : Below base wr w3 :=
  ((Below.refl base wr).alloc hB o).drew.grown hg (by simp; omega) ho

set_option maxHeartbeats 4000000 in
theorem sums (A B C : Option Addr) (n ca cb cc p y : Nat) (i j : Int) (neg t : Bool) (a b c : List Nat) (w : World) (ha : Wig.Bytes a) (hb : Wig.Bytes b) (hc : Wig.Bytes c) (na : n = a.length) (nb : n = b.length) (nc : n = c.length) (h0 : 0 < n) (h2 : n ≤ 2000) (hy : y < 256) (ht : ((y : Int) == 0) = t)
    (hneg : decide (i < 0) = neg) (hj : neg = true → wrap64 (i + 1) = j ∧ wrap64 (-j) = (p : Int)) (hp : neg = false → i = (p : Int)) (ra : RdN .u8 w w.heap.size A a) (rb : RdN .u8 w w.heap.size B b) (rc : RdN .u8 w w.heap.size C c) :
    Calls Try.prog 8 #[.slice A n ca, .slice B n cb, .slice C n cc, .int .i64 i, .int .u8 (y : Int)] w fun e w' => e = .returned (.bool true) ∧ Below w.heap.size w w' := by
  obtain ⟨i0, hi, hz0, hz1, hz2⟩ := info_parts bytes_info
  have t0 : decide ((2000 : Int) < (n : Int)) = false := decide_eq_false (by omega)
  have t1 : ((n : Int) != (n : Int)) = false := by simp
  have t2 : ((n : Int) == 0) = false := by simp; omega
  obtain ⟨k, hk⟩ : ∃ k, k = p % n := ⟨_, rfl⟩
  have kl : k < n := by rw [hk]; exact Nat.mod_lt _ (by omega)
  obtain ⟨x, hx0⟩ : ∃ x, a[k]? = some x := ⟨_, List.getElem?_eq_getElem (by omega)⟩
  have x256 : x < 256 := ha x (List.mem_of_getElem? hx0)
  obtain ⟨z, hz⟩ : ∃ z, z = x ^^^ y := ⟨_, rfl⟩
  have z256 : z < 256 := by rw [hz]; exact Wig.xor_byte x256 hy
  have e1 : bits .xor .u8 (x : Int) (y : Int) = (z : Int) := by rw [hz]; exact u8_xor_nat x y x256 hy
  obtain ⟨ds, hds⟩ : ∃ ds, ds = a.set k z := ⟨_, rfl⟩
  have hdb : Wig.Bytes ds := fun u hu => by
    rw [hds] at hu
    rcases List.mem_or_eq_of_mem_set hu with h | rfl
    · exact ha u h
    · exact z256
  have hdl : n = ds.length := by rw [hds, List.length_set]; exact na
  obtain ⟨zs, hzs⟩ : ∃ zs, zs = Wig.xors (Wig.xors a b) c := ⟨_, rfl⟩
  have hzb : Wig.Bytes zs := by rw [hzs]; exact Wig.xors_bytes (Wig.xors_bytes ha hb) hc
  have hlab : (Wig.xors a b).length = a.length := Wig.xors_length a b (by omega)
  have hzl : n = zs.length := by rw [hzs, Wig.xors_length _ _ (by omega)]; omega
  obtain ⟨sd, hsd⟩ : ∃ s, s = Wig.csum ds := ⟨_, rfl⟩
  obtain ⟨sa, hsa⟩ : ∃ s, s = Wig.csum a := ⟨_, rfl⟩
  obtain ⟨sb, hsb⟩ : ∃ s, s = Wig.csum b := ⟨_, rfl⟩
  obtain ⟨sc, hsc⟩ : ∃ s, s = Wig.csum c := ⟨_, rfl⟩
  obtain ⟨sx, hsx⟩ : ∃ s, s = Wig.csum zs := ⟨_, rfl⟩
  have key1 : ((sd : Int) == (sa : Int)) = t := by
    have h := Wig.csum_set ha hx0 z256
    rw [← hds, ← hsd, ← hsa] at h
    have h' : z = x ↔ y = 0 := by
      rw [hz]
      constructor
      · intro h
        have := congrArg (x ^^^ ·) h
        simp only [← Nat.xor_assoc, Nat.xor_self, Nat.zero_xor] at this
        exact this
      · intro h; rw [h, Nat.xor_zero]
    rw [← ht]
    by_cases g : y = 0
    · have := h.2 (h'.2 g); rw [this, g]; simp
    · have : ¬ sd = sa := fun e => g (h'.1 (h.1 e))
      have g1 : ((sd : Int) == (sa : Int)) = false := by simp; omega
      have g2 : ((y : Int) == 0) = false := by simp; omega
      rw [g1, g2]
  obtain ⟨s1, hs1⟩ : ∃ s, s = sa ^^^ sb := ⟨_, rfl⟩
  have sal : sa < 4294967296 := by rw [hsa]; exact Wig.csum_lt a
  have sbl : sb < 4294967296 := by rw [hsb]; exact Wig.csum_lt b
  have scl : sc < 4294967296 := by rw [hsc]; exact Wig.csum_lt c
  have key2 : bits .xor .u32 (sa : Int) (sb : Int) = (s1 : Int) := by rw [hs1]; exact u32_xor_nat sa sb sal sbl
  have key3 : bits .xor .u32 (s1 : Int) (sc : Int) = (sx : Int) := by
    have h := Wig.csum_three ha hb hc (by omega) (by omega)
    rw [← hzs, ← hsx, ← hsa, ← hsb, ← hsc, ← hs1] at h
    rw [h]
    exact u32_xor_nat s1 sc (by rw [hs1]; exact Wig.xor_small sal sbl) scl
  have g2 : ¬ n = 0 := by omega
  have g3 : (p : Int).tmod (n : Int) = (k : Int) := by rw [hk, Int.tmod_eq_emod_of_nonneg (by omega)]; rfl
  have g4 : (0 : Int) ≤ (k : Int) := by omega
  have g5 : (k : Int) < (n : Int) := by omega
  have C0 := Lib.hid (awake_any w)
  have CD := Lib.hid (fun A c w hr => sum_gives A n c ds sd w hsd.symm hdb hdl (by omega) hr)
  have CX := Lib.hid (fun A c w hr => sum_gives A n c zs sx w hsx.symm hzb hzl (by omega) hr)
  have CA := Lib.hid (fun w hr => sum_gives A n ca a sa w hsa.symm ha na (by omega) hr)
  have CB := Lib.hid (fun w hr => sum_gives B n cb b sb w hsb.symm hb nb (by omega) hr)
  have CC := Lib.hid (fun w hr => sum_gives C n cc c sc w hsc.symm hc nc (by omega) hr)
  have RA := Lib.hid ra
  have RB := Lib.hid rb
  have RC := Lib.hid rc
  have HZ := Lib.hid (And.intro hds (And.intro hx0 (And.intro na.symm (And.intro h2 (And.intro hzl (And.intro hdl (And.intro nb nc)))))))
  have HX := Lib.hid (show ∀ q u1 u2 u3, a[q]? = some u1 → b[q]? = some u2 → c[q]? = some u3 → u1 < 256 ∧ u2 < 256 ∧ u3 < 256 ∧ zs[q]? = some ((u1 ^^^ u2) ^^^ u3) from fun q u1 u2 u3 h1 h2 h3 => ⟨ha u1 (List.mem_of_getElem? h1), hb u2 (List.mem_of_getElem? h2), hc u3 (List.mem_of_getElem? h3), by rw [hzs]; exact Wig.xors_at _ _ q _ _ (Wig.xors_at a b q _ _ h1 h2) h3⟩)
  clear ha hb hc na nb nc h0 h2 hy ra rb rc hk kl hx0 x256 hz z256 hds hdb hdl hzs hzb hlab hzl hsd hsa hsb hsc hsx hs1 sal sbl scl
  cases neg
  all_goals
    first
    | obtain rfl := hp rfl
    | obtain ⟨u1, u2⟩ := hj rfl
    clear hp hj
    go_enter Try.func8, Try.ntmps8
    go_wp2_with fail
    refine (C0.out).mono ?_
    rintro e w2 ⟨rfl, hb1⟩
    have B1 := Lib.hid hb1
    have QA := Lib.hid (RA.out.step hb1)
    have QB := Lib.hid (RB.out.step hb1)
    have QC := Lib.hid (RC.out.step hb1)
    have O2 := Lib.hid (own_none w2)
    have E2 := Lib.hid ((Below.refl w2.heap.size w2).alloc (Nat.le_refl _) (.cells #[] 5))
    clear hb1 RA RB RC
    go_wp2_with (at_builtin; refine wpList_append_bytes rfl _ _ rfl w2.heap.size _ [] a rfl O2.out w2.heap.size A ca n HZ.out.2.2.1 rfl (QA.out.below E2.out) (by have := HZ.out; simp; omega) (by simp) ?_)
    intro v3 w3 hown3 hg3
    have hb3 : Below w2.heap.size w2 w3 := E2.out.grown hg3 (by simp) (fun q hq => (O2.out.block q hq).1)
    obtain ⟨g, cap, ev, hg0, -⟩ := World.ownsRow.form hown3 (by have := HZ.out; omega)
    rw [HZ.out.2.2.1] at ev
    subst ev
    have hcell := own_cell hown3 HZ.out.2.1
    have hfz := own_thaw hown3 k
    have hst := hown3.stored (by rw [HZ.out.2.2.1]) k z
    rw [← HZ.out.1] at hst
    have O3 := Lib.hid hst
    have hb4 := hb3.setCell (p := ⟨g, k, none⟩) hg0 (.int .u8 (z : Int))
    have B4 := Lib.hid hb4
    have PA := Lib.hid (QA.out.step hb4)
    have PB := Lib.hid (QB.out.step hb4)
    have PC := Lib.hid (QC.out.step hb4)
    clear hown3 hg3 hb3 hst hg0 O2 E2 hb4 QA QB QC
    go_wp2_with fail
    obtain ⟨w4, hw4⟩ : ∃ w4, w4 = w3.setCell ⟨g, k, none⟩ (.int .u8 (z : Int)) := ⟨_, rfl⟩
    rw [← hw4] at O3 B4 PA PB PC ⊢
    clear hw4 hcell hfz e1 g2 g3 g4 g5
    go_loopw [13, 14] (fun v i wr => DifRel zs w4 v i wr) (fun _ i _ => n - (intOf i).toNat)
    case atStart => exact ⟨0, by omega, rfl, by rw [List.take_zero]; exact World.ownsRow_nil _ _ _ _, Below.refl _ _⟩
    case round =>
      obtain ⟨q, hq, rfl, hown, hbel⟩ := hrel
      rw [← HZ.out.2.2.2.2.1] at hq
      have KO := Lib.hid hown
      have KB := Lib.hid hbel
      clear hown hbel
      by_cases hlt : q < n
      · obtain ⟨x1, h1⟩ : ∃ x, a[q]? = some x := ⟨_, List.getElem?_eq_getElem (by have := HZ.out; omega)⟩
        obtain ⟨x2, h2⟩ : ∃ x, b[q]? = some x := ⟨_, List.getElem?_eq_getElem (by have := HZ.out; omega)⟩
        obtain ⟨x3, h3⟩ : ∃ x, c[q]? = some x := ⟨_, List.getElem?_eq_getElem (by have := HZ.out; omega)⟩
        obtain ⟨l1, l2, l3, hzq⟩ := HX.out q x1 x2 x3 h1 h2 h3
        obtain ⟨b1, o1, rfl, hb1, c1⟩ := (PA.out.below KB.out).at_ h1
        obtain ⟨b2, o2, rfl, hb2, c2⟩ := (PB.out.below KB.out).at_ h2
        obtain ⟨b3, o3, rfl, hb3, c3⟩ := (PC.out.below KB.out).at_ h3
        obtain ⟨m1, hm1⟩ : ∃ m, m = x1 ^^^ x2 := ⟨_, rfl⟩
        obtain ⟨m2, hm2⟩ : ∃ m, m = m1 ^^^ x3 := ⟨_, rfl⟩
        have f1 : bits .xor .u8 (x1 : Int) (x2 : Int) = (m1 : Int) := by rw [hm1]; exact u8_xor_nat x1 x2 l1 l2
        have f2 : bits .xor .u8 (m1 : Int) (x3 : Int) = (m2 : Int) := by rw [hm2]; exact u8_xor_nat m1 x3 (by rw [hm1]; exact Wig.xor_byte l1 l2) l3
        have ht1 := take_one hzq
        rw [← hm1, ← hm2] at ht1
        have HT := Lib.hid ht1
        have SZ := Lib.hid KB.out.size
        have LT := Lib.hid (show (zs.take q).length = q by rw [List.length_take]; have := HZ.out; omega)
        have OQ := Lib.hid (show wr.ownsRow w4.heap.size 5 1 u13 q (ncells .u8 (zs.take q)) by have := KO.out; unfold OwnN at this; rwa [LT.out] at this)
        have QL := Lib.hid (show q < n ∧ n ≤ 2000 from ⟨hlt, HZ.out.2.2.2.1⟩)
        have i1 : (0 : Int) ≤ (q : Int) := by omega
        have i2 : (q : Int) < (n : Int) := by omega
        have HC1 := Lib.hid c1
        have HC2 := Lib.hid c2
        have HC3 := Lib.hid c3
        have L1 := Lib.hid (show b1 < wr.heap.size from Nat.lt_of_lt_of_le hb1 SZ.out)
        have L2 := Lib.hid (show b2 < wr.heap.size from Nat.lt_of_lt_of_le hb2 SZ.out)
        have L3 := Lib.hid (show b3 < wr.heap.size from Nat.lt_of_lt_of_le hb3 SZ.out)
        have K1 := Lib.hid (show b1 < w4.heap.size from hb1)
        have K2 := Lib.hid (show b2 < w4.heap.size from hb2)
        have K3 := Lib.hid (show b3 < w4.heap.size from hb3)
        clear h1 h2 h3 hzq l1 l2 l3 hb1 hb2 hb3 hm1 hm2 ht1 hlt hq
        go_wp2_with fail
        go_region_held3 (fun w' => w'.cell? ⟨b1, o1 + q, none⟩ = some (.int .u8 (x1 : Int)) ∧ w'.cell? ⟨b2, o2 + q, none⟩ = some (.int .u8 (x2 : Int)) ∧ w'.cell? ⟨b3, o3 + q, none⟩ = some (.int .u8 (x3 : Int)))
          (first
            | go_keep
            | exact ⟨(KW.out.cell K1.out).trans HC1.out, (KW.out.cell K2.out).trans HC2.out, (KW.out.cell K3.out).trans HC3.out⟩
            | fail)
          ((refine step_append_lies _ (by rfl) _ _ _ (by rfl) w4.heap.size 5 i0 _ 1 1 Try.underlying24 hi hz0 hz1 hz2 rfl (by omega) _ q _ (by rfl) (World.ownsRow.alloc (w := wr) OQ.out _) ⟨wr.heap.size, 0, none⟩ 1 1 (ncells .u8 [m2]) (by rfl) (by rfl) (cell_one wr m2) (ncells_one .u8 [m2]) (by omega) (by have := QL.out; unfold maxLen; omega) (by have := QL.out; omega) (by have := SZ.out; simp; omega) (wr.heap.size + 1) (by simp) ?_; intro gg cap2 w5 hown1 hgrow hat hlt2; have KW := Lib.hid (grown_by hgrow SZ.out (fun q hq => (KO.out.block q hq).1))))
        have R : DifRel zs w4 (.slice (some ⟨gg, 0, none⟩) (q + 1) cap2) (.int .i64 ((q : Int) + 1)) w5 := by
          refine ⟨q + 1, by have := QL.out; have := HZ.out; omega, rfl, ?_, KB.out.trans KW.out⟩
          unfold OwnN
          rw [HT.out, ncells_app, List.length_append, LT.out]
          exact hown1
        have R' := Lib.hid R
        have HQ : q < n := QL.out.1
        have HQ2 : n ≤ 2000 := QL.out.2
        clear hown1 hgrow hat hlt2 R f1 f2
        go_wp2_with fail
        go_roundw
        case rel => exact R'.out
        case measure => simp [intOf]; omega
      · obtain rfl : q = n := by omega
        have hoX := KO.out
        rw [List.take_of_length_le (by have := HZ.out; omega)] at hoX
        obtain ⟨AX, cX, rfl, -, -, rX, -⟩ := hoX.rd
        rw [← HZ.out.2.2.2.2.1]
        have hoD := O3.out.below KB.out (Nat.le_refl _)
        obtain ⟨AD, cD, ev, -, -, rD, -⟩ := hoD.rd
        injection ev with ea eb ec
        subst ea ec
        have RX := Lib.hid rX
        have D1 := Lib.hid (CD.out _ cap _ rD)
        have SA := Lib.hid (PA.out.step KB.out)
        have SB := Lib.hid (PB.out.step KB.out)
        have SC := Lib.hid (PC.out.step KB.out)
        have BB := Lib.hid (below_trans' (below_trans' B1.out B4.out) KB.out)
        clear hoX rX hoD rD eb hlt hq
        go_wp2_with fail
        refine (D1.out).mono ?_
        rintro e w5 ⟨rfl, hb5⟩
        have RX5 := Lib.hid (RX.out.step hb5)
        have SA5 := Lib.hid (SA.out.step hb5)
        have SB5 := Lib.hid (SB.out.step hb5)
        have SC5 := Lib.hid (SC.out.step hb5)
        have B5 := Lib.hid (below_trans' BB.out hb5)
        have D2 := Lib.hid (CA.out w5 SA5.out)
        clear hb5 D1 RX SA SB SC BB
        go_wp2_with fail
        refine (D2.out).mono ?_
        rintro e w6 ⟨rfl, hb6⟩
        have RX6 := Lib.hid (RX5.out.step hb6)
        have SA6 := Lib.hid (SA5.out.step hb6)
        have SB6 := Lib.hid (SB5.out.step hb6)
        have SC6 := Lib.hid (SC5.out.step hb6)
        have B6 := Lib.hid (below_trans' B5.out hb6)
        have D3 := Lib.hid (CX.out _ cX w6 RX6.out)
        clear hb6 D2 RX5 SA5 SB5 SC5 B5
        go_wp2_with fail
        refine (D3.out).mono ?_
        rintro e w7 ⟨rfl, hb7⟩
        have SA7 := Lib.hid (SA6.out.step hb7)
        have SB7 := Lib.hid (SB6.out.step hb7)
        have SC7 := Lib.hid (SC6.out.step hb7)
        have B7 := Lib.hid (below_trans' B6.out hb7)
        have D4 := Lib.hid (CA.out w7 SA7.out)
        clear hb7 D3 RX6 SA6 SB6 SC6 B6
        go_wp2_with fail
        refine (D4.out).mono ?_
        rintro e w8 ⟨rfl, hb8⟩
        have SB8 := Lib.hid (SB7.out.step hb8)
        have SC8 := Lib.hid (SC7.out.step hb8)
        have B8 := Lib.hid (below_trans' B7.out hb8)
        have D5 := Lib.hid (CB.out w8 SB8.out)
        clear hb8 D4 SA7 SB7 SC7 B7
        go_wp2_with fail
        refine (D5.out).mono ?_
        rintro e w9 ⟨rfl, hb9⟩
        have SC9 := Lib.hid (SC8.out.step hb9)
        have B9 := Lib.hid (below_trans' B8.out hb9)
        have D6 := Lib.hid (CC.out w9 SC9.out)
        clear hb9 D5 SB8 SC8 B8
        go_wp2_with fail
        refine (D6.out).mono ?_
        rintro e w10 ⟨rfl, hb10⟩
        have B10 := Lib.hid (below_trans' B9.out hb10)
        clear hb10 D6 SC9 B9
        go_wp2_with fail
        go_ret
        exact ⟨rfl, B10.out⟩

theorem walk (A : Option Addr) (ca : Nat) (a : List Nat) (B : Option Addr) (cb : Nat) (b : List Nat) (C : Option Addr) (cc : Nat) (c : List Nat) (i : Int) (y : Nat) (ha : ∀ x ∈ a, x < 256) (la : a.length ≤ ca) (ma : ca ≤ maxLen) (hb : ∀ x ∈ b, x < 256) (lb : b.length ≤ cb) (mb : cb ≤ maxLen) (hc : ∀ x ∈ c, x < 256) (lc : c.length ≤ cc) (mc : cc ≤ maxLen)
    (hi : -9223372036854775808 ≤ i) (hj : i ≤ 9223372036854775807) (hy : y < 256) (w : World) (ra : RdN .u8 w w.heap.size A a) (rb : RdN .u8 w w.heap.size B b) (rc : RdN .u8 w w.heap.size C c) :
    Calls Try.prog 8 #[.slice A a.length ca, .slice B b.length cb, .slice C c.length cc, .int .i64 i, .int .u8 (y : Int)] w fun e w' => e = .returned (.bool true) ∧ Below w.heap.size w w' := by
  by_cases h0 : 2000 < a.length
  · exact up_alone A B C _ _ _ ca cb cc y i w (.inl (decide_eq_true (by omega)))
  · have g0 : decide ((2000 : Int) < (a.length : Int)) = false := decide_eq_false (by omega)
    by_cases h1 : a.length = b.length
    · have g1 : ((a.length : Int) != (b.length : Int)) = false := by simp; omega
      by_cases h2 : a.length = c.length
      · have g2 : ((a.length : Int) != (c.length : Int)) = false := by simp; omega
        by_cases h3 : a.length = 0
        · exact up_alone A B C _ _ _ ca cb cc y i w (.inr ⟨g0, .inr ⟨g1, .inr ⟨g2, by rw [h3]; rfl⟩⟩⟩)
        · rw [← h1, ← h2]
          by_cases hneg : i < 0
          · exact sums A B C _ ca cb cc (-(i + 1)).toNat y i (i + 1) true _ a b c w ha hb hc rfl h1 h2 (by omega) (by omega) hy rfl (decide_eq_true hneg) (fun _ => ⟨by unfold wrap64; omega, by unfold wrap64; omega⟩) (fun h => by cases h) ra rb rc
          · exact sums A B C _ ca cb cc i.toNat y i 0 false _ a b c w ha hb hc rfl h1 h2 (by omega) (by omega) hy rfl (decide_eq_false hneg) (fun h => by cases h) (fun _ => by omega) ra rb rc
      · exact up_alone A B C _ _ _ ca cb cc y i w (.inr ⟨g0, .inr ⟨g1, .inl (by simp; omega)⟩⟩)
    · exact up_alone A B C _ _ _ ca cb cc y i w (.inr ⟨g0, .inl (by simp; omega)⟩)

set_option maxRecDepth 100000 in
theorem lifted (os : Os) (started : os.Started) (H : Type) (enc : TypeId × Value → H) :
    ReturnsInHanded {} Try.checked os 8 .any (Rows.sealSumsSpec.pre6 enc Try.prog Try.f8 Rows.sealSumsRow.domain false) (Rows.sealSumsSpec.post enc Try.prog Try.f8 false true false false) := by
  refine returnsInHanded_of_change (C := Try.checked) own started (by kernel_rfl) Try.func8
    (ChangeSpec.witness6 (enc := enc) (C := Try.checked) false ⟨#[], #[.slice none 0 0, .slice none 0 0, .slice none 0 0, .int .i64 0, .int .u8 0], []⟩ 8 (by kernel_rfl) (by kernel_rfl) (by kernel_rfl) (by kernel_rfl)) ?_
  intro W base args ds gs before hval0 hW hcnd _
  have hval : ∀ (j : Nat) t v, Try.f8.params[j]? = some t → args[j]? = some v → Value.okWide Try.prog W .any base t v := hval0
  have hW' := hW
  obtain ⟨p, q, hA0, hV, rfl, hfz, hnd⟩ := hW
  have hA : DataW.TrodAll enc Try.prog W 0 (fun _ => true) true Try.f8.params.toList args.toList ds p := hA0
  obtain ⟨rfl, rfl⟩ := trodVars_none hV
  simp only [List.append_nil] at hW'
  have hlow : ∀ x ∈ p, x.block < W.heap.size := fun x hx => hW'.lt x hx
  have hA2 := hA
  rw [Try.params8] at hval hA2
  obtain ⟨v0, vs0, d0, ds0, p0, q0, hargs, rfl, rfl, h0, r0⟩ := trodAll_cons hA2
  obtain ⟨v1, vs1, d1, ds1, p1, q1, rfl, rfl, rfl, h1, r1⟩ := trodAll_cons r0
  obtain ⟨v2, vs2, d2, ds2, p2, q2, rfl, rfl, rfl, h2, r2⟩ := trodAll_cons r1
  obtain ⟨v3, vs3, d3, ds3, p3, q3, rfl, rfl, rfl, h3, r3⟩ := trodAll_cons r2
  obtain ⟨v4, vs4, d4, ds4, p4, q4, rfl, rfl, rfl, h4, r4⟩ := trodAll_cons r3
  obtain ⟨rfl, rfl, rfl⟩ := trodAll_nil r4
  obtain rfl : args = #[v0, v1, v2, v3, v4] := by cases args; simp_all
  obtain ⟨A0, c0, xs0, rfl, hx0, hr0, hl0, hm0⟩ := open_row 256 Try.underlying24 Try.underlying5 (by kernel_rfl) (by intro x h; simp [Lit.wf, IntKind.min, IntKind.max, IntKind.signed, IntKind.bits] at h; omega) (hval 0 24 v0 rfl rfl) h0 (fun x hx => hlow x (by simp [hx]))
  obtain ⟨A1, c1, xs1, rfl, hx1, hr1, hl1, hm1⟩ := open_row 256 Try.underlying24 Try.underlying5 (by kernel_rfl) (by intro x h; simp [Lit.wf, IntKind.min, IntKind.max, IntKind.signed, IntKind.bits] at h; omega) (hval 1 24 v1 rfl rfl) h1 (fun x hx => hlow x (by simp [hx]))
  obtain ⟨A2, c2, xs2, rfl, hx2, hr2, hl2, hm2⟩ := open_row 256 Try.underlying24 Try.underlying5 (by kernel_rfl) (by intro x h; simp [Lit.wf, IntKind.min, IntKind.max, IntKind.signed, IntKind.bits] at h; omega) (hval 2 24 v2 rfl rfl) h2 (fun x hx => hlow x (by simp [hx]))
  obtain ⟨i3, rfl, hi3, hj3⟩ := open_i64 Try.underlying3 (hval 3 3 v3 rfl rfl) h3
  obtain ⟨n4, rfl, hn4⟩ := open_u8 Try.underlying5 (hval 4 5 v4 rfl rfl) h4
  refine (walk A0 c0 xs0 A1 c1 xs1 A2 c2 xs2 i3 n4 hx0 hl0 hm0 hx1 hl1 hm1 hx2 hl2 hm2 hi3 hj3 hn4 W hr0 hr1 hr2).mono fun e W' ⟨he, hg⟩ => ?_
  subst he
  exact ⟨_, rfl, law_true laid_out (by kernel_rfl) rfl Try.underlying4 (by kernel_rfl) hW' hA rfl rfl rfl hg⟩

theorem over : Rows.sealSumsRow.holds Try.pinned (OpenSpec.ofChange Rows.sealSumsSpec) :=
  OpenClaim.holds_of_wide 8 Try.f8 rfl rfl rfl rfl rfl rfl rfl ⟨rfl, rfl, rfl, rfl, rfl⟩ rfl rfl rfl rfl rfl (by kernel_rfl) Try.func8 (by kernel_rfl)
    (of_decide_eq_true (by kernel_rfl)) (by unfold Func.isWrapper; first | (rw [if_pos (by decide +kernel)]; kernel_rfl) | (rw [if_neg (by decide +kernel)]; exact ⟨rfl, rfl⟩))
    (fun os started H enc _ => lifted os started H enc)

/-- The statement. -/
theorem proved : Rows.SealSumsSaid := over
end Go.Proofs.Ytmodafmnokiceaa.sealSums
