/-
  What package frame's lay and spanNumbers return: numbers' bytes behind bytes, spans' numbers. Condition: the table of sizes holds what its text lays.
-/
import Derived.Test.YtogioabdijgglaaDoorFrB
import Derived.Test.YtogioabdijgglaaDoorVarB
import Derived.Test.YtogioabdijgglaaDoorApp
import Derived.Deep.DrawnRows
import Derived.Laws.Bits64
namespace Wig
theorem nums_snoc (l : List Nat) (v : Nat) : nums (l ++ [v]) = nums l ++ venc v := by simp [nums]
theorem nums_take {l : List Nat} {k v : Nat} (h : l[k]? = some v) : nums (l.take (k + 1)) = nums (l.take k) ++ venc v := by
  rw [List.take_add_one, h]
  exact nums_snoc _ _
theorem vsize_le (v : Nat) : vsize v ≤ 8 := by
  unfold vsize
  rcases vplace_cases v with ⟨e, _⟩ | ⟨e, _⟩ | ⟨e, _⟩ | ⟨e, _⟩ | ⟨e, _⟩ <;> rw [e] <;> simp [vsz]
theorem nums_le : ∀ l : List Nat, (nums l).length ≤ 8 * l.length
  | [] => by simp [nums]
  | v :: l => by
    have h := nums_le l
    have h2 := vsize_le v
    rw [nums_cons, List.length_append, venc_length, List.length_cons]
    omega
theorem spOk_pair : ∀ (l : List Spn) (j : Nat) (s p : Spn), spOk l = true → l[j]? = some s → l[j + 1]? = some p → s.2 < p.1
  | [], j, s, p, _, h, _ => by simp at h
  | [a], j, s, p, _, _, h => by simp at h
  | a :: b :: l, 0, s, p, hk, h1, h2 => by
    simp only [List.getElem?_cons_zero, List.getElem?_cons_succ, Option.some.injEq] at h1 h2
    subst h1 h2
    simp only [spOk, Bool.and_eq_true, decide_eq_true_eq] at hk
    exact hk.1.2
  | a :: b :: l, j + 1, s, p, hk, h1, h2 => spOk_pair (b :: l) j s p (spOk_tail hk).1 (by simpa using h1) (by simpa using h2)
theorem spOk_one {l : List Spn} (h : spOk l = true) {j : Nat} {s : Spn} (hs : l[j]? = some s) : s.1 < s.2 ∧ s.2 ≤ 4611686018427387904 := by
  induction l generalizing j with
  | nil => simp at hs
  | cons a l ih =>
    obtain ⟨h1, h2⟩ := spOk_tail h
    cases j with
    | zero => simp at hs; subst hs; exact spOne_of h2
    | succ j => exact ih h1 (by simpa using hs)
theorem take_rev {l : List Spn} {j : Nat} {s : Spn} (h : l[j]? = some s) : (l.take (j + 1)).reverse = s :: (l.take j).reverse := by
  rw [List.take_add_one, h]
  simp
theorem spNums_last {l : List Spn} {n : Nat} {s : Spn} (hn : l.length = n + 1) (h : l[n]? = some s) : spNums l = [n + 1, s.2 - 1, s.2 - s.1 - 1] ++ gaps s (l.take n).reverse := by
  have e : l.reverse = s :: (l.take n).reverse := by
    have := take_rev h
    rwa [List.take_of_length_le (by omega)] at this
  unfold spNums
  rw [e, hn]
  rfl
theorem gaps_len : ∀ (r : List Spn) (p : Spn), (gaps p r).length = 2 * r.length
  | [], _ => rfl
  | s :: r, p => by rw [gaps, List.length_cons, List.length_cons, gaps_len r s, List.length_cons]; omega
theorem gaps_lt {M : Nat} : ∀ (r : List Spn) (p : Spn), p.1 < M → (∀ s ∈ r, s.1 < M ∧ s.2 < M) → ∀ x ∈ gaps p r, x < M
  | [], _, _, _, x, h => by simp [gaps] at h
  | s :: r, p, hp, hr, x, h => by
    obtain ⟨h1, h2⟩ := hr s (List.mem_cons_self ..)
    rw [gaps] at h
    rcases List.mem_cons.1 h with rfl | h
    · omega
    · rcases List.mem_cons.1 h with rfl | h
      · omega
      · exact gaps_lt r s h1 (fun t ht => hr t (List.mem_cons_of_mem _ ht)) x h
theorem spNums_small {l : List Spn} (h : spFit l = true) : (spNums l).length ≤ 100 ∧ ∀ x ∈ spNums l, x < 18446744073709551616 := by
  obtain ⟨s, r, e1, e2, hl, h32, hok, hs⟩ := spFit_parts h
  have hall : ∀ t ∈ l, t.1 < 18446744073709551616 ∧ t.2 < 18446744073709551616 := fun t ht => by
    obtain ⟨j, hj⟩ := List.getElem?_of_mem ht
    have := spOk_one hok hj
    omega
  have hsm := hall s (by rw [e2]; simp)
  unfold spNums
  rw [e1]
  simp only []
  refine ⟨by simp only [List.length_cons, gaps_len]; omega, fun x hx => ?_⟩
  rcases List.mem_cons.1 hx with rfl | hx
  · omega
  · rcases List.mem_cons.1 hx with rfl | hx
    · omega
    · rcases List.mem_cons.1 hx with rfl | hx
      · omega
      · exact gaps_lt r s hsm.1 (fun t ht => hall t (by rw [e2]; simp [ht])) x hx
end Wig
namespace Go.Proofs.YtogioabdijgglaaDoor
open Go.ChangeShapes Go.WideShapes Go.ChangeAt Go.RowKit Go.Deep
set_option linter.unusedVariables false

/-- The slice at A lies in a block of cells of type t. -/
def Typed (w : World) (A : Option Addr) (t : TypeId) : Prop := ∀ b o s, A = some ⟨b, o, s⟩ → ∃ c m, w.heap[b]? = some (.cells c t m)
theorem Typed.apart {w : World} {A : Option Addr} {t u : TypeId} {k : IntKind} {base : Nat} {v : Value} {xs : List Nat} (h : Typed w A t) (ho : OwnN k u w base v xs) (ht : t ≠ u) {b o : Nat} {s : Option Nat} (e : A = some ⟨b, o, s⟩) : v.ownBlock ≠ some b := by
  obtain ⟨c, m, hc⟩ := h b o s e
  rcases ho.2 with ⟨rfl, _⟩ | ⟨g, cap, cur, rfl, _, hh, _⟩
  · intro h; cases h
  · intro h
    have : g = b := by simpa [Value.ownBlock] using h
    subst this
    rw [hc] at hh
    injection hh with hh
    injection hh with _ h2 _
    exact ht h2
theorem Typed.below {w w' : World} {A : Option Addr} {t : TypeId} (h : Typed w A t) (hb : Below w.heap.size w w') : Typed w' A t := fun b o s e => by
  obtain ⟨c, m, hc⟩ := h b o s e
  exact ⟨c, m, by rw [hb.block b (Array.getElem?_eq_some_iff.1 hc).1]; exact hc⟩
/-- What is read and is no row of the call's own is there behind an append to that row. -/
theorem Typed.grown {w w' : World} {A : Option Addr} {t u : TypeId} {k j : IntKind} {base B : Nat} {v : Value} {xs ys : List Nat} (h : Typed w A t) (hr : RdN j w w.heap.size A ys) (ho : OwnN k u w base v xs) (ht : t ≠ u) (hg : w.grownBy w' v.ownBlock) :
    Typed w' A t ∧ RdN j w' w'.heap.size A ys := by
  refine ⟨fun b o s e => ?_, fun hn => ?_⟩
  · obtain ⟨c, m, hc⟩ := h b o s e
    exact ⟨c, m, by rw [hg.block b (Array.getElem?_eq_some_iff.1 hc).1 (fun e2 => h.apart ho ht e e2.symm)]; exact hc⟩
  · obtain ⟨b, off, e, hb, hc⟩ := hr hn
    refine ⟨b, off, e, Nat.lt_of_lt_of_le hb hg.size, fun i x hx => ?_⟩
    rw [World.cell?_of_block (w := w) (hg.block b hb (fun e2 => h.apart ho ht e e2.symm))]
    exact hc i x hx
theorem own_lit (k : IntKind) (t : TypeId) (w : World) (base : Nat) (xs : List Nat) (hb : base ≤ w.heap.size) (hm : xs.length ≤ maxLen) : OwnN k t (w.alloc (.cells (ncells k xs).toArray t)) base (.slice (some ⟨w.heap.size, 0, none⟩) xs.length xs.length) xs := by
  refine ⟨by rw [ncells_length, Nat.mul_one], .inr ⟨w.heap.size, xs.length, (ncells k xs).toArray, rfl, hb, ?_, Nat.le_refl _, hm, ?_, ?_⟩⟩
  · show (w.heap.push _)[w.heap.size]? = _
    rw [Array.getElem?_push_size]
  · simp [ncells_length]
  · rw [Nat.mul_one, List.take_of_length_le (by simp [ncells_length])]
theorem typed_lit (w : World) (c : Array Value) (t : TypeId) : Typed (w.alloc (.cells c t)) (some ⟨w.heap.size, 0, none⟩) t := fun b o s e => by
  injection e with e
  injection e with e1 e2 e3
  subst e1
  refine ⟨c, (0, 0), ?_⟩
  show (w.heap.push _)[w.heap.size]? = _
  rw [Array.getElem?_push_size]

/-- Blocks of cells that are no bytes are as they were. -/
def Keep (w w' : World) : Prop := ∀ (k : Nat) (c : Array Value) (t : TypeId) (m : Nat × Nat), w.heap[k]? = some (Obj.cells c t m) → t ≠ 5 → w'.heap[k]? = w.heap[k]?
theorem Keep.refl (w : World) : Keep w w := fun _ _ _ _ _ _ => rfl
theorem Keep.trans {a b c : World} (h : Keep a b) (k : Keep b c) : Keep a c := fun i x t m hi ht => by
  have e := h i x t m hi ht
  exact (k i x t m (e.trans hi) ht).trans e
theorem Keep.of_below {w w' : World} (h : Below w.heap.size w w') : Keep w w' := fun k c t m hk _ => h.block k (Array.getElem?_eq_some_iff.1 hk).1
theorem Keep.of_grown {w w' : World} {k : IntKind} {base : Nat} {v : Value} {xs : List Nat} (ho : OwnN k 5 w base v xs) (hg : w.grownBy w' v.ownBlock) : Keep w w' := fun i c t m hi ht => hg.block i (Array.getElem?_eq_some_iff.1 hi).1 (fun e => by
  have : Typed w (some ⟨i, 0, none⟩) t := fun b o s e => by injection e with e; injection e with e1; subst e1; exact ⟨c, m, hi⟩
  exact this.apart ho ht rfl e.symm)
theorem OwnN.typed {k : IntKind} {t : TypeId} {w : World} {base n c : Nat} {A : Option Addr} {xs : List Nat} (h : OwnN k t w base (.slice A n c) xs) : Typed w A t := fun b o s e => by
  rcases h.2 with ⟨e', _⟩ | ⟨g, cap, cur, e', _, hh, _⟩
  · injection e' with e'; rw [e] at e'; cases e'
  · injection e' with e'; rw [e] at e'; injection e' with e'; injection e' with e1; subst e1; exact ⟨cur, (0, 0), hh⟩

/-- At lay's round's head. -/
def LayRel (bs vs : List Nat) (A : Option Addr) (base : Nat) (w : World) (vo vi : Value) (wr : World) : Prop :=
  ∃ k, k ≤ vs.length ∧ vi = .int .i64 ((k : Nat) : Int) ∧ OwnN .u8 5 wr base vo (bs ++ Wig.nums (vs.take k)) ∧ Below base w wr ∧ Typed wr A 22 ∧ RdN .u64 wr wr.heap.size A vs ∧ Keep w wr

set_option maxHeartbeats 2000000 in
theorem lay_any (v : Value) (A : Option Addr) (n c : Nat) (bs vs : List Nat) (w : World) (base : Nat) (hv : OwnN .u8 5 w base v bs) (hn : n = vs.length) (hr : RdN .u64 w w.heap.size A vs) (ht : Typed w A 22) (hb : base ≤ w.heap.size) (h2 : 2 ≤ base) (hfit : ∀ x ∈ vs, x < 18446744073709551616) (hl : bs.length + 8 * n ≤ 900000) (hT : Tab w) :
    Calls Tryd.prog 18 #[v, .slice A n c] w fun e w' => ∃ v', e = .returned v' ∧ OwnN .u8 5 w' base v' (bs ++ Wig.nums vs) ∧ Below base w w' ∧ Keep w w' := by
  have HV := Lib.hid hv
  have HR := Lib.hid hr
  have HT := Lib.hid hT
  have HY := Lib.hid ht
  have HN := Lib.hid hn
  have HF := Lib.hid hfit
  have HL := Lib.hid hl
  have HB := Lib.hid (And.intro hb h2)
  clear hv hr hT ht hn hfit hb h2 hl
  have hn9 : n ≤ 900000 := by have := HL.out; omega
  go_enter Tryd.func18, Tryd.ntmps18
  go_wp2_with fail
  go_loopw [0, 11] (fun vo vi wr => LayRel bs vs A base w vo vi wr) (fun _ vi _ => n - (intOf vi).toNat)
  case atStart => exact ⟨0, Nat.zero_le _, rfl, by simpa [Wig.nums] using HV.out, Below.refl _ _, HY.out, HR.out, Keep.refl _⟩
  case round =>
    obtain ⟨k, hk, rfl, hown, hbel, hty, hrd, hkeep⟩ := hrel
    have KK := Lib.hid hkeep
    rw [← HN.out] at hk
    have KO := Lib.hid hown
    have KB := Lib.hid hbel
    have KY := Lib.hid hty
    have KR := Lib.hid hrd
    by_cases hlt : k < n
    · obtain ⟨x, hx⟩ : ∃ x, vs[k]? = some x := ⟨_, List.getElem?_eq_getElem (by have := HN.out; omega)⟩
      obtain ⟨ab, ao, rfl, hab, hcell⟩ := hrd.at_ hx
      have HX := Lib.hid hx
      have i0 : (0 : Int) ≤ (k : Int) := by omega
      have i1 : (k : Int) < (n : Int) := by omega
      have hsz : base ≤ wr.heap.size := Nat.le_trans HB.out.1 hbel.size
      have hTr : Tab wr := by
        have h1 := HB.out.2
        have hs := World.block_lt_of_cell? w _ HT.out.c0
        have q : ∀ j, wr.cell? ⟨1, j, none⟩ = w.cell? ⟨1, j, none⟩ := fun j => hbel.cell (by simp only []; omega)
        exact ⟨(q 0).trans HT.out.c0, (q 1).trans HT.out.c1, (q 2).trans HT.out.c2, (q 3).trans HT.out.c3⟩
      have C := Lib.hid (put_any x wr (HF.out x (List.mem_of_getElem? hx)) hTr)
      have HS := Lib.hid hsz
      have hle : (bs ++ Wig.nums (vs.take k)).length + 8 ≤ 1000000 := by
        have h1 := Wig.nums_le (vs.take k)
        have h2 := HL.out
        rw [List.length_append]
        rw [List.length_take] at h1
        omega
      have HLE := Lib.hid hle
      unfold PutsAt at C
      clear hown hbel hty hrd hx hab hTr hk hsz hle hkeep
      go_wp2_with fail
      refine (C.out).mono ?_
      rintro e w1 ⟨A1, m, c1, rfl, hm, hmc, hcm, hr1, hnil, hb1⟩
      have O1 := Lib.hid (KO.out.below hb1 (Nat.le_refl _))
      have Y1 := Lib.hid (KY.out.below hb1)
      have R1 := Lib.hid (KR.out.step hb1)
      have B1 := Lib.hid (KB.out.trans (hb1.mono HS.out))
      have S1 := Lib.hid (Nat.le_trans HS.out hb1.size)
      have V1 := Lib.hid hr1
      have K1 := Lib.hid (KK.out.trans (Keep.of_below hb1))
      have M1 := Lib.hid hm
      have L1 := Lib.hid (show (bs ++ Wig.nums (vs.take k)).length + m ≤ 1000000 by have := HLE.out; have := Wig.vsize_le x; rw [hm, Wig.venc_length]; omega)
      clear hm hmc hcm hr1 hnil hb1 C
      go_wp2_with (at_builtin; refine wpList_append_bytes rfl _ _ rfl base _ _ (Wig.venc x) rfl O1.out w1.heap.size A1 c1 m M1.out.symm rfl V1.out L1.out S1.out ?_)
      intro v' w2 hown2 hgr
      obtain ⟨ty2, rd2⟩ := Y1.out.grown (B := 0) R1.out O1.out (by decide) hgr
      have hb2 : Below base w w2 := B1.out.grown hgr S1.out (fun q hq => (O1.out.block q hq).1)
      have R : LayRel bs vs (some ⟨ab, ao, none⟩) base w v' (.int .i64 ((k : Int) + 1)) w2 := ⟨k + 1, by have := HN.out; omega, rfl, by rw [Wig.nums_take HX.out]; exact hown2, hb2, ty2, rd2, K1.out.trans (Keep.of_grown O1.out hgr)⟩
      have R' := Lib.hid R
      clear hown2 hgr ty2 rd2 hb2 R
      go_wp2_with fail
      go_roundw
      case rel => exact R'.out
      case measure => simp [intOf]; omega
    · have t : decide (k < n) = false := decide_eq_false hlt
      have e : vs.take k = vs := List.take_of_length_le (by rw [← HN.out]; omega)
      rw [e] at hown
      have R := Lib.hid (And.intro hown (And.intro hbel hkeep))
      clear hown hbel hty hrd hk hlt e KO KB KY KR KK hkeep
      go_wp2_with fail
      go_ret
      exact ⟨_, rfl, R.out.1, R.out.2⟩

/-- At spanNumbers' round's head: k spans are left. -/
def SnRel (l : List Wig.Spn) (w : World) (vo vi : Value) (wr : World) : Prop :=
  ∃ k L p, k + 1 ≤ l.length ∧ vi = .int .i64 ((k : Int) - 1) ∧ l[k]? = some p ∧ OwnN .u64 22 wr w.heap.size vo L ∧ L ++ Wig.gaps p (l.take k).reverse = Wig.spNums l ∧ Below w.heap.size w wr ∧ L.length ≤ 3 + 2 * (l.length - k)
theorem u64_info : (Tryd.prog.info? 22).map (fun i => (i.zero, i.size, i.bytes)) = some (some (.int .u64 0), 1, 8) := by kernel_rfl
theorem cell_two_u64 (w : World) (a b : Nat) : ∀ j u, (ncells .u64 [a, b])[j]? = some u → (w.alloc (.cells #[.int .u64 (a : Int), .int .u64 (b : Int)] 22)).cell? ((⟨w.heap.size, 0, none⟩ : Addr).add j) = some u := by
  intro j u hj
  rw [add_plain, Nat.zero_add, World.cell?_alloc_at _ _ _ _ rfl]
  simpa [ncells] using hj
theorem grown_by {base : Nat} {wr w3 : World} {o : Obj} {v : Value} (hg : ((wr.alloc o).drew).grownBy w3 v.ownBlock) (hB : base ≤ wr.heap.size) (ho : ∀ q, v.ownBlock = some q → base ≤ q) : Below base wr w3 :=
  ((Below.refl base wr).alloc hB o).drew.grown hg (by simp; omega) ho

set_option maxHeartbeats 4000000 in
set_option maxRecDepth 100000 in
theorem spanNumbers_any (A : Option Addr) (n c : Nat) (l : List Wig.Spn) (w : World) (hn : n = l.length) (h32 : n ≤ 32) (h0 : 0 < n) (hok : Wig.spOk l = true) (hr : RdS w w.heap.size A l) :
    Calls Tryd.prog 35 #[.slice A n c] w fun e w' => ∃ v, e = .returned v ∧ OwnN .u64 22 w' w.heap.size v (Wig.spNums l) ∧ Below w.heap.size w w' := by
  obtain ⟨i0, hi, hz0, hz1, hz2⟩ := info_parts u64_info
  obtain ⟨m, hm⟩ : ∃ m, n = m + 1 := ⟨n - 1, by omega⟩
  obtain ⟨⟨s0, s1⟩, hs⟩ : ∃ s, l[m]? = some s := ⟨_, List.getElem?_eq_getElem (by omega)⟩
  obtain ⟨b, off, rfl, hb, hc0, hc1⟩ := hr.at_ hs
  simp only [] at hc0 hc1
  obtain ⟨q1, q2⟩ := Wig.spOk_one hok hs
  simp only [] at q1 q2
  have hlast := Wig.spNums_last (by omega) hs
  have HR := Lib.hid hr
  have HN := Lib.hid hn
  have HK := Lib.hid hok
  have e1 : (n : Int) - 1 = (m : Int) := by omega
  have e1w : IntKind.i64.wrap ((n : Int) - 1) = (m : Int) := by rw [IntKind.wrap_i64]; omega
  have e2 : IntKind.u64.wrap (n : Int) = (n : Int) := by rw [IntKind.wrap_u64]; omega
  obtain ⟨x1, hx1⟩ : ∃ x1, x1 = s1 - 1 := ⟨_, rfl⟩
  obtain ⟨x2, hx2⟩ : ∃ x2, x2 = s1 - s0 := ⟨_, rfl⟩
  obtain ⟨x3, hx3⟩ : ∃ x3, x3 = x2 - 1 := ⟨_, rfl⟩
  have f1 : IntKind.u64.wrap ((s1 : Int) - 1) = (x1 : Int) := by rw [IntKind.wrap_u64]; omega
  have f2 : IntKind.u64.wrap ((s1 : Int) - (s0 : Int)) = (x2 : Int) := by rw [IntKind.wrap_u64]; omega
  have f3 : IntKind.u64.wrap ((x2 : Int) - 1) = (x3 : Int) := by rw [IntKind.wrap_u64]; omega
  have i0' : (0 : Int) ≤ (m : Int) := by omega
  have i1' : (m : Int) < (n : Int) := by omega
  have g1 : IntKind.i64.wrap ((n : Int) - 2) = (m : Int) - 1 := by rw [IntKind.wrap_i64]; omega
  have hL : Wig.spNums l = [n, x1, x3] ++ Wig.gaps (s0, s1) (l.take m).reverse := by rw [hlast, hx1, hx3, hx2, hm]
  have HL := Lib.hid hL
  have HS := Lib.hid hs
  have HM := Lib.hid hm
  have HB := Lib.hid hb
  clear hr hn hok hs hm hL hx1 hx2 hx3 q1 q2 hlast hb h0
  go_enter Tryd.func35, Tryd.ntmps35
  go_wp2_with fail
  have A0 : SnRel l w (.slice (some ⟨w.heap.size + 1, 0, none⟩) 3 3) (.int .i64 ((m : Int) - 1)) ((w.alloc (.cells #[.int .u64 (s0 : Int), .int .u64 (s1 : Int)] 42)).alloc (.cells #[.int .u64 (n : Int), .int .u64 (x1 : Int), .int .u64 (x3 : Int)] 22)) := by
    have b1 : Below w.heap.size w (w.alloc (.cells #[.int .u64 (s0 : Int), .int .u64 (s1 : Int)] 42)) := (Below.refl _ _).alloc (Nat.le_refl _) _
    refine ⟨m, [n, x1, x3], (s0, s1), by have := HN.out; have := HM.out; omega, rfl, HS.out, ?_, HL.out.symm, b1.alloc b1.size _, by simp⟩
    have := own_lit .u64 22 (w.alloc (.cells #[.int .u64 (s0 : Int), .int .u64 (s1 : Int)] 42)) w.heap.size [n, x1, x3] b1.size (by simp [maxLen])
    simp only [World.size_alloc] at this
    exact this
  have A0' := Lib.hid A0
  clear A0 hc0 hc1 e1 e1w e2 f1 f2 f3 i0' i1' g1 HL HS
  go_loopw [4, 5] (fun vo vi wr => SnRel l w vo vi wr) (fun _ vi _ => (intOf vi + 1).toNat)
  case atStart => exact A0'.out
  case round =>
    obtain ⟨k, L, p, hk, rfl, hp, hown, heq, hbel, hLl⟩ := hrel
    rw [← HN.out] at hk hLl
    have KO := Lib.hid hown
    have KB := Lib.hid hbel
    clear A0'
    by_cases hk0 : 0 < k
    · obtain ⟨j, hj⟩ : ∃ j, k = j + 1 := ⟨k - 1, by omega⟩
      obtain ⟨⟨a0, a1⟩, ha⟩ : ∃ s, l[j]? = some s := ⟨_, List.getElem?_eq_getElem (by have := HN.out; omega)⟩
      obtain ⟨p0, p1⟩ := p
      have o1 := Wig.spOk_pair l j _ _ HK.out ha (by rw [← hj]; exact hp)
      have o2 := Wig.spOk_one HK.out ha
      have o3 := Wig.spOk_one HK.out hp
      simp only [] at o1 o2 o3
      obtain ⟨b', off', e', hb', hp0, hp1⟩ := (HR.out.below KB.out).at_ hp
      injection e' with e'
      injection e' with e1 e2
      subst e1 e2
      obtain ⟨b'', off'', e', hb'', ha0, ha1⟩ := (HR.out.below KB.out).at_ ha
      injection e' with e'
      injection e' with e1 e2
      subst e1 e2
      simp only [] at hp0 hp1 ha0 ha1
      obtain ⟨y1, hy1⟩ : ∃ y1, y1 = p0 - a1 := ⟨_, rfl⟩
      obtain ⟨y2, hy2⟩ : ∃ y2, y2 = y1 - 1 := ⟨_, rfl⟩
      obtain ⟨y3, hy3⟩ : ∃ y3, y3 = a1 - a0 := ⟨_, rfl⟩
      obtain ⟨y4, hy4⟩ : ∃ y4, y4 = y3 - 1 := ⟨_, rfl⟩
      have f1 : IntKind.u64.wrap ((p0 : Int) - (a1 : Int)) = (y1 : Int) := by rw [IntKind.wrap_u64]; omega
      have f2 : IntKind.u64.wrap ((y1 : Int) - 1) = (y2 : Int) := by rw [IntKind.wrap_u64]; omega
      have f3 : IntKind.u64.wrap ((a1 : Int) - (a0 : Int)) = (y3 : Int) := by rw [IntKind.wrap_u64]; omega
      have f4 : IntKind.u64.wrap ((y3 : Int) - 1) = (y4 : Int) := by rw [IntKind.wrap_u64]; omega
      have ej : (k : Int) - 1 = (j : Int) := by omega
      rw [ej]
      have g1 : IntKind.i64.wrap ((j : Int) + 1) = (k : Int) := by rw [IntKind.wrap_i64]; omega
      have i1 : (0 : Int) ≤ (k : Int) := by omega
      have i2 : (k : Int) < (n : Int) := by omega
      have i3 : (0 : Int) ≤ (j : Int) := by omega
      have i4 : (j : Int) < (n : Int) := by omega
      have t1 : decide ((0 : Int) ≤ (j : Int)) = true := decide_eq_true i3
      have HSZ := Lib.hid KB.out.size
      have lb : b < w.heap.size := hb'
      have HLL := Lib.hid (show L.length ≤ 67 by omega)
      have hnext : SnRel l w (.slice none 0 0) (.int .i64 ((j : Int) - 1)) wr → True := fun _ => trivial
      have hgaps : Wig.gaps (p0, p1) (l.take k).reverse = [y2, y4] ++ Wig.gaps (a0, a1) (l.take j).reverse := by
        rw [hj, Wig.take_rev ha, Wig.gaps, hy2, hy1, hy4, hy3]
        rfl
      have HG := Lib.hid (show (L ++ [y2, y4]) ++ Wig.gaps (a0, a1) (l.take j).reverse = Wig.spNums l by rw [List.append_assoc, ← hgaps]; exact heq)
      have HA := Lib.hid (And.intro ha (And.intro hj (show (L ++ [y2, y4]).length ≤ 3 + 2 * (n - j) by simp; omega)))
      clear hp hown heq hbel hLl hk0 ha o1 o2 o3 hb' hb'' hy1 hy2 hy3 hy4 hnext hgaps ej hk hj
      go_wp2_with fail
      go_region_held3 (fun w' => w'.cell? ⟨b, off + k * 2, none⟩ = some (.int .u64 (p0 : Int)) ∧ w'.cell? ⟨b, off + j * 2, none⟩ = some (.int .u64 (a0 : Int)) ∧ w'.cell? ⟨b, off + j * 2 + 1, none⟩ = some (.int .u64 (a1 : Int)))
        (first
          | go_keep
          | exact ⟨(KW.out.cell lb).trans hp0, (KW.out.cell lb).trans ha0, (KW.out.cell lb).trans ha1⟩)
        ((refine step_append_lies _ (by rfl) _ _ _ (by rfl) w.heap.size 22 i0 _ 1 8 Tryd.underlying51 hi hz0 hz1 hz2 rfl (by omega) _ _ _ (by rfl) (World.ownsRow.alloc (w := wr) KO.out _) ⟨wr.heap.size, 0, none⟩ 2 2 (ncells .u64 [y2, y4]) (by rfl) (by rfl) (cell_two_u64 wr y2 y4) (ncells_one .u64 [y2, y4]) (by omega) (by have := HLL.out; unfold maxLen; omega) (by have := HLL.out; omega) (by have := HSZ.out; simp; omega) (wr.heap.size + 1) (by simp) ?_; intro gg cap w3 hown1 hgrow hat hlt2; have KW := Lib.hid (grown_by hgrow HSZ.out (fun q hq => (KO.out.block q hq).1))))
      have R : SnRel l w (.slice (some ⟨gg, 0, none⟩) (L.length + 2) cap) (.int .i64 ((j : Int) - 1)) w3 := by
        refine ⟨j, L ++ [y2, y4], (a0, a1), by have := HA.out.2.1; have := HN.out; omega, rfl, HA.out.1, ?_, HG.out, KB.out.trans KW.out, by rw [← HN.out]; exact HA.out.2.2⟩
        unfold OwnN
        rw [ncells_app, List.length_append]
        exact hown1
      have R' := Lib.hid R
      have HJ := Lib.hid HA.out.2.1
      clear hown1 hgrow hat hlt2 R
      go_wp2_with fail
      go_roundw
      case rel => exact R'.out
      case measure => simp [intOf]
    · obtain rfl : k = 0 := by omega
      have t1 : decide ((0 : Int) ≤ ((0 : Nat) : Int) - 1) = false := by decide
      have R : OwnN .u64 22 wr w.heap.size u4 (Wig.spNums l) := by
        rw [List.take_zero, List.reverse_nil, Wig.gaps, List.append_nil] at heq
        rw [← heq]
        exact hown
      have R' := Lib.hid (And.intro R hbel)
      clear hp hown heq hbel hLl hk0 hk R
      go_wp2_with fail
      go_ret
      exact ⟨_, rfl, R'.out.1, R'.out.2⟩
end Go.Proofs.YtogioabdijgglaaDoor
