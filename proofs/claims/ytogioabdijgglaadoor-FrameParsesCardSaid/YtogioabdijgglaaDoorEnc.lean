/-
  What package frame's layField and Encode return. Condition: the tables hold what their texts lay.
-/
import Derived.Test.YtogioabdijgglaaDoorLay
import Derived.Test.YtogioabdijgglaaDoorRdB
import Derived.Deep.RegionWith
namespace Go.Proofs.YtogioabdijgglaaDoor
open Go.ChangeShapes Go.WideShapes Go.ChangeAt Go.RowKit Go.Deep
set_option linter.unusedVariables false

theorem writtenKind_any (v : Value) (f : Wig.Fr) (w : World) (B : Nat) (hv : Fv w B v f) :
    Calls Tryd.prog 19 #[v] w fun e w' => e = .returned (.int .u64 ((Wig.wkind f : Nat) : Int)) ∧ Below w.heap.size w w' := by
  obtain ⟨D, dc, S, sc, rfl, hl⟩ := hv
  have hbel : Below w.heap.size w (w.alloc (.cells (farr f D dc S sc) 26)) := (Below.refl _ _).alloc (Nat.le_refl _) _
  have hk : IntKind.u64.wrap f.kind = ((Wig.knat f.kind : Nat) : Int) := by rw [IntKind.wrap_u64]; unfold Wig.knat; omega
  unfold farr at hbel ⊢
  have HB := Lib.hid hbel
  unfold Wig.wkind
  cases hfin : f.fin with
  | true =>
    rw [hfin] at HB
    clear hbel hl
    simp only [if_true]
    go_enter Tryd.func19, Tryd.ntmps19
    go_wp2_with fail
    go_ret
    exact ⟨rfl, HB.out⟩
  | false =>
    rw [hfin] at HB
    clear hbel hl
    simp only [Bool.false_eq_true, if_false]
    go_enter Tryd.func19, Tryd.ntmps19
    go_wp2_with fail
    go_ret
    exact ⟨rfl, HB.out⟩

theorem lit_one (x : World) (a : Nat) : Typed (x.alloc (.cells #[.int .u64 (a : Int)] 22)) (some ⟨x.heap.size, 0, none⟩) 22 ∧ RdN .u64 (x.alloc (.cells #[.int .u64 (a : Int)] 22)) (x.alloc (.cells #[.int .u64 (a : Int)] 22)).heap.size (some ⟨x.heap.size, 0, none⟩) [a] := by
  refine ⟨typed_lit _ _ _, fun _ => ⟨x.heap.size, 0, rfl, by simp, fun j y hj => ?_⟩⟩
  rw [World.cell?_alloc_at _ _ _ _ rfl, Nat.zero_add]
  match j, hj with
  | 0, hj => simp at hj; subst hj; rfl
  | j + 1, hj => simp at hj
theorem step_append_bytes {w : World} {ops : Array Oper} {o : Oper} {a : Act} {K : Act → World → Prop} {Q : Exit → Act → World → Prop} {E : Prop} (hgd : o.guard = none) (s x : Operand)
    (ho : o.op = .call { callee := .builtin .append, args := #[s, x], argTypes := #[23, 23] })
    (base : Nat) (v : Value) (xs ys : List Nat) (hs : a.eval s = v) (hown : OwnN .u8 5 w base v xs) (B : Nat) (A : Option Addr) (c n : Nat) (hn : ys.length = n) (hx : a.eval x = .slice A n c) (hr : RdN .u8 w B A ys)
    (h63 : xs.length + n ≤ 1000000) (hbase : base ≤ w.heap.size)
    (h : ∀ v' w', OwnN .u8 5 w' base v' (xs ++ ys) → w.grownBy w' v.ownBlock → K (a.put o.dst v') w') : if Region.wanted o (yielded ops a.tmps) = true then Oper.wp Tryd.prog o a w K Q else E := by
  have hw : Region.wanted o (yielded ops a.tmps) = true := by simp [Region.wanted, hgd]
  rw [if_pos hw]
  subst hn
  obtain ⟨i0, hi, hz0, hz1, hz2⟩ := info_parts bytes_info
  cases A with
  | none =>
    have hnil : ys = [] := by
      rcases ys with _ | ⟨p, ys⟩
      · rfl
      · obtain ⟨b, off, e, _⟩ := hr (by simp)
        cases e
    subst hnil
    have hrun := append_none_run (ty := o.type) Tryd.underlying23 hi hown c
    unfold Oper.wp
    simp only [List.length_nil] at hx
    simp [execOp, ho, resolve, invoke, builtin, hs, hx, hrun, Result.andThen]
    exact h v w (by simpa using hown) (World.grownBy.refl w _)
  | some ad =>
    obtain ⟨v', w', hrun, h1, h2, _⟩ := run_append_own (P := Tryd.prog) w base 23 o.type 5 i0 (.int .u8 0) 1 1 Tryd.underlying23 hi hz0 hz1 hz2 rfl (by decide) v xs.length (ncells .u8 xs) hown ad ys.length c (ncells .u8 ys) (by rw [ncells_length, Nat.mul_one]) hr.cells_ (ncells_one .u8 ys)
      (by unfold maxLen; omega) (by omega) hbase
    unfold Oper.wp
    simp [execOp, ho, resolve, invoke, builtin, hs, hx, hrun, Result.andThen]
    refine h v' w' ?_ h2
    unfold OwnN
    rw [List.length_append, ncells_app]
    exact h1
theorem at_typed {w w' : World} {f : Wig.Fr} {D S : Option Addr} {dc sc : Nat} (hw : w' = w.alloc (.cells (farr f D dc S sc) 26)) : ∃ c m, w'.heap[w.heap.size]? = some (.cells c 26 m) := by
  subst hw
  obtain ⟨c, m, h⟩ := typed_lit w (farr f D dc S sc) 26 w.heap.size 0 none rfl
  exact ⟨c, m, h⟩

/-- Behind lay the box is as it was. -/
theorem lay_held {wn w3 : World} {base b a : Nat} {c : Array Value} {m : Nat × Nat} {u : Value} (h8 : wn.cell? ⟨b, 8, none⟩ = some u) (hz : wn.heap[b]? = some (Obj.cells c 26 m)) (hb : b < wn.heap.size) (hB : base ≤ wn.heap.size)
    (h3 : Below base ((wn.alloc (.cells #[.int .u64 (a : Int)] 22)).drew) w3) (hk : Keep ((wn.alloc (.cells #[.int .u64 (a : Int)] 22)).drew) w3) : (w3.cell? ⟨b, 8, none⟩ = some u ∧ Below base wn w3) ∧ w3.heap[b]? = some (Obj.cells c 26 m) := by
  have h0 : Below wn.heap.size wn ((wn.alloc (.cells #[.int .u64 (a : Int)] 22)).drew) := ((Below.refl _ _).alloc (Nat.le_refl _) _).drew
  have e := h0.block b hb
  have e2 := hk b c 26 m (e.trans hz) (by decide)
  exact ⟨⟨(World.cell?_of_block (w := wn) (e2.trans e)).trans h8, (h0.mono hB).trans h3⟩, (e2.trans e).trans hz⟩
theorem new_held {wn : World} {base b : Nat} {u : Value} (o : Obj) (h8 : wn.cell? ⟨b, 8, none⟩ = some u) (hb : b < wn.heap.size) (hB : base ≤ wn.heap.size) : ((wn.alloc o).drew).cell? ⟨b, 8, none⟩ = some u ∧ Below base wn ((wn.alloc o).drew) := by
  have h0 : Below wn.heap.size wn ((wn.alloc o).drew) := ((Below.refl _ _).alloc (Nat.le_refl _) _).drew
  exact ⟨(h0.cell hb).trans h8, h0.mono hB⟩
theorem app_held {wn w3 w4 : World} {base b : Nat} {c : Array Value} {m : Nat × Nat} {u v : Value} {xs : List Nat} (h : w3.cell? ⟨b, 8, none⟩ = some u ∧ Below base wn w3) (hz : w3.heap[b]? = some (Obj.cells c 26 m))
    (ho : OwnN .u8 5 w3 base v xs) (hg : w3.grownBy w4 v.ownBlock) (hB : base ≤ w3.heap.size) : w4.cell? ⟨b, 8, none⟩ = some u ∧ Below base wn w4 :=
  ⟨(World.cell?_of_block (w := w3) (Keep.of_grown ho hg b c _ m hz (by decide))).trans h.1, h.2.grown hg hB (fun q hq => (ho.block q hq).1)⟩

set_option maxHeartbeats 1000000 in
theorem layField_any (vo v : Value) (f : Wig.Fr) (k : Nat) (bs : List Nat) (w : World) (base : Nat) (hk : k < 8) (hv : Fv w base v f) (ho : f.Ok) (hfit : Wig.Fits f k) (hown : OwnN .u8 5 w base vo bs) (hb : base ≤ w.heap.size) (h2 : 2 ≤ base) (hl : bs.length ≤ 100000) (hd : f.data.length ≤ 100000) (hT : Tab w) :
    Calls Tryd.prog 20 #[vo, v, .int .i64 (k : Int)] w fun e w' => ∃ v', e = .returned v' ∧ OwnN .u8 5 w' base v' (bs ++ Wig.layF f k) ∧ Below base w w' := by
  obtain ⟨D, dc, S, sc, rfl, hlie⟩ := hv
  have hat := at_box w f D dc S sc 26
  have hbel : Below w.heap.size w (w.alloc (.cells (farr f D dc S sc) 26)) := (Below.refl _ _).alloc (Nat.le_refl _) _
  obtain ⟨wn, hwn⟩ : ∃ wn, wn = w.alloc (.cells (farr f D dc S sc) 26) := ⟨_, rfl⟩
  have hty := at_typed hwn
  rw [← hwn] at hat hbel
  have hsz : w.heap.size < wn.heap.size := by rw [hwn]; simp
  have HO := Lib.hid (hown.below hbel (Nat.le_refl _))
  have HB := Lib.hid hbel
  have HT := Lib.hid (hT.below hbel)
  have HA := Lib.hid hat
  have HL := Lib.hid (hlie.below (hbel.mono hb))
  have HY := Lib.hid hty
  have HS := Lib.hid (And.intro hb (And.intro h2 hsz))
  have HN := fun _ : Unit => (And.intro hl hd)
  unfold Wig.Fits at hfit
  unfold Wig.layF
  simp only [farr] at hwn
  by_cases h6 : k = 6
  · subst h6
    simp only [if_true] at hfit ⊢
    have hsf : 0 < f.spans.length ∧ f.spans.length ≤ 32 ∧ Wig.spOk f.spans = true := by
      obtain ⟨_, _, _, _, hlen1, h32, hok, _⟩ := Wig.spFit_parts hfit
      exact ⟨by omega, h32, hok⟩
    have C := Lib.hid (spanNumbers_any S f.spans.length sc f.spans wn rfl hsf.2.1 hsf.1 hsf.2.2 (HL.out.sr.wide (Nat.le_trans hb hbel.size)))
    have k9 : wn.cell? ⟨w.heap.size, 9, none⟩ = some (.slice S f.spans.length sc) := hat.c9
    have HP := Lib.hid (show (Wig.spNums f.spans).length ≤ 100 ∧ ∀ x ∈ Wig.spNums f.spans, x < 18446744073709551616 from Wig.spNums_small hfit)
    clear hlie hat hbel hty hsz hown hb h2 hl hd hT hfit hsf hk ho
    clear k9
    simp only [farr]
    go_enter Tryd.func20, Tryd.ntmps20
    go_wp2_with fail
    rw [← hwn]
    clear hwn
    refine (C.out).mono ?_
    rintro e w2 ⟨vn, rfl, hown2, hb2⟩
    obtain ⟨An, cn, rfl, _, _, hrn, _⟩ := hown2.rd
    have hb2' := hb2
    have LA := Lib.hid (lay_any vo An (Wig.spNums f.spans).length cn bs (Wig.spNums f.spans) w2 base (HO.out.below hb2 (Nat.le_refl _)) rfl hrn hown2.typed (by have := HS.out; have := hb2.size; have := HB.out.size; omega) HS.out.2.1 HP.out.2 (by have := (HN ()).1; have := HP.out.1; omega) (HT.out.below hb2))
    have B2 := Lib.hid ((HB.out.mono HS.out.1).trans (hb2.mono (by have := HS.out; have := HB.out.size; omega)))
    clear hown2 hb2 hrn hb2'
    go_wp2_with fail
    refine (LA.out).mono ?_
    rintro e w3 ⟨v', rfl, ho3, hb3, hk3⟩
    have R := Lib.hid (And.intro ho3 (B2.out.trans hb3))
    clear ho3 hb3 hk3
    go_wp2_with fail
    go_ret
    exact ⟨_, rfl, R.out.1, R.out.2⟩
  · by_cases h7 : k = 7
    · subst h7
      simp only [show ¬ (7 : Nat) = 6 by omega, if_false, if_true] at hfit ⊢
      have k8 : wn.cell? ⟨w.heap.size, 8, none⟩ = some (.slice D f.data.length dc) := hat.c8
      have e2 : IntKind.u64.wrap (f.data.length : Int) = (f.data.length : Int) := by rw [IntKind.wrap_u64]; omega
      have HK8 := Lib.hid k8
      have LA := Lib.hid (fun (w1 : World) (hb1 : Below wn.heap.size wn w1) (A1 : Option Addr) (hA : Typed w1 A1 22 ∧ RdN .u64 w1 w1.heap.size A1 [f.data.length]) => lay_any vo A1 1 1 bs [f.data.length] w1 base (HO.out.below hb1 (Nat.le_refl _)) rfl hA.2 hA.1 (by have := hb1.size; have := HB.out.size; have := HS.out; omega) HS.out.2.1 (by intro y hy; simp at hy; have := (HN ()).2; omega) (by have := (HN ()).1; omega) (HT.out.below hb1))
      have HE := Lib.hid e2
      clear hlie hat hbel hty hsz hown hb h2 hl hd hT hfit hk ho k8
      simp only [farr]
      go_enter Tryd.func20, Tryd.ntmps20
      go_wp2_with fail
      rw [← hwn]
      clear hwn
      obtain ⟨hc8, hm8, HY8⟩ := HY.out
      have HZ := Lib.hid HY8
      clear HY8
      have la2 : (Calls Tryd.prog 18 #[vo, .slice (some ⟨wn.heap.size, 0, none⟩) 1 1] ((wn.alloc (.cells #[.int .u64 (f.data.length : Int)] 22)).drew) fun e w3 => ∃ v3, e = .returned v3 ∧ OwnN .u8 5 w3 base v3 (bs ++ Wig.nums [f.data.length]) ∧
          (w3.cell? ⟨w.heap.size, 8, none⟩ = some (.slice D f.data.length dc) ∧ Below base wn w3) ∧ w3.heap[w.heap.size]? = some (Obj.cells hc8 26 hm8)) := by
        refine ((LA.out _ (((Below.refl _ _).alloc (Nat.le_refl _) _).drew) _ (lit_one wn _)).mono fun e w3 h => ?_)
        obtain ⟨v3, rfl, ho3, hb3, hk3⟩ := h
        obtain ⟨q1, q2⟩ := lay_held HK8.out HZ.out HS.out.2.2 (Nat.le_trans HS.out.1 HB.out.size) hb3 hk3
        exact ⟨v3, rfl, ho3, q1, q2⟩
      have LA2 := Lib.hid la2
      clear LA la2
      go_region_held3 (fun w' => w'.cell? ⟨w.heap.size, 8, none⟩ = some (.slice D f.data.length dc) ∧ Below base wn w')
        (first
          | exact ⟨HK8.out, (Below.refl _ _).drew⟩
          | exact new_held _ HK8.out HS.out.2.2 (Nat.le_trans HS.out.1 HB.out.size)
          | assumption
          | exact KX.out
          | exact KW.out
          | fail)
        (first
          | (go_at_call 18; refine (LA2.out).mono ?_; rintro e w3 ⟨v3, rfl, ho3, hkw, hkz⟩; have KO3 := Lib.hid ho3; have KW := Lib.hid hkw; have KZ := Lib.hid hkz; clear ho3 hkw hkz)
          | (refine step_append_bytes (by rfl) _ _ (by rfl) base _ _ f.data (by rfl) KO3.out base D dc _ rfl (by rfl) (HL.out.dr.below KW.out.2) ?_ ?_ ?_; (have := (HN ()); rw [List.length_append]; have := Wig.nums_le [f.data.length]; simp at this; omega); (have := KW.out.2.size; have := HS.out; omega); intro v4 w4 hown4 hgr4; have KX := Lib.hid (app_held KW.out KZ.out KO3.out hgr4 (by have := KW.out.2.size; have := HS.out; omega)); have KO4 := Lib.hid hown4; clear hown4 hgr4)
          | fail)
      go_wp2_with fail
      go_ret
      refine ⟨_, rfl, ?_, (HB.out.mono HS.out.1).trans KX.out.2⟩
      have := KO4.out
      simpa [Wig.nums] using this
    · simp only [if_neg h6, if_neg h7] at hfit ⊢
      have hk6 : k < 6 := by omega
      have CN := Lib.hid (numberOf_any w.heap.size 0 k wn hk6)
      have kx := hat.num k hk6
      simp only [Nat.zero_add] at CN kx
      obtain ⟨x, hx⟩ : ∃ x, x = f.get k := ⟨_, rfl⟩
      have hx64 : x < 18446744073709551616 := by rw [hx]; exact ho.num k
      rw [← hx] at kx ⊢
      have b1 := hbel.alloc hbel.size (.cells #[.int .u64 (x : Int)] 22)
      have hb1 : Below wn.heap.size wn (wn.alloc (.cells #[.int .u64 (x : Int)] 22)) := (Below.refl _ _).alloc (Nat.le_refl _) _
      have LA := Lib.hid (lay_any vo (some ⟨wn.heap.size, 0, none⟩) 1 1 bs [x] (wn.alloc (.cells #[.int .u64 (x : Int)] 22)) base (HO.out.below hb1 (Nat.le_refl _)) rfl (lit_one wn x).2 (lit_one wn x).1 (by have := hb1.size; have := hbel.size; omega) h2 (by intro y hy; simp at hy; omega) (by omega) (HT.out.below hb1))
      have B2 := Lib.hid ((hbel.mono hb).trans (hb1.mono (Nat.le_trans hb hbel.size)))
      have t6 : ((k : Int) == 6) = false := by simp; omega
      have t7 : ((k : Int) == 7) = false := by simp; omega
      have KX := Lib.hid kx
      clear hlie hat hbel hty hsz hown hb h2 hl hd hT hfit hk ho h6 h7 hk6 hx hx64 b1 hb1 kx
      simp only [farr]
      go_enter Tryd.func20, Tryd.ntmps20
      go_wp2_with fail
      rw [← hwn]
      clear hwn
      have kx := KX.out
      refine (CN.out).mono ?_
      rintro e w2 ⟨rfl, rfl⟩
      go_wp2_with fail
      refine (LA.out).mono ?_
      rintro e w3 ⟨v', rfl, ho3, hb3, hk3⟩
      have R := Lib.hid (And.intro ho3 (B2.out.trans hb3))
      clear ho3 hb3 hk3
      go_wp2_with fail
      go_ret
      refine ⟨_, rfl, ?_, R.out.2⟩
      have := R.out.1
      simpa [Wig.nums] using this
end Go.Proofs.YtogioabdijgglaaDoor
