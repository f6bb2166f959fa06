/-
  What the reader of package frame does with bytes that it copies out. Condition: the table of sizes holds what its text lays; at most 100000 bytes.
-/
import Derived.Test.YtogioabdijgglaaDoorRdA
namespace Go.Proofs.YtogioabdijgglaaDoor
open Go.ChangeShapes Go.WideShapes Go.ChangeAt Go.RowKit Go.Deep
set_option linter.unusedVariables false

/-- Of block g one cell alone may have turned, of the other blocks nothing. -/
structure One (g off : Nat) (w w' : World) : Prop where
  but : But g w w'
  cells : ∀ j, j ≠ off → w'.cell? ⟨g, j, none⟩ = w.cell? ⟨g, j, none⟩
  froz : ∀ j, w'.frozen? ⟨g, j, none⟩ = w.frozen? ⟨g, j, none⟩
section
variable {g off : Nat} {w w' w'' : World}
theorem One.refl : One g off w w := ⟨But.refl, fun _ _ => rfl, fun _ => rfl⟩
theorem One.trans (h : One g off w w') (k : One g off w' w'') : One g off w w'' :=
  ⟨h.but.trans k.but, fun j hj => (k.cells j hj).trans (h.cells j hj), fun j => (k.froz j).trans (h.froz j)⟩
theorem One.store (w : World) (u : Value) : One g off w (w.setCell ⟨g, off, none⟩ u) :=
  ⟨But.refl.stored ⟨g, off, none⟩ rfl u, fun j hj => World.cell?_setCell_other _ _ _ _ (fun e => hj (by injection e with _ e2 _; exact e2.symm)), fun j => World.frozen?_setCell _ _ _ _⟩
theorem One.of_below (h : Below w.heap.size w w') (hg : g < w.heap.size) : One g off w w' :=
  ⟨But.of_below h, fun j _ => h.cell hg, fun j => h.frozen hg⟩
end

/-- What a number's reader at the cell off of block g answers, and what it leaves. -/
def NumStep (xs : List Nat) (B g off : Nat) (w : World) (e : Ending) (w' : World) : Prop := match Wig.num1 xs with
  | none => e = gaveUp ∧ One g off w w'
  | some (v, r) => e = .returned (.int .u64 (v : Int)) ∧ ∃ u, w'.cell? ⟨g, off, none⟩ = some u ∧ Bs w' B u r ∧ One g off w w'
theorem number_step (g off : Nat) (u : Value) (B : Nat) (xs : List Nat) (w : World) (hx : Wig.Bytes xs) (hu : Bs w B u xs) (hc : w.cell? ⟨g, off, none⟩ = some u) (hz : w.frozen? ⟨g, off, none⟩ = false) (hB : B ≤ w.heap.size) (hg : B ≤ g) (hT : Tab w) :
    Calls Tryd.prog 39 #[.pointer (some ⟨g, off, none⟩)] w (NumStep xs B g off w) := by
  refine (number_any g off u B xs w hx hu hc hz hB hT).mono fun e w' h => ?_
  unfold NumAt at h
  unfold NumStep
  cases hn : Wig.num1 xs with
  | none =>
    rw [hn] at h
    obtain ⟨rfl, rfl⟩ := h
    exact ⟨rfl, One.refl⟩
  | some q =>
    obtain ⟨v, r⟩ := q
    rw [hn] at h
    obtain ⟨rfl, u', rfl, hb⟩ := h
    exact ⟨rfl, u', World.cell?_setCell_same _ _ _ hc, hb.keeps ((One.store w u').but.below hg hB), One.store w u'⟩

/-- An append whose source is of another slice type runs as one of the same type. -/
theorem append_types {P : Program} {t tx ty e e' : TypeId} (ht : P.underlying t = some (.slice e)) (hx : P.underlying tx = some (.slice e')) (A B : Option Addr) (n c m d : Nat) (w : World) :
    (Builtin.append_ #[t, tx] ty #[.slice A n c, .slice B m d]).run P w = (Builtin.append_ #[t, t] ty #[.slice A n c, .slice B m d]).run P w := by
  simp [Builtin.append_, run_underlying ht, run_underlying hx]

theorem wpList_append_rest {w : World} {ops : Array Oper} {rest : List Oper} {o : Oper} {a : Act} {Q : Exit → Act → World → Prop} (hgd : o.guard = none) (s x : Operand) (tx e' : TypeId) (htx : Tryd.prog.underlying tx = some (.slice e'))
    (ho : o.op = .call { callee := .builtin .append, args := #[s, x], argTypes := #[23, tx] })
    (base : Nat) (v : Value) (xs ys : List Nat) (hs : a.eval s = v) (hown : OwnN .u8 5 w base v xs) (B : Nat) (A : Option Addr) (c n : Nat) (hn : ys.length = n) (hx : a.eval x = .slice A n c) (hr : RdN .u8 w B A ys)
    (h63 : xs.length + n ≤ 1000000) (hbase : base ≤ w.heap.size)
    (h : ∀ v' w', OwnN .u8 5 w' base v' (xs ++ ys) → w.grownBy w' v.ownBlock → wpList Tryd.prog ops Q rest (a.put o.dst v') w') : wpList Tryd.prog ops Q (o :: rest) a w := by
  subst hn
  obtain ⟨i0, hi, hz0, hz1, hz2⟩ := info_parts bytes_info
  obtain ⟨A0, c0, rfl, _⟩ := hown.rd
  cases A with
  | none =>
    have hnil : ys = [] := by
      rcases ys with _ | ⟨p, ys⟩
      · rfl
      · obtain ⟨b, off, e, _⟩ := hr (by simp)
        cases e
    subst hnil
    refine wpList_plain hgd fun K hK => ?_
    have hrun := append_none_run (ty := o.type) Tryd.underlying23 hi hown c
    rw [← append_types Tryd.underlying23 htx] at hrun
    unfold Oper.wp
    simp only [List.length_nil] at hx
    simp [execOp, ho, resolve, invoke, builtin, hs, hx, hrun, Result.andThen]
    exact hK _ _ (h _ w (by simpa using hown) (World.grownBy.refl w _))
  | some ad =>
    refine wpList_plain hgd fun K hK => ?_
    obtain ⟨v', w', hrun, h1, h2, _⟩ := run_append_own (P := Tryd.prog) w base 23 o.type 5 i0 (.int .u8 0) 1 1 Tryd.underlying23 hi hz0 hz1 hz2 rfl (by decide) _ xs.length (ncells .u8 xs) hown ad ys.length c (ncells .u8 ys) (by rw [ncells_length, Nat.mul_one]) hr.cells_ (ncells_one .u8 ys)
      (by unfold maxLen; omega) (by omega) hbase
    rw [← append_types Tryd.underlying23 htx] at hrun
    unfold Oper.wp
    simp [execOp, ho, resolve, invoke, builtin, hs, hx, hrun, Result.andThen]
    refine hK _ _ (h v' w' ?_ h2)
    unfold OwnN
    rw [List.length_append, ncells_app]
    exact h1

/-- A slice of the call's own that reads as numbers. -/
def Has (k : IntKind) (w : World) (low : Nat) (v : Value) (xs : List Nat) : Prop := ∃ A n c, v = .slice A n c ∧ n = xs.length ∧ n ≤ c ∧ c ≤ maxLen ∧ RdN k w w.heap.size A xs ∧ (∀ b o s, A = some ⟨b, o, s⟩ → low ≤ b ∧ s = none)
theorem OwnN.has {k : IntKind} {t : TypeId} {w : World} {base : Nat} {v : Value} {xs : List Nat} (h : OwnN k t w base v xs) : Has k w base v xs := by
  have h0 := h
  obtain ⟨A, c, rfl, h1, h2, h3, h4⟩ := h.rd
  refine ⟨A, _, c, rfl, rfl, h1, h2, h3, fun b o s e => ?_⟩
  rcases h4 with rfl | ⟨g, rfl, hg⟩
  · rcases h0.2 with ⟨e', _⟩ | ⟨g, cap, cur, e', hg, _⟩
    · injection e' with e'; rw [e] at e'; cases e'
    · injection e' with e'; rw [e] at e'; injection e' with e'; injection e' with e1 e2 e3; exact ⟨by omega, e3⟩
  · injection e with e; injection e with e1 e2 e3; exact ⟨by omega, e3.symm⟩

/-- What the copier of bytes answers, and what it leaves. -/
def DataStep (xs : List Nat) (B g off : Nat) (w : World) (e : Ending) (w' : World) : Prop := match Wig.rdData xs with
  | none => e = gaveUp ∧ One g off w w'
  | some (d, r) => ∃ v, e = .returned v ∧ Has .u8 w' w.heap.size v d ∧ ∃ u, w'.cell? ⟨g, off, none⟩ = some u ∧ Bs w' B u r ∧ One g off w w'
theorem dataStep_short {xs r : List Nat} {n B g off : Nat} {w w' : World} (h : Wig.num1 xs = none) (ho : One g off w w') : DataStep xs B g off w gaveUp w' := by
  unfold DataStep Wig.rdData
  rw [Wig.pbind_none h]
  exact ⟨rfl, ho⟩
theorem dataStep_few {xs r : List Nat} {n B g off : Nat} {w w' : World} (h : Wig.num1 xs = some (n, r)) (hn : r.length < n) (ho : One g off w w') : DataStep xs B g off w gaveUp w' := by
  unfold DataStep Wig.rdData
  rw [Wig.pbind_of h]
  unfold Wig.rdTake
  rw [if_pos hn]
  exact ⟨rfl, ho⟩
theorem dataStep_all {xs r : List Nat} {n B g off : Nat} {w w' : World} {v u : Value} (h : Wig.num1 xs = some (n, r)) (hn : ¬ r.length < n) (hv : Has .u8 w' w.heap.size v (r.take n)) (hc : w'.cell? ⟨g, off, none⟩ = some u) (hu : Bs w' B u (r.drop n)) (ho : One g off w w') : DataStep xs B g off w (.returned v) w' := by
  unfold DataStep Wig.rdData
  rw [Wig.pbind_of h]
  unfold Wig.rdTake
  rw [if_neg hn]
  exact ⟨v, rfl, hv, u, hc, hu, ho⟩

theorem nil_own (k : IntKind) (t : TypeId) (w : World) (base : Nat) : OwnN k t w base (.slice none 0 0) [] := ⟨rfl, .inl ⟨rfl, rfl⟩⟩

set_option maxHeartbeats 2000000 in
theorem data_any (g off : Nat) (u : Value) (B : Nat) (xs : List Nat) (w : World) (hx : Wig.Bytes xs) (h5 : xs.length ≤ 100000) (hu : Bs w B u xs) (hc : w.cell? ⟨g, off, none⟩ = some u) (hz : w.frozen? ⟨g, off, none⟩ = false) (hB : B ≤ w.heap.size) (hg : B ≤ g) (hgw : g < w.heap.size) (hT : Tab w) :
    Calls Tryd.prog 50 #[.pointer (some ⟨g, off, none⟩)] w (DataStep xs B g off w) := by
  have C := Lib.hid (number_step g off u B xs w hx hu hc hz hB hg hT)
  have G := Lib.hid giveUp_any
  unfold NumStep at C
  cases hn : Wig.num1 xs with
  | none =>
    rw [hn] at C
    have R := Lib.hid fun w' => dataStep_short (r := []) (n := 0) (B := B) (g := g) (off := off) (w := w) (w' := w') hn
    clear hn hx hu hc hz hB hg hT h5 hgw
    go_enter Tryd.func50, Tryd.ntmps50
    go_wp2_with fail
    refine (C.out).mono ?_
    rintro e w' ⟨rfl, ho⟩
    unfold gaveUp
    have R' := Lib.hid (R.out w' ho)
    clear R ho
    go_wp2_with fail
    exact ⟨rfl, R'.out⟩
  | some q =>
    obtain ⟨n, r⟩ := q
    rw [hn] at C
    obtain ⟨p, hp, _⟩ := Wig.num1_local xs n r hx hn
    have hf := Wig.num1_facts hx hn
    have hr5 : r.length ≤ 100000 := by omega
    have hrx : Wig.Bytes r := by rw [hp] at hx; exact hx.right
    have RF := Lib.hid fun w' => dataStep_few (B := B) (g := g) (off := off) (w := w) (w' := w') hn
    have RA := Lib.hid fun w' v u => dataStep_all (B := B) (g := g) (off := off) (w := w) (w' := w') (v := v) (u := u) hn
    have n64 : n < 18446744073709551616 := by omega
    clear hn hx hu hc hp hT h5 hf
    go_enter Tryd.func50, Tryd.ntmps50
    go_wp2_with fail
    refine (C.out).mono ?_
    rintro e w1 ⟨rfl, u1, hc1, ⟨A, m, c, rfl, hm, hmc, hcm, hr⟩, ho⟩
    have hz1 : w1.frozen? ⟨g, off, none⟩ = false := (ho.froz off).trans hz
    have wr : IntKind.u64.wrap (m : Int) = (m : Int) := by rw [IntKind.wrap_u64]; omega
    have HO := Lib.hid ho
    have HM := Lib.hid hm
    have HR := Lib.hid hr
    have HC := Lib.hid (And.intro hmc hcm)
    have H5 := Lib.hid hr5
    have HB := Lib.hid (And.intro hB (And.intro hg hgw))
    clear ho hm hr hmc hcm hr5 hz hB hg hgw
    by_cases hlt : m < n
    · have t : decide (m < n) = true := decide_eq_true hlt
      have R := Lib.hid (RF.out w1 (by rw [← HM.out]; exact hlt) HO.out)
      clear hlt RF RA
      go_wp2_with fail
      refine (G.out _).mono ?_
      rintro e w' ⟨rfl, rfl⟩
      unfold gaveUp
      go_wp2_with fail
      exact ⟨rfl, R.out⟩
    · have t : decide (m < n) = false := decide_eq_false hlt
      have i0 : (0 : Int) ≤ (n : Int) := by omega
      have i1 : n ≤ m := by omega
      have i2 : n ≤ c := by have := HC.out; omega
      have hsz := HO.out.but.size
      clear RF hlt
      go_wp2_with (at_builtin; refine wpList_append_rest rfl _ _ 63 5 Tryd.underlying63 rfl w1.heap.size _ [] (r.take n) rfl (nil_own _ _ _ _) B A c n (by rw [List.length_take, ← HM.out]; omega) rfl (RdN.take HR.out n) (by simp only [List.length_nil]; have := H5.out; have := HM.out; omega) (Nat.le_refl _) ?_)
      intro v w2 hown hgr
      have hbel : Below w1.heap.size w1 w2 := (Below.refl w1.heap.size w1).grown hgr (Nat.le_refl _) (fun _ h => by cases h)
      have hgw1 : g < w1.heap.size := by have := HB.out; omega
      have hc2 : w2.cell? ⟨g, off, none⟩ = some (.slice A m c) := (hbel.cell hgw1).trans hc1
      have hz2 : w2.frozen? ⟨g, off, none⟩ = false := (hbel.frozen hgw1).trans hz1
      have o2 : One g off w w2 := HO.out.trans (One.of_below hbel hgw1)
      have hv : Has .u8 w2 w.heap.size v (r.take n) := by
        obtain ⟨A', n', c', e1, e2, e3, e4, e5, e6⟩ := hown.has
        exact ⟨A', n', c', e1, e2, e3, e4, e5, fun b o s e => ⟨Nat.le_trans hsz (e6 b o s e).1, (e6 b o s e).2⟩⟩
      have hB2 : B ≤ w1.heap.size := by have := HB.out; omega
      have hr2 : RdN .u8 w2 B A r := HR.out.below (hbel.mono hB2)
      have fin : ∀ u, Bs w2 B u (r.drop n) → DataStep xs B g off w (.returned v) (w2.setCell ⟨g, off, none⟩ u) := by
        intro u hu
        have o3 : One g off w2 (w2.setCell ⟨g, off, none⟩ u) := One.store w2 u
        have hlo : B ≤ w2.heap.size := by have := hbel.size; omega
        refine RA.out _ v u (by rw [← HM.out]; omega) ?_ (World.cell?_setCell_same _ _ _ hc2) (hu.keeps (o3.but.below HB.out.2.1 hlo)) (o2.trans o3)
        obtain ⟨A', n', c', e1, e2, e3, e4, e5, e6⟩ := hv
        refine ⟨A', n', c', e1, e2, e3, e4, fun hne => ?_, e6⟩
        obtain ⟨b, o, ea, hb, hcell⟩ := e5 hne
        refine ⟨b, o, ea, by simpa [World.setCell] using hb, fun j x hj => ?_⟩
        have hlow := (e6 b o none ea).1
        have := HB.out.2.2
        rw [World.cell?_setCell_other _ _ _ _ (by intro e; injection e with e1; omega)]
        exact hcell j x hj
      have FIN := Lib.hid fin
      have HR2 := Lib.hid hr2
      clear hown hgr hbel o2 hv fin hr2 RA hc1 hz1 hsz hB2 hgw1
      by_cases hcn : c = n
      · have hmn : m = n := by have := HC.out; omega
        subst hcn hmn
        have R := Lib.hid fun A => FIN.out (.slice A 0 0) ⟨A, 0, 0, rfl, by rw [HM.out]; simp, by simp, by simp, by rw [HM.out, List.drop_length]; exact RdN.empty⟩
        clear i1 i2
        go_wp2_with fail
        go_ret
        exact R.out _
      · cases A with
        | none =>
          have hr0 : r = [] := by
            rcases r with _ | ⟨p, ys⟩
            · rfl
            · obtain ⟨b, off, e, _⟩ := HR.out (by simp)
              cases e
          obtain rfl : m = 0 := by rw [HM.out, hr0]; rfl
          obtain rfl : n = 0 := by omega
          have R := Lib.hid (FIN.out (.slice none 0 c) ⟨none, 0, c, rfl, by rw [hr0]; simp, by omega, HC.out.2, by rw [hr0]; simp; exact RdN.empty⟩)
          clear FIN i0 i1 i2
          go_wp2_with fail
          go_ret
          exact R.out
        | some ad =>
          have i3 : m ≤ c := HC.out.1
          obtain ⟨ab, ao, asp⟩ := ad
          have R := Lib.hid fun a : Option Addr => fun (ha : r.drop n ≠ [] → a = some ⟨ab, ao + n, none⟩) => FIN.out (.slice a (m - n) (c - n)) ⟨a, m - n, c - n, rfl, by rw [HM.out]; simp, by have := HC.out; omega, by have := HC.out; omega, fun hne => by
            obtain ⟨b, o, e, hb, hcell⟩ := HR2.out (by intro e; rw [e] at hne; simp at hne)
            injection e with e
            injection e with e1 e2 e3
            subst e1 e2 e3
            obtain ⟨b', o', e', hb', hcell'⟩ := (RdN.drop HR2.out n) hne
            rw [ha hne]
            exact ⟨b', o', e', hb', hcell'⟩⟩
          have hsp : r.drop n ≠ [] → asp = none := by
            intro hne
            obtain ⟨b, o, e, hb, hcell⟩ := HR2.out (by intro e; rw [e] at hne; simp at hne)
            injection e with e
            injection e with e1 e2 e3
          have HSP := Lib.hid hsp
          clear hsp
          go_wp2_with fail
          go_ret
          exact R.out _ (fun hne => by rw [HSP.out hne, add_plain])
end Go.Proofs.YtogioabdijgglaaDoor
