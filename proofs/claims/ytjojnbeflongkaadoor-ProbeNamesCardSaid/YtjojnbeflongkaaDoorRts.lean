/-
  A slice of samples that lies between two heights of the heap, and what of it stays; samples appended behind a row of the call's own; what slices.Clone returns. No condition but that they are at most four hundred.
-/
import Derived.Test.YtjojnbeflongkaaDoorFlW
import Derived.Test.YtjojnbeflongkaaDoorBxP
import Derived.Deep.AppendSrc
import Derived.OwnWalk
import Derived.Lib.SliceRun
namespace Go.Proofs.YtjojnbeflongkaaDoor
open Go.ChangeShapes Go.WideShapes Go.ChangeAt Go.RowKit Go.Deep
set_option linter.unusedVariables false

/-- The slice at A of n samples reads as ss, from a block at lo or behind it, below hi. -/
structure Rt (w : World) (lo hi : Nat) (A : Option Addr) (n : Nat) (ss : List Wig.Smp) : Prop where
  len : ss.length = n
  few : n ≤ 400
  fits : Wig.Fits ss
  reads : ss ≠ [] → ∃ b off, A = some ⟨b, off, none⟩ ∧ lo ≤ b ∧ b < hi ∧ ∀ j p, ss[j]? = some p → w.cell? ⟨b, off + j * 2, none⟩ = some (.int .u64 (p.1 : Int)) ∧ w.cell? ⟨b, off + j * 2 + 1, none⟩ = some (.int .u64 (p.2 : Int))
section
variable {w w' : World} {lo lo' hi hi' : Nat} {A : Option Addr} {n : Nat} {ss : List Wig.Smp}
theorem Rt.rd (h : Rt w lo hi A n ss) : Rd w hi A ss := fun hn => by
  obtain ⟨b, off, e, _, hb, hc⟩ := h.reads hn
  exact ⟨b, off, e, hb, hc⟩
theorem Rt.empty : Rt w lo hi A 0 [] := ⟨rfl, by omega, fun _ h => (by cases h), fun h => absurd rfl h⟩
theorem Rt.of (hl : ss.length = n) (hn : n ≤ 400) (hf : Wig.Fits ss) (h : Rd w hi A ss) : Rt w 0 hi A n ss := ⟨hl, hn, hf, fun hne => by
  obtain ⟨b, off, e, hb, hc⟩ := h hne
  exact ⟨b, off, e, Nat.zero_le _, hb, hc⟩⟩
theorem Rt.kept (h : Rt w lo hi A n ss) (hk : ∀ q : Addr, lo ≤ q.block → q.block < hi → w'.cell? q = w.cell? q) (hz : hi ≤ hi') : Rt w' lo hi' A n ss := ⟨h.len, h.few, h.fits, fun hne => by
  obtain ⟨b, off, e, hb0, hb, hc⟩ := h.reads hne
  exact ⟨b, off, e, hb0, by omega, fun j p hp => ⟨(hk _ hb0 hb).trans (hc j p hp).1, (hk _ hb0 hb).trans (hc j p hp).2⟩⟩⟩
theorem Rt.wide (h : Rt w lo hi A n ss) (hl : lo' ≤ lo) (hz : hi ≤ hi') : Rt w lo' hi' A n ss := ⟨h.len, h.few, h.fits, fun hne => by
  obtain ⟨b, off, e, hb0, hb, hc⟩ := h.reads hne
  exact ⟨b, off, e, by omega, by omega, hc⟩⟩
theorem Rt.low (h : Rt w lo hi A n ss) : Rt w 0 hi A n ss := h.wide (Nat.zero_le _) (Nat.le_refl _)
/-- Nothing below hi has turned. -/
theorem Rt.below {B : Nat} (h : Rt w lo hi A n ss) (hb : Below B w w') (hB : hi ≤ B) : Rt w' lo hi A n ss := h.kept (fun q _ hq => hb.cell (by omega)) (Nat.le_refl _)
theorem Rt.step (h : Rt w lo w.heap.size A n ss) (hb : Below w.heap.size w w') : Rt w' lo w'.heap.size A n ss := h.kept (fun q _ hq => hb.cell hq) hb.size
theorem Rt.drewN (h : Rt w lo hi A n ss) (k : Nat) : Rt (w.drewN k) lo hi A n ss := ⟨h.len, h.few, h.fits, h.reads⟩
theorem Rt.drew (h : Rt w lo hi A n ss) : Rt w.drew lo hi A n ss := ⟨h.len, h.few, h.fits, h.reads⟩
theorem Rt.set (h : Rt w lo w.heap.size A n ss) {p i : Nat} {v : Value} (hp : p < lo) : Rt (w.setCell ⟨p, i, none⟩ v) lo (w.setCell ⟨p, i, none⟩ v).heap.size A n ss :=
  h.kept (fun q hq _ => World.cell?_setCell_other _ _ _ _ (fun e => by rw [← e] at hq; simp only at hq; omega)) (by simp)
theorem Own.rt {base : Nat} {v : Value} (h : Own w base v ss) (hl : ss.length = n) (hn : n ≤ 400) (hf : Wig.Fits ss) : ∃ A c, v = .slice A n c ∧ Rt w base w.heap.size A n ss := by
  subst hl
  cases ss with
  | nil =>
    obtain ⟨A, c, e, _⟩ := h.rd
    exact ⟨A, c, e, Rt.empty⟩
  | cons p ss =>
    obtain ⟨g, c, e, h1, h2, h3, h4⟩ := h.form (by simp)
    exact ⟨_, c, e, rfl, hn, hf, fun _ => ⟨g, 0, rfl, h1, h2, fun j q hq => by rw [Nat.zero_add]; exact h3 j q hq⟩⟩
end
theorem Rt.put {w : World} {l : Nat} {A : Option Addr} {n : Nat} {ss : List Wig.Smp} (h : Rt w l w.heap.size A n ss) {p : Nat} (hp : p < l) (st : Int) (rtA : Option Addr) (rtn rtc lo la fu sl ro ph si hi : Nat) :
    Rt (putPb p st rtA rtn rtc lo la fu sl ro ph si hi w) l (putPb p st rtA rtn rtc lo la fu sl ro ph si hi w).heap.size A n ss := by
  unfold putPb
  exact (((((((((h.set hp).set hp).set hp).set hp).set hp).set hp).set hp).set hp).set hp).set hp
/-- Nothing is appended: nil, or what has no elements. -/
theorem append_none_run {P : Program} {w : World} {base : Nat} {t ty e : TypeId} {i : TypeInfo} {size : Nat} {v : Value} {n : Nat} {xs : List Value} (ht : P.underlying t = some (.slice e)) (hi : P.info? e = some i) (hown : w.ownsRow base e size v n xs) (c : Nat) :
    (Builtin.append_ #[t, t] ty #[v, .slice none 0 c]).run P w = .ok v w := by
  exact run_append_owned_none (P := P) (w := w) base t ty e i size ht hi v n xs hown
theorem wpList_append_smps {w : World} {ops : Array Oper} {rest : List Oper} {o : Oper} {a : Act} {Q : Exit → Act → World → Prop} (hgd : o.guard = none) (s x : Operand)
    (ho : o.op = .call { callee := .builtin .append, args := #[s, x], argTypes := #[23, 23] })
    (base : Nat) (v : Value) (xs ys : List Wig.Smp) (hs : a.eval s = v) (hown : Own w base v xs) (B : Nat) (A : Option Addr) (c n : Nat) (hn : ys.length = n) (hx : a.eval x = .slice A n c) (hr : Rd w B A ys)
    (h63 : xs.length + n ≤ 1000) (hbase : base ≤ w.heap.size)
    (h : ∀ v' w', Own w' base v' (xs ++ ys) → w.grownBy w' v.ownBlock → wpList Tryd.prog ops Q rest (a.put o.dst v') w') : wpList Tryd.prog ops Q (o :: rest) a w := by
  subst hn
  obtain ⟨i0, hi, hz0, hz1, hz2⟩ := info_parts samp_info
  cases A with
  | none =>
    have hnil : ys = [] := by
      rcases ys with _ | ⟨p, ys⟩
      · rfl
      · obtain ⟨b, off, e, _⟩ := hr (by simp)
        cases e
    subst hnil
    refine wpList_plain hgd fun K hK => ?_
    have hrun := append_none_run (ty := o.type) Tryd.underlying23 hi hown c
    unfold Oper.wp
    simp only [List.length_nil] at hx
    simp [execOp, ho, resolve, invoke, builtin, hs, hx, hrun, Result.andThen]
    exact hK _ _ (h v w (by simpa using hown) (World.grownBy.refl w _))
  | some ad =>
    refine wpList_append_own _ hgd s x _ ho base 56 i0 (.agg #[.int .u64 0, .int .u64 0]) 2 16 Tryd.underlying23 hi hz0 hz1 hz2 rfl (by decide) v xs.length (flat xs) hs hown ad ys.length c (flat ys) hx (flat_length ys) hr.flat_ (flat_one_cell ys)
      (by unfold maxLen; omega) (by omega) hbase ?_
    intro v' w' h1 h2 _
    refine h v' w' ?_ h2
    unfold Own
    rw [List.length_append, flat_app]
    exact h1

set_option maxHeartbeats 1000000 in
/-- slices.Clone of samples: a slice of the same samples, in memory of the call's own. -/
theorem clone_any (A : Option Addr) (n c : Nat) (ss : List Wig.Smp) (w : World) (hR : Rt w 0 w.heap.size A n ss) :
    Calls Tryd.prog 34 #[.slice A n c] w fun e w' => ∃ A' c', e = .returned (.slice A' n c') ∧ Rt w' w.heap.size w'.heap.size A' n ss ∧ Below w.heap.size w w' := by
  have q22 : ∀ (w : World) (a : Option Addr) (n c n' c' : Nat), (binOp .eql 23 (.slice a n c) (.slice none n' c')).run Tryd.prog w = .ok (.bool a.isNone) w := fun w a n c n' c' => Lib.run_eql_slice_nil w _ _ a n c n' c' Tryd.underlying23
  cases A with
  | none =>
    have hnil : ss = [] := by
      rcases ss with _ | ⟨p, ss⟩
      · rfl
      · obtain ⟨b, off, e, _⟩ := hR.reads (by simp)
        cases e
    subst hnil
    obtain rfl : 0 = n := hR.len
    clear hR
    go_enter Tryd.func34, Tryd.ntmps34
    go_wp2_with fail
    go_ret
    exact ⟨none, 0, rfl, Rt.empty, Below.refl _ _⟩
  | some ad =>
    have HR := Lib.hid hR
    clear hR
    go_enter Tryd.func34, Tryd.ntmps34
    go_wp2_with (at_builtin; refine wpList_append_smps rfl _ _ rfl w.heap.size _ [] ss rfl (World.ownsRow_made w #[] 0 (Nat.le_refl _) (Nat.zero_le _) (by simp)) w.heap.size (some ad) c n HR.out.len rfl ?qc1 ?qc2 ?qc3 ?_)
    case qc1 => exact HR.out.rd.below ((Below.refl w.heap.size w).alloc (Nat.le_refl _) _)
    case qc2 => have := HR.out.few; simp; omega
    case qc3 => simp
    intro v' w1 hown hgrow
    obtain ⟨A', c', rfl, hrt⟩ := hown.rt (n := n) (by simpa using HR.out.len) HR.out.few (by simpa using HR.out.fits)
    have HT := Lib.hid (show Rt w1 w.heap.size w1.heap.size A' n ss by simpa using hrt)
    have HB := Lib.hid (((Below.refl _ w).alloc (Nat.le_refl _) _).grown hgrow (by simp) (by intro k hk; simp [Value.ownBlock] at hk; omega))
    clear hown hgrow hrt
    go_wp2_with fail
    go_ret
    exact ⟨A', c', rfl, HT.out, HB.out⟩

section
variable (win s0 s1 : Nat) (ss rr : List Wig.Smp) (n m : Nat) (A : Option Addr) (c : Nat) (w : World) (hm : rr.length = m) (hm2 : m ≤ 400) (hR : Rt w 0 w.heap.size A n ss)
  (hw : win < 18446744073709551616) (hs0 : s0 < 18446744073709551616) (hs1 : s1 < 18446744073709551616) (he : Wig.pushed true win (s0, s1) ss = rr)
include hm hm2 hR hw hs0 hs1 he
theorem push_rt : Calls Tryd.prog 42 #[.slice A n c, .int .u64 (win : Int), .agg #[.int .u64 (s0 : Int), .int .u64 (s1 : Int)]] w fun e w' => ∃ A' c', e = .returned (.slice A' m c') ∧ Rt w' w.heap.size w'.heap.size A' m rr ∧ Below w.heap.size w w' := by
  refine (pushMax_gives win s0 s1 ss rr n m A c w hR.len hm hR.few hR.fits hR.rd hw hs0 hs1 he).mono ?_
  rintro e w' ⟨A', c', rfl, _, hb, hown⟩
  obtain ⟨A2, c2, e2, hrt⟩ := hown.rt hm hm2 (he ▸ Wig.pushed_fits hR.fits ⟨hs0, hs1⟩)
  injection e2 with e3 e4 e5
  subst e3
  exact ⟨A', c', rfl, hrt, hb⟩
theorem rpush_rt : Calls Tryd.prog 32 #[.slice A n c, .int .u64 (win : Int), .agg #[.int .u64 (s0 : Int), .int .u64 (s1 : Int)]] w fun e w' => ∃ A' c', e = .returned (.slice A' m c') ∧ Rt w' w.heap.size w'.heap.size A' m rr ∧ Below w.heap.size w w' := by
  refine (rpushMax_gives win s0 s1 ss rr n m A c w hR.len hm hR.few hR.fits hR.rd hw hs0 hs1 he).mono ?_
  rintro e w' ⟨A', c', rfl, _, hb, hown⟩
  obtain ⟨A2, c2, e2, hrt⟩ := hown.rt hm hm2 (he ▸ Wig.pushed_fits hR.fits ⟨hs0, hs1⟩)
  injection e2 with e3 e4 e5
  subst e3
  exact ⟨A', c', rfl, hrt, hb⟩
end
theorem best_rt (ss : List Wig.Smp) (n r : Nat) (A : Option Addr) (c : Nat) (w : World) (hR : Rt w 0 w.heap.size A n ss) (hb : Wig.best ss = r) :
    Calls Tryd.prog 23 #[.slice A n c] w fun e w' => e = .returned (.int .u64 (r : Int)) ∧ w = w' := best_lit ss n r A c w hR.len hR.few hb hR.rd
theorem rbest_rt (ss : List Wig.Smp) (n r : Nat) (A : Option Addr) (c : Nat) (w : World) (hR : Rt w 0 w.heap.size A n ss) (hb : Wig.best ss = r) :
    Calls Tryd.prog 45 #[.slice A n c] w fun e w' => e = .returned (.int .u64 (r : Int)) ∧ w = w' := rbest_lit ss n r A c w hR.len hR.few hb hR.rd
theorem same_rt (ss : List Wig.Smp) (n : Nat) (A B : Option Addr) (c d : Nat) (w : World) (hR : Rt w 0 w.heap.size A n ss) (hQ : Rt w 0 w.heap.size B n ss) :
    Calls Tryd.prog 24 #[.slice A n c, .slice B n d] w fun e w' => e = .returned (.bool true) ∧ ∃ k, w.drewN k = w' := same_lit ss ss n n A B c d w rfl hR.len hR.len (by have := hR.few; omega) hR.rd hQ.rd
end Go.Proofs.YtjojnbeflongkaaDoor
