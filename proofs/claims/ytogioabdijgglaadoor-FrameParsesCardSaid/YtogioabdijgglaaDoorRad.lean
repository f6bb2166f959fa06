/-
  The document's acked(l): an answer's spans of its numbers. Condition: an even count of numbers, two to 64, each below 2^62.
-/
import Derived.Test.YtogioabdijgglaaDoorRtk
import Derived.Test.YtogioabdijgglaaDoorRdC
namespace Go.Proofs.YtogioabdijgglaaDoor
open Go.ChangeShapes Go.WideShapes Go.ChangeAt Go.RowKit Go.Deep
set_option linter.unusedVariables false
theorem own_span (w : World) (base : Nat) (x y : Nat) (hb : base ≤ w.heap.size) : OwnS (w.alloc (.cells #[.int .u64 (x : Int), .int .u64 (y : Int)] 42)) base (.slice (some ⟨w.heap.size, 0, none⟩) 1 1) [(x, y)] := by
  refine ⟨rfl, .inr ⟨w.heap.size, 1, #[.int .u64 (x : Int), .int .u64 (y : Int)], rfl, hb, ?_, Nat.le_refl _, by decide, rfl, rfl⟩⟩
  show (w.heap.push _)[w.heap.size]? = _
  rw [Array.getElem?_push_size]
theorem wpList_append_span {w : World} {ops : Array Oper} {rest : List Oper} {o : Oper} {a : Act} {Q : Exit → Act → World → Prop} (hgd : o.guard = none) (s x : Operand)
    (ho : o.op = .call { callee := .builtin .append, args := #[s, x], argTypes := #[24, 24] })
    (base g n c x0 y0 : Nat) (out : List Wig.Spn) (hs : a.eval s = .slice (some ⟨w.heap.size, 0, none⟩) 1 1) (hx : a.eval x = .slice (some ⟨g, 0, none⟩) n c) (hn : n = out.length) (hn0 : 0 < n) (h50 : n ≤ 1000) (hr : RdS w w.heap.size (some ⟨g, 0, none⟩) out) (hbase : base ≤ w.heap.size)
    (h : ∀ v' w', OwnS w' base v' ((x0, y0) :: out) → Below base w w' → wpList Tryd.prog ops Q rest (a.put o.dst v') w') : wpList Tryd.prog ops Q (o :: rest) a (w.alloc (.cells #[.int .u64 (x0 : Int), .int .u64 (y0 : Int)] 42)) := by
  obtain ⟨i0, hi, hz0, hz1, hz2⟩ := info_parts span_info
  have hown := own_span w base x0 y0 hbase
  have hra := hr.below ((Below.refl w.heap.size w).alloc (Nat.le_refl _) (.cells #[.int .u64 (x0 : Int), .int .u64 (y0 : Int)] 42))
  refine wpList_append_own _ hgd s x 24 ho base 42 i0 (.agg #[.int .u64 0, .int .u64 0]) 2 16 Tryd.underlying24 hi hz0 hz1 hz2 rfl (by decide) _ 1 (flat [(x0, y0)]) hs hown ⟨g, 0, none⟩ n c (flat out) hx (by rw [flat_length]; omega) hra.flat_ (flat_one_cell out)
    (by unfold maxLen; omega) (by omega) (by simp; omega) ?_
  intro v' w' h1 h2 _
  refine h v' w' ?_ (((Below.refl base w).alloc hbase _).grown h2 (by simp; omega) (fun q hq => (hown.block q hq).1))
  unfold OwnS
  have e : flat ((x0, y0) :: out) = flat [(x0, y0)] ++ flat out := by simp [flat]
  rw [e, List.length_cons, Nat.add_comm, hn.symm]
  exact h1
/-- What acked returns and leaves. -/
def AckedAt (l : List Nat) (w : World) (e : Ending) (w' : World) : Prop :=
  (Wig.racked l = none ∧ e = .returned (.tuple #[.slice none 0 0, .bool false]) ∧ Below w.heap.size w w') ∨
  ∃ v s, Wig.racked l = some s ∧ e = .returned (.tuple #[v, .bool true]) ∧ OwnS w' w.heap.size v s ∧ Below w.heap.size w w'
/-- At acked's round's head. -/
def RadRel (l : List Nat) (w : World) (vo vi : Value) (wr : World) : Prop :=
  ∃ j p out, 2 + 2 * j ≤ l.length ∧ vi = .int .i64 ((2 + 2 * j : Nat) : Int) ∧ out.length = j ∧ p.1 ≤ 4611686018427387904 ∧ OwnS wr w.heap.size vo (p :: out) ∧ Wig.rpairs p.1 (p :: out) (l.drop (2 + 2 * j)) = Wig.racked l ∧ Below w.heap.size w wr
set_option maxHeartbeats 8000000 in
theorem racked_any (lb lo m mc c : Nat) (l : List Nat) (w : World) (hm : m = l.length) (hm2 : m = 2 * c) (hc1 : 1 ≤ c) (hc32 : c ≤ 32) (hv : ∀ x ∈ l, x < 4611686018427387904) (hr : RdN .u64 w w.heap.size (some ⟨lb, lo, none⟩) l) :
    Calls Tryd.prog 51 #[.slice (some ⟨lb, lo, none⟩) m mc] w (AckedAt l w) := by
  obtain ⟨t, len, l', rfl⟩ : ∃ t len l', l = t :: len :: l' := by
    rcases l with _ | ⟨t, _ | ⟨len, l'⟩⟩
    · simp at hm; omega
    · simp at hm; omega
    · exact ⟨t, len, l', rfl⟩
  have t62 := hv t (by simp)
  have len62 := hv len (by simp)
  obtain ⟨_, _, e0, hlb, c0⟩ := hr.at_ (j := 0) (x := t) rfl
  obtain ⟨_, _, e1, _, c1⟩ := hr.at_ (j := 1) (x := len) rfl
  injection e0 with e0
  injection e0 with e0 e0'
  injection e1 with e1
  injection e1 with e1 e1'
  subst e0 e0'
  rw [← e1, ← e1'] at c1
  clear e1 e1'
  simp only [Nat.add_zero] at c0
  have m0 : (0 : Int) < (m : Int) := by omega
  have m1 : (1 : Int) < (m : Int) := by omega
  have HV := Lib.hid hv
  have HR := Lib.hid hr
  have HM := Lib.hid (And.intro hm (And.intro hm2 (And.intro hc1 hc32)))
  have HB := Lib.hid hlb
  by_cases h : t < len
  · have t1 : decide ((t : Int) < (len : Int)) = true := decide_eq_true (by omega)
    have t1' : decide (t < len) = true := decide_eq_true h
    have R := Lib.hid (show Wig.racked (t :: len :: l') = none by simp only [Wig.racked]; rw [if_pos h])
    clear hm hm2 hc1 hc32 hv hr h t62 len62 hlb
    go_enter Tryd.func51, Tryd.ntmps51
    go_wp2_with fail
    go_ret2
    exact .inl ⟨R.out, rfl, Below.refl _ _⟩
  · have t1 : decide ((t : Int) < (len : Int)) = false := decide_eq_false (by omega)
    have t1' : decide (t < len) = false := decide_eq_false h
    obtain ⟨x1, hx1⟩ : ∃ x1, x1 = t - len := ⟨_, rfl⟩
    have f1 : IntKind.u64.wrap ((t : Int) - (len : Int)) = (x1 : Int) := by rw [IntKind.wrap_u64]; omega
    have f2 : IntKind.u64.wrap ((t : Int) + 1) = ((t + 1 : Nat) : Int) := by rw [IntKind.wrap_u64]; omega
    obtain ⟨x2, hx2⟩ : ∃ x2, x2 = t + 1 := ⟨_, rfl⟩
    rw [← hx2] at f2
    have A0 := Lib.hid (show RadRel (t :: len :: l') w (.slice (some ⟨w.heap.size, 0, none⟩) 1 1) (.int .i64 2) (w.alloc (.cells #[.int .u64 (x1 : Int), .int .u64 (x2 : Int)] 42)) from
      ⟨0, (x1, x2), [], by simp, rfl, rfl, by simp only []; omega, own_span w w.heap.size x1 x2 (Nat.le_refl _), by simp only [Wig.racked]; rw [if_neg h, hx1, hx2]; rfl, (Below.refl _ _).alloc (Nat.le_refl _) _⟩)
    clear hm hm2 hc1 hc32 hv hr h t62 len62 hlb hx1 hx2
    go_enter Tryd.func51, Tryd.ntmps51
    go_wp2_with fail
    clear c0 c1 m0 m1 t1 t1' f1 f2
    obtain ⟨l, hl⟩ : ∃ l, l = t :: len :: l' := ⟨_, rfl⟩
    rw [← hl] at A0 HV HR HM ⊢
    have HLL := Lib.hid hl
    clear hl
    go_loopw [5, 6] (fun vo vi wr => RadRel l w vo vi wr) (fun _ vi _ => m - (intOf vi).toNat)
    case atStart => exact A0.out
    case round =>
      obtain ⟨j, ⟨p0, p1⟩, out, hj, rfl, hol, hp0, hown, heq, hbel⟩ := hrel
      rw [← HM.out.1] at hj
      simp only [] at hp0 heq
      have KO := Lib.hid hown
      have KB := Lib.hid hbel
      have KE := Lib.hid heq
      clear A0
      obtain ⟨i, hi⟩ : ∃ i, i = 2 + 2 * j := ⟨_, rfl⟩
      rw [← hi] at hj heq KE ⊢
      have g1 : IntKind.i64.wrap ((i : Int) + 2) = (i : Int) + 2 := by rw [IntKind.wrap_i64]; have := HM.out; omega
      have g2 : IntKind.i64.wrap ((i : Int) + 1) = ((i + 1 : Nat) : Int) := by rw [IntKind.wrap_i64]; have := HM.out; omega
      obtain ⟨i1, hi1⟩ : ∃ i1, i1 = i + 1 := ⟨_, rfl⟩
      rw [← hi1] at g2
      obtain ⟨gb, c5, rfl, hgb, hgs, hcell, -⟩ := hown.form (by simp)
      obtain ⟨k5, hk5⟩ : ∃ k5, k5 = ((p0, p1) :: out).length := ⟨_, rfl⟩
      rw [← hk5]
      have KO' := KO.out
      by_cases hlt : i < m
      · have t1 : decide ((i : Int) < (m : Int)) = true := decide_eq_true (by omega)
        have t1' : decide (i < m) = true := decide_eq_true hlt
        have hlt1 : i + 1 < m := by have := HM.out; omega
        have b0 : (0 : Int) ≤ (i : Int) := by omega
        have b1 : (i : Int) < (m : Int) := by omega
        have b2 : (0 : Int) ≤ (i1 : Int) := by omega
        have b3 : (i1 : Int) < (m : Int) := by omega
        have b4 : (0 : Int) < (k5 : Int) := by rw [hk5]; simp
        obtain ⟨g, hg⟩ : ∃ g, l[i]? = some g := ⟨_, List.getElem?_eq_getElem (by have := HM.out; omega)⟩
        obtain ⟨n, hn⟩ : ∃ n, l[i + 1]? = some n := ⟨_, List.getElem?_eq_getElem (by have := HM.out; omega)⟩
        have g62 := HV.out g (List.mem_of_getElem? hg)
        have n62 := HV.out n (List.mem_of_getElem? hn)
        obtain ⟨_, _, e0, _, c0⟩ := (HR.out.below hbel).at_ hg
        obtain ⟨_, _, e1, _, c1⟩ := (HR.out.below hbel).at_ hn
        injection e0 with e0
        injection e0 with e0 e0'
        injection e1 with e1
        injection e1 with e1 e1'
        rw [← e0, ← e0'] at c0
        rw [← e1, ← e1', ← hi1] at c1
        clear e0 e0' e1 e1'
        have d0 := (hcell 0 (p0, p1) rfl).1
        simp only [Nat.zero_mul] at d0
        have hdrop : l.drop i = g :: n :: l.drop (i + 2) := by
          have h1 : i < l.length := by have := HM.out; omega
          have h2 : i + 1 < l.length := by have := HM.out; omega
          rw [List.drop_eq_getElem_cons h1, List.drop_eq_getElem_cons h2]
          rw [List.getElem?_eq_getElem h1] at hg
          rw [List.getElem?_eq_getElem h2] at hn
          injection hg with hg
          injection hn with hn
          rw [hg, hn]
        rw [hdrop, Wig.rpairs] at heq
        obtain ⟨s1, hs1⟩ : ∃ s1, s1 = g + 1 := ⟨_, rfl⟩
        obtain ⟨s2, hs2⟩ : ∃ s2, s2 = s1 + n := ⟨_, rfl⟩
        obtain ⟨s3, hs3⟩ : ∃ s3, s3 = s2 + 1 := ⟨_, rfl⟩
        have f1 : IntKind.u64.wrap ((g : Int) + 1) = (s1 : Int) := by rw [IntKind.wrap_u64]; omega
        have f2 : IntKind.u64.wrap ((s1 : Int) + (n : Int)) = (s2 : Int) := by rw [IntKind.wrap_u64]; omega
        have f3 : IntKind.u64.wrap ((s2 : Int) + 1) = (s3 : Int) := by rw [IntKind.wrap_u64]; omega
        have MK := Lib.hid (And.intro hlt1 hi)
        have NB := Lib.hid hbel
        by_cases q1 : p0 ≤ s1
        · rw [if_pos (by omega)] at heq
          have R := Lib.hid heq.symm
          have t2 : decide ((p0 : Int) ≤ (s1 : Int)) = true := decide_eq_true (by omega)
          have t2' : decide (p0 ≤ s1) = true := decide_eq_true q1
          clear hown hbel heq hp0 hol hj hi hi1 hgb hgs hcell hk5 KO' hlt hlt1 hg hn g62 n62 hdrop hs1 hs2 hs3 q1 KE
          go_wp2_with fail
          go_quiet (fail)
          go_wp2_with fail
          go_ret2
          exact .inl ⟨R.out, rfl, below_drewN' NB.out _⟩
        · have t2 : decide ((p0 : Int) ≤ (s1 : Int)) = false := decide_eq_false (by omega)
          have t2' : decide (p0 ≤ s1) = false := decide_eq_false q1
          by_cases q2 : p0 < s3
          · rw [if_pos (by omega)] at heq
            have R := Lib.hid heq.symm
            have t3 : decide ((p0 : Int) < (s3 : Int)) = true := decide_eq_true (by omega)
            have t3' : decide (p0 < s3) = true := decide_eq_true q2
            clear hown hbel heq hp0 hol hj hi hi1 hgb hgs hcell hk5 KO' hlt hlt1 hg hn g62 n62 hdrop hs1 hs2 hs3 q1 q2 KE
            go_wp2_with fail
            go_quiet (fail)
            go_wp2_with fail
            go_ret2
            exact .inl ⟨R.out, rfl, below_drewN' NB.out _⟩
          · have t3 : decide ((p0 : Int) < (s3 : Int)) = false := decide_eq_false (by omega)
            have t3' : decide (p0 < s3) = false := decide_eq_false q2
            rw [if_neg (by omega)] at heq
            obtain ⟨y1, hy1⟩ : ∃ y1, y1 = p0 - g := ⟨_, rfl⟩
            obtain ⟨y2, hy2⟩ : ∃ y2, y2 = y1 - 1 := ⟨_, rfl⟩
            obtain ⟨y3, hy3⟩ : ∃ y3, y3 = y2 - n := ⟨_, rfl⟩
            obtain ⟨y4, hy4⟩ : ∃ y4, y4 = y3 - 1 := ⟨_, rfl⟩
            have f4 : IntKind.u64.wrap ((p0 : Int) - (g : Int)) = (y1 : Int) := by rw [IntKind.wrap_u64]; omega
            have f5 : IntKind.u64.wrap ((y1 : Int) - 1) = (y2 : Int) := by rw [IntKind.wrap_u64]; omega
            have f6 : IntKind.u64.wrap ((y2 : Int) - (n : Int)) = (y3 : Int) := by rw [IntKind.wrap_u64]; omega
            have f7 : IntKind.u64.wrap ((y3 : Int) - 1) = (y4 : Int) := by rw [IntKind.wrap_u64]; omega
            rw [show p0 - (g + 1) = y2 by omega, show y2 - (n + 1) = y4 by omega] at heq
            obtain ⟨A, c', e, -, hrd, -⟩ := KO'.rd
            injection e with e
            rw [← e] at hrd
            clear e
            have HRD := Lib.hid hrd
            have HK := Lib.hid (And.intro hk5 (show k5 ≤ 40 by rw [hk5, List.length_cons, hol]; have := HM.out; omega))
            have R := Lib.hid fun v' w' (ho : OwnS w' w.heap.size v' ((y4, y2) :: (p0, p1) :: out)) (hb : Below w.heap.size w w') => (show RadRel l w v' (.int .i64 ((i : Int) + 2)) w' from
              ⟨j + 1, (y4, y2), (p0, p1) :: out, by have := HM.out; omega, by rw [hi]; congr 1, by rw [List.length_cons, hol], by simp only []; omega, ho, by rw [show 2 + 2 * (j + 1) = i + 2 by omega]; exact heq, hb⟩)
            clear hown hbel heq hp0 hol hj hi hi1 hgb hgs hcell hk5 KO' hlt hlt1 hg hn g62 n62 hdrop hs1 hs2 hs3 q1 q2 hy1 hy2 hy3 hy4 hrd KE
            go_wp2_with fail
            go_quiet (fail)
            go_wp2_with (at_builtin; refine wpList_append_span rfl _ _ rfl w.heap.size gb k5 c' y4 y2 ((p0, p1) :: out) (by rfl) (by rfl) HK.out.1 (by have := HK.out.1; simp at this; omega) (by have := HK.out.2; omega) HRD.out NB.out.size ?_)
            intro v2 w2 hown2 hb2
            have R' := Lib.hid (R.out v2 w2 hown2 ((below_drewN' NB.out _).trans hb2))
            clear hown2 hb2 R
            go_wp2_with fail
            go_roundw
            case rel => exact R'.out
            case measure => have := MK.out; simp [intOf]; omega
      · have t1 : decide ((i : Int) < (m : Int)) = false := decide_eq_false (by omega)
        have t1' : decide (i < m) = false := decide_eq_false hlt
        have hnil : l.drop i = [] := List.drop_eq_nil_of_le (by have := HM.out; omega)
        rw [hnil] at heq
        have R := Lib.hid (show Wig.racked l = some ((p0, p1) :: out) from heq.symm)
        rw [← hk5] at KO'
        have O := Lib.hid KO'
        clear hown hbel heq hp0 hol hj hi hi1 hgb hgs hcell hk5 KO' hlt hnil KE KO
        go_wp2_with fail
        go_ret2
        exact .inr ⟨_, _, by rw [← HLL.out]; exact R.out, rfl, O.out, KB.out⟩
end Go.Proofs.YtogioabdijgglaaDoor
