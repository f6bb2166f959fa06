/-
  Frames are read as they were written, whatever stands behind them; what is read may be, and is written in no more bytes; lists of frames. No condition.
-/
import Derived.Test.YtogioabdijgglaaDoorFrmM
set_option linter.unusedVariables false
namespace Wig
/-- What a frame's numbers may be as the program's values. -/
structure Fr.Ok (f : Fr) : Prop where
  kind : -9223372036854775808 ≤ f.kind ∧ f.kind ≤ 9223372036854775807
  num : ∀ k, f.get k < 18446744073709551616
  data : Bytes f.data
  spans : ∀ s ∈ f.spans, s.1 < 18446744073709551616 ∧ s.2 < 18446744073709551616

theorem num1_venc {v : Nat} (h : v < 4611686018427387904) (more : List Nat) : num1 (venc v ++ more) = some (v, more) := by
  obtain ⟨h1, h2, h3, h4⟩ := vback h more
  unfold num1
  rw [h1, h2, h4, ← venc_length v, List.drop_append_of_le_length (Nat.le_refl _), List.drop_length]
  rfl
theorem low_of {v far : Nat} (h : far ≤ v) (xs : List Nat) : low v far xs = some (v - far, xs) := by
  unfold low
  rw [if_neg (by omega)]
  rfl
theorem spOne_of {s : Spn} (h : spOne s = true) : s.1 < s.2 ∧ s.2 ≤ 4611686018427387904 := by
  simpa [spOne] using h
theorem nums_cons (v : Nat) (l : List Nat) : nums (v :: l) = venc v ++ nums l := by simp [nums]
theorem nums_app (l m : List Nat) : nums (l ++ m) = nums l ++ nums m := by simp [nums]
theorem rdMany_gaps : ∀ (r : List Spn) (p : Spn) (out : List Spn) (more : List Nat), spOk (r.reverse ++ [p]) = true → rdMany r.length false p.1 out (nums (gaps p r) ++ more) = some (r.reverse ++ out, more)
  | [], p, out, more, _ => rfl
  | s :: r, p, out, more, h => by
    rw [List.reverse_cons, List.append_assoc, List.cons_append, List.nil_append, spOk_snoc, Bool.and_eq_true, Bool.and_eq_true] at h
    obtain ⟨⟨h1, h2⟩, h3⟩ := h
    have h2 := of_decide_eq_true h2
    obtain ⟨p1, p2⟩ := spOne_of h3
    have hs : spOne s = true := by
      have : ∀ (l : List Spn), spOk (l ++ [s]) = true → spOne s = true := by
        intro l hl
        rcases List.eq_nil_or_concat l with rfl | ⟨l', q, rfl⟩
        · exact hl
        · rw [List.concat_eq_append, List.append_assoc, List.cons_append, List.nil_append, spOk_snoc, Bool.and_eq_true] at hl
          exact hl.2
      exact this _ h1
    obtain ⟨s1, s2⟩ := spOne_of hs
    rw [gaps, nums_cons, nums_cons, List.length_cons, rdMany]
    have e1 : rdTop false p.1 (venc (p.1 - s.2 - 1) ++ (venc (s.2 - s.1 - 1) ++ (nums (gaps s r) ++ more))) = some (s.2, venc (s.2 - s.1 - 1) ++ (nums (gaps s r) ++ more)) := by
      unfold rdTop
      simp only [Bool.false_eq_true, if_false]
      rw [pbind_of (num1_venc (by omega) _), low_of (by omega), show p.1 - (p.1 - s.2 - 1 + 1) = s.2 by omega]
    rw [List.append_assoc, List.append_assoc, pbind_of e1, pbind_of (num1_venc (by omega) _), pbind_of (low_of (by omega) _), show s.2 - (s.2 - s.1 - 1 + 1) = s.1 by omega, rdMany_gaps r s _ more h1, List.reverse_cons, List.append_assoc]
    rfl
theorem spFit_parts {l : List Spn} (h : spFit l = true) : ∃ s r, l.reverse = s :: r ∧ l = r.reverse ++ [s] ∧ l.length = r.length + 1 ∧ l.length ≤ 32 ∧ spOk l = true ∧ spOne s = true := by
  simp only [spFit, Bool.and_eq_true, decide_eq_true_eq] at h
  obtain ⟨⟨h1, h2⟩, h3⟩ := h
  cases e : l.reverse with
  | nil => have : l.length = 0 := by rw [← List.length_reverse, e]; rfl
           omega
  | cons s r =>
    have e2 : l = r.reverse ++ [s] := by have := congrArg List.reverse e; simpa using this
    refine ⟨s, r, rfl, e2, by rw [e2]; simp, h2, h3, ?_⟩
    rw [e2] at h3
    rcases List.eq_nil_or_concat r.reverse with h | ⟨l', q, h⟩
    · rw [h] at h3; exact h3
    · rw [h, List.concat_eq_append, List.append_assoc, List.cons_append, List.nil_append, spOk_snoc, Bool.and_eq_true] at h3
      exact h3.2
theorem rdSpans_nums {l : List Spn} (h : spFit l = true) (more : List Nat) : rdSpans (nums (spNums l) ++ more) = some (l, more) := by
  obtain ⟨s, r, e1, e2, hl, h32, hok, hs⟩ := spFit_parts h
  obtain ⟨s1, s2⟩ := spOne_of hs
  unfold spNums
  rw [e1]
  simp only []
  rw [nums_cons, nums_cons, nums_cons, List.append_assoc, List.append_assoc, List.append_assoc]
  unfold rdSpans
  rw [pbind_of (num1_venc (by omega) _), pbind_of (num1_venc (by omega) _), hl, rdMany]
  rw [pbind_of (show rdTop true (s.2 - 1 + 1) _ = some (s.2 - 1 + 1, _) from rfl), show s.2 - 1 + 1 = s.2 by omega, pbind_of (num1_venc (by omega) _), pbind_of (low_of (by omega) _), show s.2 - (s.2 - s.1 - 1 + 1) = s.1 by omega]
  rw [rdMany_gaps r s _ more (by rw [← e2]; exact hok)]
  conv => rhs; rw [e2]

/-- Field k of f put into g. -/
def cp (f g : Fr) (k : Nat) : Fr := if k = 6 then { g with spans := f.spans } else if k = 7 then { g with data := f.data } else g.put (f.get k) k
def Fits (f : Fr) (k : Nat) : Prop := if k = 6 then spFit f.spans = true else if k = 7 then f.data.length < 4611686018427387904 else f.get k < 4611686018427387904
theorem rdField_layF {f : Fr} (g : Fr) {k : Nat} (h : Fits f k) (more : List Nat) : rdField g k (layF f k ++ more) = some (cp f g k, more) := by
  unfold Fits at h
  unfold rdField layF cp
  by_cases h6 : k = 6
  · simp only [if_pos h6] at h ⊢
    rw [pbind_of (rdSpans_nums h more)]
    rfl
  · by_cases h7 : k = 7
    · simp only [if_neg h6, if_pos h7] at h ⊢
      have : rdData (venc f.data.length ++ f.data ++ more) = some (f.data, more) := by
        unfold rdData
        rw [List.append_assoc, pbind_of (num1_venc h _)]
        unfold rdTake
        rw [if_neg (by simp)]
        simp
      rw [pbind_of this]
      rfl
    · simp only [if_neg h6, if_neg h7] at h ⊢
      rw [pbind_of (num1_venc h _)]
      rfl
theorem rdAll_layF {f : Fr} : ∀ (ks : List Nat) (g : Fr) (more : List Nat), (∀ k ∈ ks, Fits f k) → rdAll ks g (ks.flatMap (layF f) ++ more) = some (ks.foldl (cp f) g, more)
  | [], g, more, _ => rfl
  | k :: ks, g, more, h => by
    rw [rdAll, List.flatMap_cons, List.append_assoc, pbind_of (rdField_layF g (h k (List.mem_cons_self ..)) _), rdAll_layF ks _ more fun j hj => h j (List.mem_cons_of_mem _ hj)]
    rfl
theorem flds_cases {k : Nat} {has : List Nat} (h : flds k = some has) : (k = 0 ∧ has = []) ∨ (k = 1 ∧ has = []) ∨ (k = 2 ∧ has = [6, 4]) ∨ (k = 3 ∧ has = [6, 4, 5]) ∨ (k = 4 ∧ has = [0, 3, 2]) ∨ (k = 5 ∧ has = [0, 3]) ∨ (k = 6 ∧ has = [2, 1, 0]) ∨ (k = 14 ∧ has = [0, 1, 7]) ∨
    (k = 16 ∧ has = [2]) ∨ (k = 17 ∧ has = [0, 2]) ∨ (k = 18 ∧ has = [2]) ∨ (k = 20 ∧ has = [2]) ∨ (k = 21 ∧ has = [0, 2]) ∨ (k = 28 ∧ has = [3]) ∨ (k = 30 ∧ has = []) := by
  unfold flds at h
  split at h <;> simp_all
theorem flds_le {k : Nat} {has : List Nat} (h : flds k = some has) : k ≤ 30 := by
  have := flds_cases h
  omega
theorem flds_lt {k : Nat} {has : List Nat} (h : flds k = some has) : has.Nodup ∧ ∀ j ∈ has, j < 8 := by
  rcases flds_cases h with ⟨_, rfl⟩ | ⟨_, rfl⟩ | ⟨_, rfl⟩ | ⟨_, rfl⟩ | ⟨_, rfl⟩ | ⟨_, rfl⟩ | ⟨_, rfl⟩ | ⟨_, rfl⟩ | ⟨_, rfl⟩ | ⟨_, rfl⟩ | ⟨_, rfl⟩ | ⟨_, rfl⟩ | ⟨_, rfl⟩ | ⟨_, rfl⟩ | ⟨_, rfl⟩ <;> simp
theorem flds_seven {k : Nat} {has : List Nat} (h : flds k = some has) (h7 : has.contains 7 = true) : k = 14 := by
  rcases flds_cases h with ⟨e, rfl⟩ | ⟨e, rfl⟩ | ⟨e, rfl⟩ | ⟨e, rfl⟩ | ⟨e, rfl⟩ | ⟨e, rfl⟩ | ⟨e, rfl⟩ | ⟨e, rfl⟩ | ⟨e, rfl⟩ | ⟨e, rfl⟩ | ⟨e, rfl⟩ | ⟨e, rfl⟩ | ⟨e, rfl⟩ | ⟨e, rfl⟩ | ⟨e, rfl⟩ <;> first | exact e | simp at h7
theorem fine_parts {f : Fr} (h : fine f = true) : ∃ has, flds (knat f.kind) = some has ∧ (∀ k, k < 6 → f.get k ≤ 4611686018427387903 ∧ (f.get k = 0 ∨ has.contains k = true)) ∧ spansFit f.spans (has.contains 6) = true ∧ dataFit f (has.contains 7) = true := by
  unfold fine at h
  cases e : flds (knat f.kind) with
  | none => rw [e] at h; cases h
  | some has =>
    rw [e] at h
    simp only [Bool.and_eq_true] at h
    refine ⟨has, rfl, fun k hk => ?_, h.1.2, h.2⟩
    have := List.all_eq_true.1 h.1.1 k (List.mem_range.2 hk)
    simpa [numFit] using this
theorem get_five (f : Fr) (k : Nat) (h : 5 ≤ k) : f.get k = f.get 5 := by
  match k, h with
  | k + 5, _ => rfl
theorem fine_get {f : Fr} (h : fine f = true) (k : Nat) : f.get k ≤ 4611686018427387903 := by
  obtain ⟨has, _, h1, _⟩ := fine_parts h
  by_cases hk : k < 6
  · exact (h1 k hk).1
  · rw [get_five f k (by omega)]; exact (h1 5 (by omega)).1
theorem fine_data {f : Fr} (h : fine f = true) : f.data.length ≤ 1200 := by
  obtain ⟨has, _, _, _, h2⟩ := fine_parts h
  unfold dataFit at h2
  split at h2
  · simp only [Bool.and_eq_true, decide_eq_true_eq] at h2; exact h2.1
  · simp only [Bool.and_eq_true, decide_eq_true_eq] at h2; omega
theorem fine_fits {f : Fr} (h : fine f = true) {has : List Nat} (hf : flds (knat f.kind) = some has) : ∀ k ∈ has, Fits f k := by
  obtain ⟨has', e, h1, h2, h3⟩ := fine_parts h
  rw [hf] at e
  cases e
  intro k hk
  unfold Fits
  split
  · rename_i h6
    subst h6
    unfold spansFit at h2
    rw [if_pos (List.contains_iff_mem.2 hk)] at h2
    exact h2
  · split
    · have := fine_data h; omega
    · have := fine_get h k; omega
theorem wkind_of {f : Fr} (h : fine f = true) {has : List Nat} (hf : flds (knat f.kind) = some has) : kbase (wkind f) = knat f.kind ∧ decide (wkind f = 15) = f.fin ∧ wkind f < 31 := by
  obtain ⟨has', e, h1, h2, h3⟩ := fine_parts h
  rw [hf] at e
  cases e
  have hle := flds_le hf
  have hc := flds_cases hf
  cases hfin : f.fin with
  | true =>
    have h7 : has.contains 7 = true := by
      cases e : has.contains 7 with
      | true => rfl
      | false => rw [e] at h3; simp [dataFit, hfin] at h3
    have := flds_seven hf h7
    have e : wkind f = 15 := by unfold wkind; rw [hfin]; rfl
    rw [e]
    exact ⟨this.symm, rfl, by omega⟩
  | false =>
    have e : wkind f = knat f.kind := by unfold wkind; rw [hfin]; rfl
    rw [e]
    refine ⟨?_, decide_eq_false (by omega), by omega⟩
    unfold kbase
    rw [if_neg (by omega)]
theorem knat_of {k : Int} (h : -9223372036854775808 ≤ k ∧ k ≤ 9223372036854775807) (hk : knat k ≤ 30) : k = (knat k : Int) := by
  unfold knat at *
  omega
theorem fold_cp {f : Fr} (h : fine f = true) (ho : f.Ok) {has : List Nat} (hf : flds (knat f.kind) = some has) : has.foldl (cp f) (fbase (wkind f)) = f := by
  obtain ⟨e1, e2, _⟩ := wkind_of h hf
  obtain ⟨has', e, h1, h2, h3⟩ := fine_parts h
  rw [hf] at e
  cases e
  have hk := knat_of ho.kind (flds_le hf)
  have hc := flds_cases hf
  have p0 := (h1 0 (by omega)).2
  have p1 := (h1 1 (by omega)).2
  have p2 := (h1 2 (by omega)).2
  have p3 := (h1 3 (by omega)).2
  have p4 := (h1 4 (by omega)).2
  have p5 := (h1 5 (by omega)).2
  unfold fbase
  rw [e1, e2, ← hk]
  clear e1 e2 hk hf h1 ho h
  obtain ⟨kind, id, off, max, code, delay, ce, fin, data, spans⟩ := f
  simp only [Fr.get] at p0 p1 p2 p3 p4 p5
  rcases hc with ⟨_, rfl⟩ | ⟨_, rfl⟩ | ⟨_, rfl⟩ | ⟨_, rfl⟩ | ⟨_, rfl⟩ | ⟨_, rfl⟩ | ⟨_, rfl⟩ | ⟨_, rfl⟩ | ⟨_, rfl⟩ | ⟨_, rfl⟩ | ⟨_, rfl⟩ | ⟨_, rfl⟩ | ⟨_, rfl⟩ | ⟨_, rfl⟩ | ⟨_, rfl⟩ <;>
    simp_all [cp, Fr.put, Fr.get, Fr.zero, spansFit, dataFit]
/-- A frame that may be is read as itself, whatever stands behind it. -/
theorem rd_enc {f : Fr} (h : fine f = true) (ho : f.Ok) (more : List Nat) : rdFrame (fenc f ++ more) = some (f, more) := by
  obtain ⟨has, hf, _⟩ := fine_parts h
  obtain ⟨e1, e2, e3⟩ := wkind_of h hf
  unfold fenc rdFrame
  rw [if_pos h, hf, Option.getD_some, List.append_assoc, pbind_of (num1_venc (by omega) _)]
  unfold rdKind
  rw [e1, hf]
  simp only []
  rw [pbind_of (rdAll_layF has _ more (fine_fits h hf)), fold_cp h ho hf]
  unfold rdEnd
  rw [if_pos h]
  rfl

theorem get_put {f : Fr} {v j k : Nat} (hj : j < 6) (hk : k < 6) (h : j ≠ k) : (f.put v k).get j = f.get j := by
  have a : j = 0 ∨ j = 1 ∨ j = 2 ∨ j = 3 ∨ j = 4 ∨ j = 5 := by omega
  have b : k = 0 ∨ k = 1 ∨ k = 2 ∨ k = 3 ∨ k = 4 ∨ k = 5 := by omega
  rcases a with rfl | rfl | rfl | rfl | rfl | rfl <;> rcases b with rfl | rfl | rfl | rfl | rfl | rfl <;> first | rfl | exact absurd rfl h
theorem get_put_same {f : Fr} {v k : Nat} (hk : k < 6) : (f.put v k).get k = v := by
  have b : k = 0 ∨ k = 1 ∨ k = 2 ∨ k = 3 ∨ k = 4 ∨ k = 5 := by omega
  rcases b with rfl | rfl | rfl | rfl | rfl | rfl <;> rfl
theorem put_rest {f : Fr} {v k : Nat} : (f.put v k).spans = f.spans ∧ (f.put v k).data = f.data ∧ (f.put v k).kind = f.kind ∧ (f.put v k).fin = f.fin := by
  unfold Fr.put
  split <;> exact ⟨rfl, rfl, rfl, rfl⟩

theorem rdMany_len : ∀ (n : Nat) (p : Spn) (o out : List Spn) (xs : List Nat) (s : List Spn) (r : List Nat), Bytes xs → rdMany n false p.1 (p :: o) xs = some (s, r) →
    ∃ new : List Spn, s = new.reverse ++ p :: o ∧ new.length = n ∧ (nums (gaps p new)).length + r.length ≤ xs.length
  | 0, p, o, out, xs, s, r, _, h => by
    cases h
    exact ⟨[], rfl, rfl, by simp [gaps, nums]⟩
  | n + 1, p, o, out, xs, s, r, hx, h => by
    rw [rdMany] at h
    obtain ⟨t, m, h1, k1⟩ := pbind_some h
    obtain ⟨l, m2, h2, k2⟩ := pbind_some k1
    obtain ⟨u, m3, h3, k3⟩ := pbind_some k2
    clear h k1 k2
    unfold rdTop at h1
    simp only [Bool.false_eq_true, if_false] at h1
    obtain ⟨g, m1, h0, j1⟩ := pbind_some h1
    clear h1
    unfold low at j1 h3
    split at j1
    · cases j1
    split at h3
    · cases h3
    cases j1
    cases h3
    obtain ⟨x1, rfl, y1, z1⟩ := num1_local xs g m hx h0
    obtain ⟨x2, rfl, y2, z2⟩ := num1_local m l m2 hx.right h2
    obtain ⟨new, rfl, hn, hl⟩ := rdMany_len n (p.1 - (g + 1) - (l + 1), p.1 - (g + 1)) (p :: o) out m2 s r hx.right.right k3
    refine ⟨(p.1 - (g + 1) - (l + 1), p.1 - (g + 1)) :: new, by simp, by simp [hn], ?_⟩
    have f0 := num1_facts hx h0
    have f1 := num1_facts hx.right h2
    rw [gaps, nums_cons, nums_cons, List.length_append, List.length_append, venc_length, venc_length]
    simp only []
    rw [show p.1 - (p.1 - (g + 1)) - 1 = g by omega, show p.1 - (g + 1) - (p.1 - (g + 1) - (l + 1)) - 1 = l by omega]
    omega
theorem rdSpans_len {xs : List Nat} {s : List Spn} {r : List Nat} (hx : Bytes xs) (h : rdSpans xs = some (s, r)) : (s = [] ∨ (nums (spNums s)).length + r.length ≤ xs.length) := by
  unfold rdSpans at h
  obtain ⟨n, m, h1, k1⟩ := pbind_some h
  obtain ⟨t, m2, h2, k2⟩ := pbind_some k1
  clear h k1
  obtain ⟨x1, rfl, _⟩ := num1_local xs n m hx h1
  obtain ⟨x2, rfl, _⟩ := num1_local m t m2 hx.right h2
  have f1 := num1_facts hx h1
  have f2 := num1_facts hx.right h2
  cases n with
  | zero => cases k2; exact .inl rfl
  | succ n =>
    right
    rw [rdMany] at k2
    obtain ⟨t', m', h3, k3⟩ := pbind_some k2
    cases h3
    obtain ⟨l, m3, h4, k4⟩ := pbind_some k3
    obtain ⟨u, m4, h5, k5⟩ := pbind_some k4
    clear k2 k3 k4
    unfold low at h5
    split at h5
    · cases h5
    cases h5
    obtain ⟨x3, rfl, _⟩ := num1_local m2 l m3 hx.right.right h4
    have f3 := num1_facts hx.right.right h4
    obtain ⟨new, rfl, hn, hl⟩ := rdMany_len n (t + 1 - (l + 1), t + 1) [] [] m3 s r hx.right.right.right k5
    unfold spNums
    rw [List.reverse_append, List.reverse_cons, List.reverse_nil, List.nil_append, List.reverse_reverse, List.cons_append, List.nil_append]
    simp only []
    simp only [nums_cons, List.length_append, venc_length, List.length_reverse, List.length_cons, List.length_nil, hn, Nat.zero_add, show t + 1 - 1 = t by omega, show t + 1 - (t + 1 - (l + 1)) - 1 = l by omega] at f1 f2 f3 hl ⊢
    omega
theorem rdField_len {f f' : Fr} {k : Nat} {xs r : List Nat} (hk : k < 8) (hx : Bytes xs) (hb : Bytes f.data) (h : rdField f k xs = some (f', r)) :
    ((k = 6 ∧ f'.spans = []) ∨ (layF f' k).length + r.length ≤ xs.length) ∧ (∀ j, j < 8 → j ≠ k → layF f' j = layF f j) ∧ f'.kind = f.kind ∧ f'.fin = f.fin ∧ Bytes f'.data ∧ (k ≠ 6 → f'.spans = f.spans) := by
  unfold rdField at h
  by_cases h6 : k = 6
  · rw [if_pos h6] at h
    obtain ⟨s, m, h1, k1⟩ := pbind_some h
    clear h
    cases k1
    refine ⟨?_, fun j _ hj => ?_, rfl, rfl, hb, fun h => absurd h6 h⟩
    · rcases rdSpans_len hx h1 with e | e
      · exact .inl ⟨h6, e⟩
      · right; unfold layF; rw [if_pos h6]; exact e
    · unfold layF
      have j6 : j ≠ 6 := by omega
      by_cases j7 : j = 7
      · simp only [if_neg j6, if_pos j7]
      · simp only [if_neg j6, if_neg j7]
        congr 1
  · rw [if_neg h6] at h
    by_cases h7 : k = 7
    · rw [if_pos h7] at h
      obtain ⟨d, m, h1, k1⟩ := pbind_some h
      clear h
      cases k1
      obtain ⟨n, m1, h2, h3⟩ := pbind_some h1
      obtain ⟨x1, rfl, _⟩ := num1_local xs n m1 hx h2
      have f2 := num1_facts hx h2
      unfold rdTake at h3
      split at h3
      · cases h3
      cases h3
      refine ⟨.inr ?_, fun j _ hj => ?_, rfl, rfl, hx.right.take _, fun _ => rfl⟩
      · unfold layF
        rw [if_neg h6, if_pos h7, List.length_append, venc_length, List.length_drop]
        simp only [List.length_take]
        rw [Nat.min_eq_left (by omega)]
        rw [List.length_append] at f2 ⊢
        omega
      · unfold layF
        by_cases j6 : j = 6
        · rw [if_pos j6, if_pos j6]
        · have j7 : j ≠ 7 := by omega
          simp only [if_neg j6, if_neg j7]
          congr 1
    · rw [if_neg h7] at h
      obtain ⟨v, m, h1, k1⟩ := pbind_some h
      clear h
      cases k1
      obtain ⟨x1, rfl, _⟩ := num1_local xs v r hx h1
      have f2 := num1_facts hx h1
      obtain ⟨q1, q2, q3, q4⟩ := put_rest (f := f) (v := v) (k := k)
      refine ⟨.inr ?_, fun j j8 hj => ?_, q3, q4, by rw [q2]; exact hb, fun _ => q1⟩
      · unfold layF
        rw [if_neg h6, if_neg h7, get_put_same (by omega), venc_length]
        exact f2.2.1
      · unfold layF
        by_cases j6 : j = 6
        · rw [if_pos j6, if_pos j6, q1]
        · by_cases j7 : j = 7
          · rw [if_neg j6, if_pos j7, if_neg j6, if_pos j7, q2]
          · rw [if_neg j6, if_neg j7, if_neg j6, if_neg j7, get_put (by omega) (by omega) hj]
theorem rdAll_len : ∀ (ks : List Nat) (f f' : Fr) (xs r : List Nat), ks.Nodup → (∀ j ∈ ks, j < 8) → Bytes xs → Bytes f.data → rdAll ks f xs = some (f', r) →
    ((6 ∈ ks ∧ f'.spans = []) ∨ (ks.flatMap (layF f')).length + r.length ≤ xs.length) ∧ (∀ j, j < 8 → j ∉ ks → layF f' j = layF f j) ∧ f'.kind = f.kind ∧ f'.fin = f.fin ∧ Bytes f'.data ∧ (6 ∉ ks → f'.spans = f.spans)
  | [], f, f', xs, r, _, _, _, hb, h => by
    cases h
    exact ⟨.inr (by simp), fun _ _ _ => rfl, rfl, rfl, hb, fun _ => rfl⟩
  | k :: ks, f, f', xs, r, hd, h8, hx, hb, h => by
    rw [rdAll] at h
    obtain ⟨f1, m, h1, k1⟩ := pbind_some h
    clear h
    obtain ⟨x1, rfl, _⟩ := rdField_local f k xs f1 m hx h1
    obtain ⟨a1, a2, a3, a4, a5, a6⟩ := rdField_len (h8 k (List.mem_cons_self ..)) hx hb h1
    obtain ⟨hkk, hd'⟩ := List.nodup_cons.1 hd
    obtain ⟨b1, b2, b3, b4, b5, b6⟩ := rdAll_len ks f1 f' m r hd' (fun j hj => h8 j (List.mem_cons_of_mem _ hj)) hx.right a5 k1
    refine ⟨?_, fun j hj hn => ?_, b3.trans a3, b4.trans a4, b5, fun hn => ?_⟩
    · rcases b1 with ⟨b1, b1'⟩ | b1
      · exact .inl ⟨List.mem_cons_of_mem _ b1, b1'⟩
      · rcases a1 with ⟨rfl, a1'⟩ | a1
        · exact .inl ⟨List.mem_cons_self .., (b6 hkk).trans a1'⟩
        · right
          rw [List.flatMap_cons, List.length_append, b2 k (h8 k (List.mem_cons_self ..)) hkk]
          omega
    · rw [b2 j hj fun h => hn (List.mem_cons_of_mem _ h), a2 j hj fun h => hn (by rw [h]; exact List.mem_cons_self ..)]
    · rw [b6 fun h => hn (List.mem_cons_of_mem _ h), a6 fun h => hn (by rw [h]; exact List.mem_cons_self ..)]
theorem fine_ok {f : Fr} (h : fine f = true) (hk : -9223372036854775808 ≤ f.kind ∧ f.kind ≤ 9223372036854775807) (hb : Bytes f.data) : f.Ok := by
  refine ⟨hk, fun k => ?_, hb, fun s hs => ?_⟩
  · have := fine_get h k; omega
  · obtain ⟨has, _, _, h2, _⟩ := fine_parts h
    unfold spansFit at h2
    split at h2
    · simp only [spFit, Bool.and_eq_true] at h2
      have : ∀ (l : List Spn), spOk l = true → ∀ s ∈ l, spOne s = true := by
        intro l
        induction l with
        | nil => intro _ s hs; simp at hs
        | cons p r ih =>
          intro hl s hs
          obtain ⟨t1, t2⟩ := spOk_tail hl
          rcases List.mem_cons.1 hs with rfl | hs
          · exact t2
          · exact ih t1 s hs
      have := spOne_of (this _ h2.2 s hs)
      omega
    · have := of_decide_eq_true h2
      rw [List.eq_nil_of_length_eq_zero this] at hs
      simp at hs
/-- What is read may be, and is written in no more bytes. -/
theorem rd_fine {xs r : List Nat} {f : Fr} (hx : Bytes xs) (h : rdFrame xs = some (f, r)) : fine f = true ∧ f.Ok ∧ (fenc f).length + r.length ≤ xs.length ∧ r.length < xs.length := by
  unfold rdFrame at h
  obtain ⟨k, m, h1, k1⟩ := pbind_some h
  clear h
  obtain ⟨x1, rfl, _⟩ := num1_local xs k m hx h1
  have f1 := num1_facts hx h1
  unfold rdKind at k1
  cases e : flds (kbase k) with
  | none => rw [e] at k1; cases k1
  | some has =>
    rw [e] at k1
    simp only [] at k1
    obtain ⟨f', m', h2, k2⟩ := pbind_some k1
    clear k1
    unfold rdEnd at k2
    split at k2
    · rename_i hfine
      cases k2
      obtain ⟨hd, h8⟩ := flds_lt e
      obtain ⟨a1, a2, a3, a4, a5, a6⟩ := rdAll_len has (fbase k) f m r hd h8 hx.right (by intro x hx; simp [fbase, Fr.zero] at hx) h2
      have hle := flds_le e
      have ek : f.kind = (kbase k : Int) := a3
      have ef : f.fin = decide (k = 15) := a4
      have en : knat f.kind = kbase k := by rw [ek]; unfold knat; omega
      refine ⟨hfine, fine_ok hfine (by rw [ek]; omega) a5, ?_, ?_⟩
      · have hw : wkind f = k := by
          unfold wkind
          rw [ef, en]
          by_cases h15 : k = 15
          · simp [h15]
          · simp [h15, kbase]
        unfold fenc
        rw [if_pos hfine, en, e, Option.getD_some, hw, List.length_append, venc_length]
        rcases a1 with ⟨a1, a1'⟩ | a1
        · obtain ⟨has', e', _, hs, _⟩ := fine_parts hfine
          rw [en, e] at e'
          cases e'
          unfold spansFit at hs
          rw [if_pos (List.contains_iff_mem.2 a1), a1'] at hs
          simp [spFit] at hs
        · omega
      · obtain ⟨x2, rfl, _⟩ := rdAll_local has (fbase k) m f r hx.right h2
        rw [List.length_append] at f1
        rw [List.length_append, List.length_append] at *
        omega
    · cases k2
theorem rd_cut {xs r : List Nat} {f : Fr} (hx : Bytes xs) (h : rdFrame xs = some (f, r)) {k : Nat} (hk : k < xs.length - r.length) : rdFrame (xs.take k) = none := by
  obtain ⟨p, rfl, _, hc⟩ := rdFrame_local xs f r hx h
  rw [List.length_append] at hk
  rw [List.take_append_of_le_length (by omega)]
  exact hc k (by omega)
theorem rd_drop {xs r : List Nat} {f : Fr} (hx : Bytes xs) (h : rdFrame xs = some (f, r)) : r = xs.drop (xs.length - r.length) := by
  obtain ⟨p, rfl, _⟩ := rdFrame_local xs f r hx h
  rw [List.length_append, Nat.add_sub_cancel, List.drop_append_of_le_length (Nat.le_refl _), List.drop_length]
  rfl
theorem rd_nil : rdFrame [] = none := rfl

theorem rdFrames_fuel : ∀ (n m : Nat) (xs : List Nat), Bytes xs → xs.length ≤ n → xs.length ≤ m → rdFrames n xs = rdFrames m xs
  | 0, 0, xs, _, _, _ => rfl
  | 0, m + 1, xs, _, h, _ => by
    have : xs = [] := List.eq_nil_of_length_eq_zero (by omega)
    subst this
    simp [rdFrames]
  | n + 1, 0, xs, _, _, h => by
    have : xs = [] := List.eq_nil_of_length_eq_zero (by omega)
    subst this
    simp [rdFrames]
  | n + 1, m + 1, xs, hx, h1, h2 => by
    rw [rdFrames, rdFrames]
    by_cases he : xs = []
    · simp [he]
    · rw [if_neg he, if_neg he]
      cases e : rdFrame xs with
      | none => rfl
      | some q =>
        obtain ⟨f, r⟩ := q
        obtain ⟨_, _, _, hl⟩ := rd_fine hx e
        obtain ⟨p, rfl, _⟩ := rdFrame_local xs f r hx e
        simp only []
        rw [rdFrames_fuel n m r hx.right (by omega) (by omega)]
theorem rdFrames_step {xs r : List Nat} {f : Fr} (hx : Bytes xs) (h : rdFrame xs = some (f, r)) : rdFrames xs.length xs = (rdFrames r.length r).map (f :: ·) := by
  obtain ⟨_, _, _, hl⟩ := rd_fine hx h
  obtain ⟨p, rfl, _⟩ := rdFrame_local xs f r hx h
  have he : p ++ r ≠ [] := by intro e; rw [e] at hl; simp at hl
  rw [show (p ++ r).length = ((p ++ r).length - 1) + 1 by omega, rdFrames, if_neg he, h]
  simp only []
  rw [rdFrames_fuel _ r.length r hx.right (by omega) (Nat.le_refl _)]
theorem rdFrames_none {xs : List Nat} (he : xs ≠ []) (h : rdFrame xs = none) : rdFrames xs.length xs = none := by
  have := List.length_pos_iff.2 he
  rw [show xs.length = (xs.length - 1) + 1 by omega, rdFrames, if_neg he, h]
theorem fenc_bytes {f : Fr} (ho : Bytes f.data) : Bytes (fenc f) := by
  have hn : ∀ l, Bytes (nums l) := by
    intro l x hx
    obtain ⟨v, _, hv⟩ := List.mem_flatMap.1 hx
    exact venc_bytes v x hv
  unfold fenc
  split
  · refine (venc_bytes _).app fun x hx => ?_
    obtain ⟨k, _, hk⟩ := List.mem_flatMap.1 hx
    unfold layF at hk
    split at hk
    · exact hn _ x hk
    · split at hk
      · exact (venc_bytes _).app ho x hk
      · exact venc_bytes _ x hk
  · intro x hx; simp at hx
theorem fenc_pos {f : Fr} (h : fine f = true) : fenc f ≠ [] := by
  obtain ⟨has, hf, _⟩ := fine_parts h
  obtain ⟨_, _, h3⟩ := wkind_of h hf
  obtain ⟨n, hn, _⟩ := vfits (v := wkind f) (by omega)
  intro e
  have := congrArg List.length e
  unfold fenc at this
  rw [if_pos h, List.length_append, venc_length, hn] at this
  simp at this
/-- Frames' bytes, one behind the other, are all these frames. -/
theorem rdFrames_list : ∀ (fs : List Fr), (∀ f ∈ fs, fine f = true ∧ f.Ok) → rdFrames (fs.flatMap fenc).length (fs.flatMap fenc) = some fs
  | [], _ => rfl
  | f :: fs, h => by
    obtain ⟨h1, h2⟩ := h f (List.mem_cons_self ..)
    have hb : Bytes ((f :: fs).flatMap fenc) := by
      intro x hx
      obtain ⟨g, hg, hx⟩ := List.mem_flatMap.1 hx
      exact fenc_bytes (h g hg).2.data x hx
    have e : rdFrame ((f :: fs).flatMap fenc) = some (f, fs.flatMap fenc) := by rw [List.flatMap_cons]; exact rd_enc h1 h2 _
    rw [rdFrames_step hb e, rdFrames_list fs fun g hg => h g (List.mem_cons_of_mem _ hg)]
    rfl
theorem fall_list (fs : List Fr) (h : ∀ f ∈ fs, fine f = true ∧ f.Ok) (hne : fs ≠ []) : fall (fs.flatMap fenc) = some fs := by
  unfold fall
  rw [if_neg, rdFrames_list fs h]
  cases fs with
  | nil => exact absurd rfl hne
  | cons f fs =>
    intro e
    rw [List.flatMap_cons] at e
    exact fenc_pos (h f (List.mem_cons_self ..)).1 (List.append_eq_nil_iff.1 e).1
/-- Bytes 0. -/
theorem rd_zero (r : List Nat) : rdFrame (0 :: r) = some (Fr.zero, r) := rfl
theorem zeros_some : ∀ (k : Nat), rdFrames (List.replicate k 0).length (List.replicate k 0) = some (List.replicate k Fr.zero)
  | 0 => rfl
  | k + 1 => by
    rw [rdFrames_step (xs := List.replicate (k + 1) 0) (r := List.replicate k 0) (f := Fr.zero) (fun x hx => by have := List.eq_of_mem_replicate hx; omega) (rd_zero _), zeros_some k]
    rfl
theorem zeros_none : ∀ (k : Nat), rdFrames (List.replicate k 0 ++ [7]).length (List.replicate k 0 ++ [7]) = none
  | 0 => rfl
  | k + 1 => by
    rw [rdFrames_step (xs := List.replicate (k + 1) 0 ++ [7]) (r := List.replicate k 0 ++ [7]) (f := Fr.zero) ?_ (rd_zero _), zeros_none k]
    · rfl
    · intro x hx
      rcases List.mem_append.1 hx with hx | hx
      · have := List.eq_of_mem_replicate hx; omega
      · simp at hx; omega
end Wig
