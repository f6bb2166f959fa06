/-
  Sets of numbers as lists of spans: which lists are a set's own, which numbers are in them, what is added, cut, and in both; a set has one list of its own. No condition: nothing of the program is named here.
-/
import Derived.Test.YthdhcppgpnnccaaSp0
set_option linter.unusedVariables false
namespace Wig
def inn (s : Spn) (n : Nat) : Bool := decide (s.1 ≤ n) && decide (n < s.2)
def shas (l : List Spn) (n : Nat) : Bool := l.any fun s => inn s n
def SOwn (l : List Spn) : Prop := (∀ p ∈ l, p.1 < p.2) ∧ l.Pairwise fun p q => p.2 < q.1
instance (l : List Spn) : Decidable (SOwn l) := by unfold SOwn; infer_instance
def sown (l : List Spn) : Bool := decide (SOwn l)
def slay (s : Spn) : List Spn := if s.2 ≤ s.1 then [] else [s]
def ssum (l : List Spn) : Nat := (l.map fun p => p.2 - p.1).sum

theorem sown_iff {l : List Spn} : sown l = true ↔ SOwn l := by simp [sown]
theorem own_nil : SOwn [] := ⟨by simp, List.Pairwise.nil⟩
theorem own_cons {p : Spn} {l : List Spn} : SOwn (p :: l) ↔ p.1 < p.2 ∧ (∀ q ∈ l, p.2 < q.1) ∧ SOwn l := by
  unfold SOwn
  rw [List.pairwise_cons]
  constructor
  · rintro ⟨h1, h2, h3⟩
    exact ⟨h1 p (List.mem_cons_self), h2, fun q hq => h1 q (List.mem_cons_of_mem _ hq), h3⟩
  · rintro ⟨h1, h2, h3, h4⟩
    refine ⟨fun q hq => ?_, h2, h4⟩
    rcases List.mem_cons.1 hq with rfl | hq
    · exact h1
    · exact h3 q hq
theorem own_one {p : Spn} (h : p.1 < p.2) : SOwn [p] := own_cons.2 ⟨h, by simp, own_nil⟩
theorem own_app {a b : List Spn} : SOwn (a ++ b) ↔ SOwn a ∧ SOwn b ∧ ∀ p ∈ a, ∀ q ∈ b, p.2 < q.1 := by
  unfold SOwn
  rw [List.pairwise_append]
  constructor
  · rintro ⟨h1, h2, h3, h4⟩
    exact ⟨⟨fun p hp => h1 p (List.mem_append_left _ hp), h2⟩, ⟨fun p hp => h1 p (List.mem_append_right _ hp), h3⟩, h4⟩
  · rintro ⟨⟨h1, h2⟩, ⟨h3, h4⟩, h5⟩
    refine ⟨fun p hp => ?_, h2, h4, h5⟩
    rcases List.mem_append.1 hp with hp | hp
    · exact h1 p hp
    · exact h3 p hp
theorem own_sub {a b : List Spn} (h : SOwn b) (hs : List.Sublist a b) : SOwn a := ⟨fun p hp => h.1 p (hs.subset hp), h.2.sublist hs⟩
theorem has_app (a b : List Spn) (n : Nat) : shas (a ++ b) n = (shas a n || shas b n) := by simp [shas]
theorem has_cons (p : Spn) (b : List Spn) (n : Nat) : shas (p :: b) n = (inn p n || shas b n) := by simp [shas]
theorem has_nil (n : Nat) : shas [] n = false := rfl
theorem has_iff {l : List Spn} {n : Nat} : shas l n = true ↔ ∃ p ∈ l, p.1 ≤ n ∧ n < p.2 := by simp [shas, inn]
theorem has_no {l : List Spn} {n : Nat} (h : ∀ p ∈ l, n < p.1 ∨ p.2 ≤ n) : shas l n = false := by
  rw [Bool.eq_false_iff]
  intro h'
  obtain ⟨p, hp, h1, h2⟩ := has_iff.1 h'
  rcases h p hp with h | h <;> omega
theorem inn_iff {s : Spn} {n : Nat} : inn s n = true ↔ s.1 ≤ n ∧ n < s.2 := by simp [inn]

/-- A set has one list of its own. -/
theorem own_unique {a b : List Spn} (ha : SOwn a) (hb : SOwn b) (h : ∀ n, shas a n = shas b n) : a = b := by
  induction a generalizing b with
  | nil =>
    cases b with
    | nil => rfl
    | cons q b =>
      have := h q.1
      obtain ⟨h1, _, _⟩ := own_cons.1 hb
      rw [has_nil, has_cons, inn_iff.2 ⟨Nat.le_refl _, h1⟩] at this
      simp at this
  | cons p a ih =>
    obtain ⟨hp, hpa, ha'⟩ := own_cons.1 ha
    cases b with
    | nil =>
      have := h p.1
      rw [has_nil, has_cons, inn_iff.2 ⟨Nat.le_refl _, hp⟩] at this
      simp at this
    | cons q b =>
      obtain ⟨hq, hqb, hb'⟩ := own_cons.1 hb
      have low : ∀ {x : Spn} {y : Spn} {l : List Spn}, x.1 < x.2 → y.1 < y.2 → (∀ r ∈ l, y.2 < r.1) → shas (y :: l) x.1 = true → y.1 ≤ x.1 := by
        intro x y l hx hy hl h
        obtain ⟨r, hr, h1, h2⟩ := has_iff.1 h
        rcases List.mem_cons.1 hr with rfl | hr
        · exact h1
        · have := hl r hr; omega
      have e1 : p.1 = q.1 := by
        have h1 := low hp hq hqb (by rw [← h, has_cons, inn_iff.2 ⟨Nat.le_refl _, hp⟩]; rfl)
        have h2 := low hq hp hpa (by rw [h, has_cons, inn_iff.2 ⟨Nat.le_refl _, hq⟩]; rfl)
        omega
      have e2 : p.2 = q.2 := by
        rcases Nat.lt_trichotomy p.2 q.2 with hlt | he | hlt
        · have h1 := h p.2
          rw [has_cons q, inn_iff.2 ⟨by omega, hlt⟩, has_no (fun r hr => ?_)] at h1
          · simp at h1
          · rcases List.mem_cons.1 hr with rfl | hr
            · right; exact Nat.le_refl _
            · left; exact hpa r hr
        · exact he
        · have h1 := h q.2
          rw [has_cons p, inn_iff.2 ⟨by omega, hlt⟩, has_no (l := q :: b) (fun r hr => ?_)] at h1
          · simp at h1
          · rcases List.mem_cons.1 hr with rfl | hr
            · right; exact Nat.le_refl _
            · left; exact hqb r hr
      obtain rfl : p = q := Prod.ext e1 e2
      congr 1
      refine ih ha' hb' fun n => ?_
      have hn := h n
      rw [has_cons, has_cons] at hn
      by_cases hi : n < p.2
      · rw [has_no (l := a) (fun r hr => .inl (by have := hpa r hr; omega)), has_no (l := b) (fun r hr => .inl (by have := hqb r hr; omega))]
      · have : inn p n = false := by simp [inn]; omega
        simpa [this] using hn

/-! What Check goes through. -/
theorem own_bad_empty {l : List Spn} {k : Nat} {p : Spn} (h : l[k]? = some p) (hp : p.2 ≤ p.1) : sown l = false := by
  rw [Bool.eq_false_iff]
  intro h'
  have := (sown_iff.1 h').1 p (List.mem_of_getElem? h)
  omega
theorem own_pair {l : List Spn} {j k : Nat} {p q : Spn} (h : SOwn l) (hj : l[j]? = some q) (hk : l[k]? = some p) (hjk : j < k) : q.2 < p.1 := by
  obtain ⟨h1, rfl⟩ := List.getElem?_eq_some_iff.1 hj
  obtain ⟨h2, rfl⟩ := List.getElem?_eq_some_iff.1 hk
  exact List.pairwise_iff_getElem.1 h.2 j k h1 h2 hjk
theorem own_bad_near {l : List Spn} {k : Nat} {p q : Spn} (hq : l[k]? = some q) (hp : l[k + 1]? = some p) (h : p.1 ≤ q.2) : sown l = false := by
  rw [Bool.eq_false_iff]
  intro h'
  have := own_pair (sown_iff.1 h') hq hp (by omega)
  omega
theorem take_next {α : Type} {l : List α} {k : Nat} {p : α} (h : l[k]? = some p) : l.take (k + 1) = l.take k ++ [p] := by
  rw [List.take_add_one, h]; rfl
theorem own_first {l : List Spn} {p : Spn} (hp : l[0]? = some p) (h : p.1 < p.2) : SOwn (l.take (0 + 1)) := by
  rw [take_next hp]; exact own_one h
theorem own_step {l : List Spn} {k : Nat} {p q : Spn} (h : SOwn (l.take (k + 1))) (hq : l[k]? = some q) (hp : l[k + 1]? = some p) (h1 : p.1 < p.2) (h2 : q.2 < p.1) : SOwn (l.take (k + 1 + 1)) := by
  rw [take_next hp]
  refine own_app.2 ⟨h, own_one h1, fun r hr s hs => ?_⟩
  rw [List.mem_singleton.1 hs]
  rw [take_next hq] at hr h
  obtain ⟨_, hq1, h3⟩ := own_app.1 h
  rcases List.mem_append.1 hr with hr | hr
  · have := h3 r hr q (List.mem_singleton.2 rfl)
    have := hq1.1 q (List.mem_singleton.2 rfl)
    omega
  · rw [List.mem_singleton.1 hr]; exact h2

/-! Which spans meet one. -/
theorem take_while_iff {α : Type} {f : α → Bool} {l : List α} (h : l.Pairwise fun a b => f b = true → f a = true) {k : Nat} {p : α} (hk : l[k]? = some p) : f p = true ↔ k < (l.takeWhile f).length := by
  induction l generalizing k with
  | nil => simp at hk
  | cons q l ih =>
    obtain ⟨h1, h2⟩ := List.pairwise_cons.1 h
    by_cases hq : f q = true
    · rw [List.takeWhile_cons_of_pos hq]
      cases k with
      | zero => simp at hk; subst hk; simp [hq]
      | succ k =>
        have hk' : l[k]? = some p := by simpa using hk
        rw [ih h2 hk']
        simp
    · rw [List.takeWhile_cons_of_neg hq]
      have : ¬ f p = true := by
        intro hp
        cases k with
        | zero => simp at hk; subst hk; exact hq hp
        | succ k =>
          have hk' : l[k]? = some p := by simpa using hk
          exact hq (h1 p (List.mem_of_getElem? hk') hp)
      simp [this]
def nfrom (l : List Spn) (s : Spn) : Nat := (l.takeWhile fun p => decide (p.2 < s.1)).length
def nto (l : List Spn) (s : Spn) : Nat := (l.takeWhile fun p => decide (p.1 ≤ s.2)).length
theorem from_iff {l : List Spn} {s p : Spn} {k : Nat} (h : SOwn l) (hk : l[k]? = some p) : p.2 < s.1 ↔ k < nfrom l s := by
  have := take_while_iff (f := fun p : Spn => decide (p.2 < s.1)) (l := l) (h.2.imp_of_mem (fun {a b} ha hb hab hf => by have := h.1 a ha; have := h.1 b hb; simp at hf ⊢; omega)) hk
  simpa [nfrom] using this
theorem to_iff {l : List Spn} {s p : Spn} {k : Nat} (h : SOwn l) (hk : l[k]? = some p) : p.1 ≤ s.2 ↔ k < nto l s := by
  have := take_while_iff (f := fun p : Spn => decide (p.1 ≤ s.2)) (l := l) (h.2.imp_of_mem (fun {a b} ha hb hab hf => by have := h.1 a ha; have := h.1 b hb; simp at hf ⊢; omega)) hk
  simpa [nto] using this
theorem to_le (l : List Spn) (s : Spn) : nto l s ≤ l.length := by
  unfold nto
  exact (List.takeWhile_prefix _).length_le
theorem from_le {l : List Spn} {s : Spn} (h : SOwn l) (hs : s.1 < s.2) : nfrom l s ≤ nto l s := by
  rcases Nat.lt_or_ge (nto l s) (nfrom l s) with hlt | hge
  · exfalso
    have hn : nfrom l s ≤ l.length := (List.takeWhile_prefix _).length_le
    have hk : nto l s < l.length := by omega
    have h1 := (from_iff (s := s) h (List.getElem?_eq_getElem hk)).2 hlt
    have h2 := (to_iff (s := s) h (List.getElem?_eq_getElem hk))
    have h3 := h.1 _ (List.getElem_mem hk)
    have := h2.1 (by omega)
    omega
  · exact hge
/-- The spans ahead of s, those that meet it, those behind. -/
def sa (l : List Spn) (s : Spn) : List Spn := l.take (nfrom l s)
def sm (l : List Spn) (s : Spn) : List Spn := (l.take (nto l s)).drop (nfrom l s)
def sb (l : List Spn) (s : Spn) : List Spn := l.drop (nto l s)
theorem three {l : List Spn} {s : Spn} (h : SOwn l) (hs : s.1 < s.2) : l = sa l s ++ sm l s ++ sb l s := by
  have h1 : sa l s ++ sm l s = l.take (nto l s) := by
    unfold sa sm
    have : l.take (nfrom l s) = (l.take (nto l s)).take (nfrom l s) := by rw [List.take_take, Nat.min_eq_left (from_le h hs)]
    rw [this, List.take_append_drop]
  rw [h1, sb, List.take_append_drop]
theorem ahead {l : List Spn} {s p : Spn} (h : SOwn l) (hp : p ∈ sa l s) : p.2 < s.1 := by
  obtain ⟨k, hk⟩ := List.getElem?_of_mem hp
  unfold sa at hk
  rw [List.getElem?_take] at hk
  split at hk
  · exact (from_iff h hk).2 (by assumption)
  · cases hk
theorem meets {l : List Spn} {s p : Spn} (h : SOwn l) (hp : p ∈ sm l s) : s.1 ≤ p.2 ∧ p.1 ≤ s.2 := by
  obtain ⟨k, hk⟩ := List.getElem?_of_mem hp
  unfold sm at hk
  rw [List.getElem?_drop, List.getElem?_take] at hk
  split at hk
  · refine ⟨?_, (to_iff h hk).2 (by assumption)⟩
    have := (from_iff (s := s) h hk)
    omega
  · cases hk
theorem behind_ {l : List Spn} {s p : Spn} (h : SOwn l) (hp : p ∈ sb l s) : s.2 < p.1 := by
  obtain ⟨k, hk⟩ := List.getElem?_of_mem hp
  unfold sb at hk
  rw [List.getElem?_drop] at hk
  have := (to_iff (s := s) h hk)
  omega

/-! What is added. -/
def hull (s : Spn) (m : List Spn) : Spn := m.foldl (fun s p => (min s.1 p.1, max s.2 p.2)) s
theorem hull_le {s : Spn} {m : List Spn} : (hull s m).1 ≤ s.1 ∧ s.2 ≤ (hull s m).2 := by
  induction m generalizing s with
  | nil => exact ⟨Nat.le_refl _, Nat.le_refl _⟩
  | cons p m ih =>
    have := ih (s := (min s.1 p.1, max s.2 p.2))
    have e : hull s (p :: m) = hull (min s.1 p.1, max s.2 p.2) m := rfl
    rw [e]
    simp only at this
    omega
theorem hull_gt {s : Spn} {m : List Spn} {x : Nat} (h : x < s.1) (hm : ∀ p ∈ m, x < p.1) : x < (hull s m).1 := by
  induction m generalizing s with
  | nil => exact h
  | cons p m ih =>
    have e : hull s (p :: m) = hull (min s.1 p.1, max s.2 p.2) m := rfl
    rw [e]
    have := hm p List.mem_cons_self
    exact ih (by simp only; omega) fun q hq => hm q (List.mem_cons_of_mem _ hq)
theorem hull_lt {s : Spn} {m : List Spn} {x : Nat} (h : s.2 < x) (hm : ∀ p ∈ m, p.2 < x) : (hull s m).2 < x := by
  induction m generalizing s with
  | nil => exact h
  | cons p m ih =>
    have e : hull s (p :: m) = hull (min s.1 p.1, max s.2 p.2) m := rfl
    rw [e]
    have := hm p List.mem_cons_self
    exact ih (by simp only; omega) fun q hq => hm q (List.mem_cons_of_mem _ hq)
theorem hull_has {s : Spn} {m : List Spn} (hs : s.1 < s.2) (hm : ∀ p ∈ m, p.1 < p.2 ∧ s.1 ≤ p.2 ∧ p.1 ≤ s.2) (n : Nat) : inn (hull s m) n = (inn s n || shas m n) := by
  induction m generalizing s with
  | nil => simp [hull, has_nil]
  | cons p m ih =>
    have e : hull s (p :: m) = hull (min s.1 p.1, max s.2 p.2) m := rfl
    obtain ⟨h1, h2, h3⟩ := hm p List.mem_cons_self
    rw [e, ih (by simp only; omega) (fun q hq => ?_), has_cons, ← Bool.or_assoc]
    · congr 1
      rw [Bool.eq_iff_iff, Bool.or_eq_true, inn_iff, inn_iff, inn_iff]
      simp only
      omega
    · obtain ⟨k1, k2, k3⟩ := hm q (List.mem_cons_of_mem _ hq)
      simp only
      omega
def sadd (l : List Spn) (s : Spn) : List Spn := if s.2 ≤ s.1 then l else sa l s ++ [hull s (sm l s)] ++ sb l s
theorem sadd_own {l : List Spn} {s : Spn} (h : SOwn l) : SOwn (sadd l s) := by
  unfold sadd
  split
  · exact h
  · have hs : s.1 < s.2 := by omega
    have h3 := h
    rw [three h hs] at h3
    obtain ⟨h12, hb, c3⟩ := own_app.1 h3
    obtain ⟨ha, hm, c1⟩ := own_app.1 h12
    have hl := hull_le (s := s) (m := sm l s)
    refine own_app.2 ⟨own_app.2 ⟨ha, own_one (by omega), fun p hp q hq => ?_⟩, hb, fun p hp q hq => ?_⟩
    · rw [List.mem_singleton.1 hq]
      exact hull_gt (ahead h hp) fun r hr => c1 p hp r hr
    · rcases List.mem_append.1 hp with hp | hp
      · exact c3 p (List.mem_append_left _ hp) q hq
      · rw [List.mem_singleton.1 hp]
        exact hull_lt (behind_ h hq) fun r hr => c3 r (List.mem_append_right _ hr) q hq
theorem sadd_has {l : List Spn} {s : Spn} (h : SOwn l) (n : Nat) : shas (sadd l s) n = (shas l n || inn s n) := by
  unfold sadd
  split
  · have : inn s n = false := by simp [inn]; omega
    rw [this, Bool.or_false]
  · have hs : s.1 < s.2 := by omega
    rw [has_app, has_app, has_cons, has_nil, Bool.or_false, hull_has hs (fun p hp => ⟨?_, meets h hp⟩)]
    · conv => rhs; rw [three h hs]
      rw [has_app, has_app]
      cases shas (sa l s) n <;> cases shas (sm l s) n <;> cases shas (sb l s) n <;> cases inn s n <;> rfl
    · refine h.1 p ?_
      rw [three h hs]
      exact List.mem_append_left _ (List.mem_append_right _ hp)
theorem sadd_len (l : List Spn) (s : Spn) : (sadd l s).length ≤ l.length + 1 ∨ ¬ SOwn l := by
  by_cases h : SOwn l
  · left
    unfold sadd
    split
    · omega
    · have h3 := congrArg List.length (three (s := s) h (by omega))
      simp only [List.length_append, List.length_singleton] at h3 ⊢
      omega
  · exact .inr h

/-! What is cut. -/
def piece (s p : Spn) : List Spn := slay (p.1, min p.2 s.1) ++ slay (max p.1 s.2, p.2)
def scut (l : List Spn) (s : Spn) : List Spn := if s.2 ≤ s.1 then l else l.flatMap (piece s)
theorem mem_lay {s p : Spn} : p ∈ slay s ↔ p = s ∧ s.1 < s.2 := by
  unfold slay
  split
  · simp; omega
  · simp; omega
theorem lay_has (s : Spn) (n : Nat) : shas (slay s) n = inn s n := by
  unfold slay
  split
  · rw [has_nil]; symm; simp [inn]; omega
  · rw [has_cons, has_nil, Bool.or_false]
theorem lay_own (s : Spn) : SOwn (slay s) := by
  unfold slay
  split
  · exact own_nil
  · exact own_one (by omega)
theorem piece_has {s p : Spn} (hs : s.1 < s.2) (n : Nat) : shas (piece s p) n = (inn p n && !inn s n) := by
  unfold piece
  rw [has_app, lay_has, lay_has, Bool.eq_iff_iff]
  simp only [Bool.or_eq_true, Bool.and_eq_true, Bool.not_eq_true', inn_iff]
  have : inn s n = false ↔ ¬ (s.1 ≤ n ∧ n < s.2) := by rw [← inn_iff]; simp
  rw [this]
  omega
theorem has_flat (l : List Spn) (f : Spn → List Spn) (n : Nat) : shas (l.flatMap f) n = l.any fun p => shas (f p) n := by
  simp [shas, List.any_flatMap]
theorem any_and {α : Type} (l : List α) (f : α → Bool) (c : Bool) : (l.any fun p => f p && c) = (l.any f && c) := by
  induction l with
  | nil => simp
  | cons p l ih => simp only [List.any_cons, ih]; cases f p <;> cases l.any f <;> cases c <;> rfl
theorem any_same {α : Type} {l : List α} {f g : α → Bool} (h : ∀ p ∈ l, f p = g p) : l.any f = l.any g := by
  induction l with
  | nil => rfl
  | cons p l ih => simp only [List.any_cons, h p List.mem_cons_self, ih fun q hq => h q (List.mem_cons_of_mem _ hq)]
theorem scut_has {l : List Spn} {s : Spn} (n : Nat) : shas (scut l s) n = (shas l n && !inn s n) := by
  unfold scut
  split
  · have : inn s n = false := by simp [inn]; omega
    simp [this]
  · rw [has_flat, any_same (fun p _ => piece_has (by omega) n), any_and]
    rfl
theorem own_flat {l : List Spn} {f : Spn → List Spn} (h : SOwn l) (ho : ∀ p ∈ l, SOwn (f p)) (hi : ∀ p ∈ l, ∀ q ∈ f p, p.1 ≤ q.1 ∧ q.2 ≤ p.2) : SOwn (l.flatMap f) := by
  induction l with
  | nil => exact own_nil
  | cons p l ih =>
    obtain ⟨h1, h2, h3⟩ := own_cons.1 h
    rw [List.flatMap_cons]
    refine own_app.2 ⟨ho p List.mem_cons_self, ih h3 (fun q hq => ho q (List.mem_cons_of_mem _ hq)) (fun q hq => hi q (List.mem_cons_of_mem _ hq)), fun x hx y hy => ?_⟩
    obtain ⟨q, hq, hyq⟩ := List.mem_flatMap.1 hy
    have a1 := hi p List.mem_cons_self x hx
    have a2 := hi q (List.mem_cons_of_mem _ hq) y hyq
    have a3 := h2 q hq
    omega
theorem piece_in {s p q : Spn} (h : q ∈ piece s p) : p.1 ≤ q.1 ∧ q.2 ≤ p.2 := by
  unfold piece at h
  rcases List.mem_append.1 h with h | h
  · obtain ⟨rfl, _⟩ := mem_lay.1 h
    simp only; omega
  · obtain ⟨rfl, _⟩ := mem_lay.1 h
    simp only; omega
theorem piece_own {s p : Spn} (hs : s.1 < s.2) : SOwn (piece s p) := by
  unfold piece
  refine own_app.2 ⟨lay_own _, lay_own _, fun x hx y hy => ?_⟩
  obtain ⟨rfl, h1⟩ := mem_lay.1 hx
  obtain ⟨rfl, h2⟩ := mem_lay.1 hy
  simp only at *; omega
theorem scut_own {l : List Spn} {s : Spn} (h : SOwn l) : SOwn (scut l s) := by
  unfold scut
  split
  · exact h
  · exact own_flat h (fun p _ => piece_own (by omega)) fun p _ q hq => piece_in hq
/-- Of spans that meet s. -/
def piece2 (s p : Spn) : List Spn := slay (p.1, s.1) ++ slay (s.2, p.2)
theorem flat_self {l : List Spn} {f : Spn → List Spn} (h : ∀ p ∈ l, f p = [p]) : l.flatMap f = l := by
  induction l with
  | nil => rfl
  | cons p l ih => rw [List.flatMap_cons, h p List.mem_cons_self, ih fun q hq => h q (List.mem_cons_of_mem _ hq)]; rfl
theorem flat_same {l : List Spn} {f g : Spn → List Spn} (h : ∀ p ∈ l, f p = g p) : l.flatMap f = l.flatMap g := by
  induction l with
  | nil => rfl
  | cons p l ih => rw [List.flatMap_cons, List.flatMap_cons, h p List.mem_cons_self, ih fun q hq => h q (List.mem_cons_of_mem _ hq)]
theorem lay_no {s : Spn} (h : s.2 ≤ s.1) : slay s = [] := by unfold slay; rw [if_pos h]
theorem lay_yes {s : Spn} (h : s.1 < s.2) : slay s = [s] := by unfold slay; rw [if_neg (by omega)]
theorem scut_three {l : List Spn} {s : Spn} (h : SOwn l) (hs : s.1 < s.2) : scut l s = sa l s ++ (sm l s).flatMap (piece2 s) ++ sb l s := by
  unfold scut
  rw [if_neg (by omega)]
  have own : ∀ p, p ∈ sa l s ∨ p ∈ sm l s ∨ p ∈ sb l s → p.1 < p.2 := fun p hp => h.1 p (by
    rw [three h hs]; simp only [List.mem_append]; rcases hp with hp | hp | hp <;> simp [hp])
  conv => lhs; rw [three h hs]
  rw [List.flatMap_append, List.flatMap_append, flat_self (l := sa l s) (fun p hp => ?_), flat_self (l := sb l s) (fun p hp => ?_), flat_same (l := sm l s) (fun p hp => ?_)]
  · have h1 := meets h hp
    unfold piece piece2
    rw [show min p.2 s.1 = s.1 by omega, show max p.1 s.2 = s.2 by omega]
  · have h1 := behind_ h hp
    have h2 := own p (.inr (.inr hp))
    unfold piece
    rw [lay_no (s := (p.1, min p.2 s.1)) (by simp only; omega), show max p.1 s.2 = p.1 by omega, lay_yes (s := (p.1, p.2)) h2]
    rfl
  · have h1 := ahead h hp
    have h2 := own p (.inl hp)
    unfold piece
    rw [lay_no (s := (max p.1 s.2, p.2)) (by simp only; omega), show min p.2 s.1 = p.2 by omega, lay_yes (s := (p.1, p.2)) h2]
    rfl
theorem flat_len {l : List Spn} {f : Spn → List Spn} {c : Nat} (h : ∀ p ∈ l, (f p).length ≤ c) : (l.flatMap f).length ≤ c * l.length := by
  induction l with
  | nil => simp
  | cons p l ih =>
    rw [List.flatMap_cons, List.length_append, List.length_cons, Nat.mul_succ]
    have := h p List.mem_cons_self
    have := ih fun q hq => h q (List.mem_cons_of_mem _ hq)
    omega
theorem lay_len (s : Spn) : (slay s).length ≤ 1 := by unfold slay; split <;> simp
theorem piece_len (s p : Spn) : (piece s p).length ≤ 2 := by
  unfold piece; rw [List.length_append]; have := lay_len (p.1, min p.2 s.1); have := lay_len (max p.1 s.2, p.2); omega
theorem piece2_len (s p : Spn) : (piece2 s p).length ≤ 2 := by
  unfold piece2; rw [List.length_append]; have := lay_len (p.1, s.1); have := lay_len (s.2, p.2); omega
theorem scut_len (l : List Spn) (s : Spn) : (scut l s).length ≤ 2 * l.length := by
  unfold scut
  split
  · omega
  · exact flat_len fun p _ => piece_len s p

/-! What is in both. -/
def smeet (p q : Spn) : Spn := (max p.1 q.1, min p.2 q.2)
def sboth (a b : List Spn) : List Spn := a.flatMap fun p => b.flatMap fun q => slay (smeet p q)
theorem meet_inn (p q : Spn) (n : Nat) : inn (smeet p q) n = (inn p n && inn q n) := by
  rw [Bool.eq_iff_iff, Bool.and_eq_true, inn_iff, inn_iff, inn_iff]
  simp only [smeet]
  omega
theorem sboth_has (a b : List Spn) (n : Nat) : shas (sboth a b) n = (shas a n && shas b n) := by
  unfold sboth
  rw [has_flat, any_same (g := fun p => inn p n && shas b n) (fun p _ => ?_), any_and]
  · rfl
  · rw [has_flat, any_same (g := fun q => inn q n && inn p n) (fun q _ => by rw [lay_has, meet_inn, Bool.and_comm]), any_and, Bool.and_comm]
    rfl
theorem meets_in {p : Spn} {b : List Spn} {x : Spn} (h : x ∈ b.flatMap fun q => slay (smeet p q)) : p.1 ≤ x.1 ∧ x.2 ≤ p.2 := by
  obtain ⟨q, _, hx⟩ := List.mem_flatMap.1 h
  obtain ⟨rfl, _⟩ := mem_lay.1 hx
  simp only [smeet]; omega
theorem meets_own {p : Spn} {b : List Spn} (hb : SOwn b) : SOwn (b.flatMap fun q => slay (smeet p q)) :=
  own_flat hb (fun q _ => lay_own _) fun q _ x hx => by
    obtain ⟨rfl, _⟩ := mem_lay.1 hx
    simp only [smeet]; omega
theorem sboth_own {a b : List Spn} (ha : SOwn a) (hb : SOwn b) : SOwn (sboth a b) := own_flat ha (fun p _ => meets_own hb) fun p _ x hx => meets_in hx
theorem flat_none {l : List Spn} {f : Spn → List Spn} (h : ∀ p ∈ l, f p = []) : l.flatMap f = [] := by
  induction l with
  | nil => rfl
  | cons p l ih => rw [List.flatMap_cons, h p List.mem_cons_self, ih fun q hq => h q (List.mem_cons_of_mem _ hq)]; rfl
theorem sboth_nil_left (b : List Spn) : sboth [] b = [] := rfl
theorem sboth_nil_right (a : List Spn) : sboth a [] = [] := flat_none fun _ _ => rfl
theorem sboth_left {p q : Spn} {a b : List Spn} (hb : SOwn (q :: b)) (h : p.2 < q.2) : sboth (p :: a) (q :: b) = slay (smeet p q) ++ sboth a (q :: b) := by
  obtain ⟨h1, h2, h3⟩ := own_cons.1 hb
  unfold sboth
  rw [List.flatMap_cons, List.flatMap_cons, flat_none (l := b) (fun r hr => ?_), List.append_nil]
  have := h2 r hr
  exact lay_no (by simp only [smeet]; omega)
theorem sboth_right {p q : Spn} {a b : List Spn} (ha : SOwn (p :: a)) (h : q.2 ≤ p.2) : sboth (p :: a) (q :: b) = slay (smeet p q) ++ sboth (p :: a) b := by
  obtain ⟨h1, h2, h3⟩ := own_cons.1 ha
  unfold sboth
  rw [List.flatMap_cons, List.flatMap_cons, List.flatMap_cons, List.append_assoc]
  congr 2
  refine flat_same fun r hr => ?_
  have := h2 r hr
  rw [List.flatMap_cons, lay_no (s := smeet r q) (by simp only [smeet]; omega)]
  rfl
theorem sboth_len (a b : List Spn) : (sboth a b).length ≤ b.length * a.length := by
  unfold sboth
  refine flat_len fun p _ => ?_
  have := flat_len (l := b) (f := fun q => slay (smeet p q)) (c := 1) fun q _ => lay_len _
  omega

/-! Numbers of 64 bits. -/
theorem sfits_app {a b : List Spn} (ha : SFits a) (hb : SFits b) : SFits (a ++ b) := fun p hp => by
  rcases List.mem_append.1 hp with hp | hp
  · exact ha p hp
  · exact hb p hp
theorem sfits_sub {a b : List Spn} (hb : SFits b) (h : ∀ p ∈ a, p ∈ b) : SFits a := fun p hp => hb p (h p hp)
theorem sfits_nil : SFits [] := fun p hp => by cases hp
theorem sfits_one {p : Spn} (h : p.1 < 18446744073709551616 ∧ p.2 < 18446744073709551616) : SFits [p] := fun q hq => by rw [List.mem_singleton.1 hq]; exact h
theorem hull_fits {s : Spn} {m : List Spn} (hs : s.1 < 18446744073709551616 ∧ s.2 < 18446744073709551616) (hm : SFits m) : (hull s m).1 < 18446744073709551616 ∧ (hull s m).2 < 18446744073709551616 :=
  ⟨Nat.lt_of_le_of_lt hull_le.1 hs.1, hull_lt hs.2 fun p hp => (hm p hp).2⟩
theorem sadd_fits {l : List Spn} {s : Spn} (h : SFits l) (hs : s.1 < 18446744073709551616 ∧ s.2 < 18446744073709551616) : SFits (sadd l s) := by
  unfold sadd
  split
  · exact h
  · refine sfits_app (sfits_app (sfits_sub h fun p hp => List.mem_of_mem_take hp) (sfits_one (hull_fits hs (sfits_sub h fun p hp => List.mem_of_mem_take (List.mem_of_mem_drop hp))))) (sfits_sub h fun p hp => List.mem_of_mem_drop hp)
theorem scut_fits {l : List Spn} {s : Spn} (h : SFits l) (hs : s.1 < 18446744073709551616 ∧ s.2 < 18446744073709551616) : SFits (scut l s) := by
  unfold scut
  split
  · exact h
  · intro q hq
    obtain ⟨p, hp, hq⟩ := List.mem_flatMap.1 hq
    have := h p hp
    unfold piece at hq
    rcases List.mem_append.1 hq with hq | hq <;> obtain ⟨rfl, _⟩ := mem_lay.1 hq <;> simp only <;> omega
theorem sboth_fits {a b : List Spn} (ha : SFits a) (hb : SFits b) : SFits (sboth a b) := by
  intro x hx
  obtain ⟨p, hp, hx⟩ := List.mem_flatMap.1 hx
  obtain ⟨q, hq, hx⟩ := List.mem_flatMap.1 hx
  obtain ⟨rfl, _⟩ := mem_lay.1 hx
  have := ha p hp
  have := hb q hq
  simp only [smeet]; omega

/-! How many numbers. -/
theorem ssum_app (a b : List Spn) : ssum (a ++ b) = ssum a + ssum b := by simp [ssum]
theorem ssum_next {l : List Spn} {k : Nat} {p : Spn} (h : l[k]? = some p) : ssum (l.take (k + 1)) = ssum (l.take k) + (p.2 - p.1) := by
  rw [take_next h, ssum_app]; simp [ssum]
theorem ssum_le {l : List Spn} {lo N : Nat} (h : SOwn l) (hlo : ∀ p ∈ l, lo ≤ p.1) (hN : ∀ p ∈ l, p.2 ≤ N) (hl : lo ≤ N) : ssum l + lo ≤ N := by
  induction l generalizing lo with
  | nil => simpa [ssum] using hl
  | cons p l ih =>
    obtain ⟨h1, h2, h3⟩ := own_cons.1 h
    have e : ssum (p :: l) = (p.2 - p.1) + ssum l := by simp [ssum]
    have := hlo p List.mem_cons_self
    have := ih (lo := p.2) h3 (fun q hq => by have := h2 q hq; omega) (fun q hq => hN q (List.mem_cons_of_mem _ hq)) (hN p List.mem_cons_self)
    omega
theorem ssum_lt {l : List Spn} (h : SOwn l) (hf : SFits l) : ssum l < 18446744073709551616 := by
  have := ssum_le (lo := 0) (N := 18446744073709551615) h (fun _ _ => Nat.zero_le _) (fun p hp => by have := (hf p hp).2; omega) (by omega)
  omega

/-! The last spans. -/
def slast (l : List Spn) (k : Nat) : List Spn := l.drop (l.length - k)
theorem slast_own {l : List Spn} {k : Nat} (h : SOwn l) : SOwn (slast l k) := own_sub h (List.drop_sublist _ _)
theorem slast_fits {l : List Spn} {k : Nat} (h : SFits l) : SFits (slast l k) := sfits_sub h fun p hp => List.mem_of_mem_drop hp
end Wig
