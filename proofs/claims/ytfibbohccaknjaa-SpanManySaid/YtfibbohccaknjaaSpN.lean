/-
  The document's way to add, cut and meet spans: each span joined to those ahead; it comes to the same lists. How many numbers are added and cut. No condition: nothing of the program is named here.
-/
import Derived.Test.YtfibbohccaknjaaSpM
set_option linter.unusedVariables false
namespace Wig
def rjoin (o : List Spn) (x : Spn) : List Spn := if x.2 ≤ x.1 then o else match o.getLast? with
  | none => o ++ [x]
  | some p => if p.2 < x.1 then o ++ [x] else o.dropLast ++ [(p.1, max p.2 x.2)]

theorem last_split {o : List Spn} {p : Spn} (h : o.getLast? = some p) : o = o.dropLast ++ [p] := by
  induction o with
  | nil => simp at h
  | cons q o ih =>
    cases o with
    | nil => simp at h; rw [h]; rfl
    | cons r o =>
      have h' : (r :: o).getLast? = some p := by simpa [List.getLast?_cons_cons] using h
      have := ih h'
      rw [List.dropLast_cons_cons, List.cons_append, ← this]
theorem rjoin_len (o : List Spn) (x : Spn) : (rjoin o x).length ≤ o.length + 1 := by
  unfold rjoin
  split
  · omega
  · split
    · simp
    · split
      · simp
      · simp only [List.length_append, List.length_dropLast, List.length_singleton]; omega
/-- A span that lies apart behind all is laid behind. -/
theorem rjoin_apart {o : List Spn} {x : Spn} (h : SOwn (o ++ slay x)) : rjoin o x = o ++ slay x := by
  unfold rjoin
  by_cases hx : x.2 ≤ x.1
  · rw [if_pos hx, lay_no hx, List.append_nil]
  · rw [if_neg hx, lay_yes (by omega)]
    rw [lay_yes (by omega)] at h
    split
    · rfl
    · rename_i p hp
      have := (own_app.1 h).2.2 p (by rw [last_split hp]; simp) x (by simp)
      rw [if_pos this]
theorem rjoin_own {o : List Spn} {x : Spn} (h : SOwn o) (hx : ∀ p ∈ o, p.1 ≤ x.1) : SOwn (rjoin o x) ∧ (∀ n, shas (rjoin o x) n = (shas o n || inn x n)) ∧ ∀ p ∈ rjoin o x, p.1 ≤ x.1 := by
  unfold rjoin
  by_cases he : x.2 ≤ x.1
  · rw [if_pos he]
    refine ⟨h, fun n => ?_, hx⟩
    have : inn x n = false := by simp [inn]; omega
    rw [this, Bool.or_false]
  · rw [if_neg he]
    have hlt : x.1 < x.2 := by omega
    split
    · rename_i hn
      have : o = [] := by simpa using hn
      subst this
      exact ⟨own_one hlt, fun n => by simp [has_cons, has_nil], fun p hp => by simp at hp; rw [hp]; exact Nat.le_refl _⟩
    · rename_i p hp
      have hs := last_split hp
      obtain ⟨o', ho'⟩ : ∃ o', o' = o.dropLast := ⟨_, rfl⟩
      rw [← ho'] at hs ⊢
      rw [hs] at h hx ⊢
      obtain ⟨h1, h2, h3⟩ := own_app.1 h
      have hp1 := h2.1 p (by simp)
      have hp2 := hx p (by simp)
      split
      · rename_i hap
        refine ⟨own_app.2 ⟨h, own_one hlt, fun q hq r hr => ?_⟩, fun n => by rw [has_app, has_cons, has_nil, Bool.or_false], fun q hq => ?_⟩
        · rw [List.mem_singleton.1 hr]
          rcases List.mem_append.1 hq with hq | hq
          · have := h3 q hq p (by simp); omega
          · rw [List.mem_singleton.1 hq]; exact hap
        · rcases List.mem_append.1 hq with hq | hq
          · exact hx q hq
          · rw [List.mem_singleton.1 hq]; exact Nat.le_refl _
      · rename_i hap
        refine ⟨own_app.2 ⟨h1, own_one (by simp only; omega), fun q hq r hr => ?_⟩, fun n => ?_, fun q hq => ?_⟩
        · rw [List.mem_singleton.1 hr]
          exact h3 q hq p (by simp)
        · rw [has_app, has_app, has_cons, has_cons, has_nil, Bool.or_false, Bool.or_false, Bool.or_assoc]
          congr 1
          rw [Bool.eq_iff_iff, Bool.or_eq_true, inn_iff, inn_iff, inn_iff]
          simp only
          omega
        · rcases List.mem_append.1 hq with hq | hq
          · exact hx q (List.mem_append_left _ hq)
          · rw [List.mem_singleton.1 hq]; exact hp2

/-- What the document's Add holds behind the first k spans. -/
structure RInv (l : List Spn) (s : Spn) (k : Nat) (o : List Spn) (d : Bool) : Prop where
  own : SOwn o
  has : ∀ n, shas o n = (shas (l.take k) n || (d && inn s n))
  low : ∀ q ∈ l.drop k, ∀ p ∈ o, p.1 ≤ q.1
  ahead : d = false → ∀ p ∈ o, p.1 < s.1
  len : o.length ≤ 2 * k + 1
theorem rinv_nil (l : List Spn) (s : Spn) : RInv l s 0 [] false := ⟨own_nil, fun n => (by simp [has_nil]), fun q _ p hp => (by cases hp), fun _ p hp => (by cases hp), by simp⟩
theorem rinv_low {l : List Spn} {k : Nat} {p : Spn} (h : SOwn l) (hp : l[k]? = some p) : ∀ q ∈ l.drop (k + 1), p.1 < q.1 := by
  intro q hq
  obtain ⟨j, hj⟩ := List.getElem?_of_mem hq
  rw [List.getElem?_drop] at hj
  have := own_pair h hp hj (by omega)
  have := h.1 p (List.mem_of_getElem? hp)
  omega
theorem mem_drop_at {l : List Spn} {k : Nat} {p : Spn} (hp : l[k]? = some p) : p ∈ l.drop k := by
  have : (l.drop k)[0]? = some p := by rw [List.getElem?_drop]; simpa using hp
  exact List.mem_of_getElem? this
theorem rinv_join {l : List Spn} {s p : Spn} {k : Nat} {o : List Spn} (h : SOwn l) (hp : l[k]? = some p) (i : RInv l s k o false) (hs : s.1 ≤ p.1) : RInv l s (k + 1) (rjoin (rjoin o s) p) true := by
  obtain ⟨a1, a2, a3⟩ := rjoin_own (x := s) i.own fun q hq => Nat.le_of_lt (i.ahead rfl q hq)
  obtain ⟨b1, b2, b3⟩ := rjoin_own (x := p) a1 fun q hq => Nat.le_trans (a3 q hq) hs
  refine ⟨b1, fun n => ?_, fun q hq r hr => ?_, fun h => (by cases h), ?_⟩
  · rw [b2, a2, i.has, take_next hp, has_app, has_cons, has_nil, Bool.or_false]
    cases shas (l.take k) n <;> cases inn s n <;> cases inn p n <;> rfl
  · have := b3 r hr
    have := rinv_low h hp q hq
    omega
  · have := rjoin_len (rjoin o s) p
    have := rjoin_len o s
    have := i.len
    omega
theorem rinv_skip {l : List Spn} {s p : Spn} {k : Nat} {o : List Spn} {d : Bool} (h : SOwn l) (hp : l[k]? = some p) (i : RInv l s k o d) (hs : d = true ∨ p.1 < s.1) : RInv l s (k + 1) (rjoin o p) d := by
  obtain ⟨b1, b2, b3⟩ := rjoin_own (x := p) i.own fun q hq => i.low p (mem_drop_at hp) q hq
  refine ⟨b1, fun n => ?_, fun q hq r hr => ?_, fun hd r hr => ?_, ?_⟩
  · rw [b2, i.has, take_next hp, has_app, has_cons, has_nil, Bool.or_false]
    cases shas (l.take k) n <;> cases (d && inn s n) <;> cases inn p n <;> rfl
  · have := b3 r hr
    have := rinv_low h hp q hq
    omega
  · have := b3 r hr
    rcases hs with hs | hs
    · rw [hs] at hd; cases hd
    · omega
  · have := rjoin_len o p
    have := i.len
    omega
theorem rinv_done {l : List Spn} {s : Spn} {k : Nat} {o : List Spn} (h : SOwn l) (hk : k = l.length) (i : RInv l s k o true) : o = sadd l s :=
  own_unique i.own (sadd_own h) fun n => by rw [i.has, sadd_has h, hk, List.take_length, Bool.true_and]
theorem rinv_end {l : List Spn} {s : Spn} {k : Nat} {o : List Spn} (h : SOwn l) (hk : k = l.length) (i : RInv l s k o false) : rjoin o s = sadd l s := by
  obtain ⟨a1, a2, _⟩ := rjoin_own (x := s) i.own fun q hq => Nat.le_of_lt (i.ahead rfl q hq)
  exact own_unique a1 (sadd_own h) fun n => by rw [a2, i.has, sadd_has h, hk, List.take_length]; simp

/-! The document's Cut and Both lay pieces that lie apart. -/
theorem cut_meets {l : List Spn} {s p : Spn} (hf : p.2 < 18446744073709551616) : piece s p = slay (smeet p (0, s.1)) ++ slay (smeet p (s.2, 18446744073709551615)) := by
  unfold piece smeet
  simp only
  rw [show max p.1 0 = p.1 by omega, show min p.2 18446744073709551615 = p.2 by omega]
theorem flat_prefix {l : List Spn} (f : Spn → List Spn) (k : Nat) : ∃ r, l.flatMap f = (l.take k).flatMap f ++ r := ⟨(l.drop k).flatMap f, by rw [← List.flatMap_append, List.take_append_drop]⟩
theorem flat_next {l : List Spn} {f : Spn → List Spn} {k : Nat} {p : Spn} (hp : l[k]? = some p) : (l.take (k + 1)).flatMap f = (l.take k).flatMap f ++ f p := by
  rw [take_next hp, List.flatMap_append]; simp
theorem own_prefix {a r : List Spn} (h : SOwn (a ++ r)) : SOwn a := (own_app.1 h).1
theorem rcut_step {l : List Spn} {s p : Spn} {k : Nat} (h : SOwn l) (hf : SFits l) (hs : s.1 < s.2) (hp : l[k]? = some p) :
    rjoin (rjoin ((l.take k).flatMap (piece s)) (smeet p (0, s.1))) (smeet p (s.2, 18446744073709551615)) = (l.take (k + 1)).flatMap (piece s) := by
  have ho : SOwn ((l.take (k + 1)).flatMap (piece s)) := own_flat (own_sub h (List.take_sublist _ _)) (fun q _ => piece_own hs) fun q _ x hx => piece_in hx
  have hp2 := (hf p (List.mem_of_getElem? hp)).2
  rw [flat_next hp, cut_meets (l := l) hp2, ← List.append_assoc] at ho ⊢
  rw [rjoin_apart (own_prefix ho), rjoin_apart ho]
theorem rboth_step {a b : List Spn} {p q : Spn} {i k : Nat} (ha : SOwn a) (hb : SOwn b) (hp : a[i]? = some p) (hq : b[k]? = some q) :
    rjoin (sboth (a.take i) b ++ (b.take k).flatMap fun q => slay (smeet p q)) (smeet p q) = sboth (a.take i) b ++ (b.take (k + 1)).flatMap fun q => slay (smeet p q) := by
  have ho : SOwn (sboth (a.take i) b ++ (b.take (k + 1)).flatMap fun q => slay (smeet p q)) := by
    obtain ⟨r, hr⟩ := flat_prefix (l := b) (fun q => slay (smeet p q)) (k + 1)
    refine own_prefix (r := r) ?_
    rw [List.append_assoc, ← hr]
    have e : sboth (a.take i) b ++ (b.flatMap fun q => slay (smeet p q)) = sboth (a.take (i + 1)) b := by unfold sboth; rw [flat_next hp]
    rw [e]
    exact sboth_own (own_sub ha (List.take_sublist _ _)) hb
  have e2 : ((b.take (k + 1)).flatMap fun q => slay (smeet p q)) = ((b.take k).flatMap fun q => slay (smeet p q)) ++ slay (smeet p q) := flat_next hq
  rw [e2, ← List.append_assoc] at ho ⊢
  exact rjoin_apart ho
theorem rboth_next {a b : List Spn} {p : Spn} {i : Nat} (hp : a[i]? = some p) : sboth (a.take i) b ++ (b.flatMap fun q => slay (smeet p q)) = sboth (a.take (i + 1)) b := by unfold sboth; rw [flat_next hp]
theorem rboth_len (a b : List Spn) (p : Spn) (i k : Nat) : (sboth (a.take i) b ++ (b.take k).flatMap fun q => slay (smeet p q)).length ≤ b.length * a.length + b.length := by
  rw [List.length_append]
  have h1 := sboth_len (a.take i) b
  have h2 := flat_len (l := b.take k) (f := fun q => slay (smeet p q)) (c := 1) fun q _ => lay_len _
  have h3 : (a.take i).length ≤ a.length := by rw [List.length_take]; omega
  have h4 : (b.take k).length ≤ b.length := by rw [List.length_take]; omega
  have h5 : b.length * (a.take i).length ≤ b.length * a.length := Nat.mul_le_mul_left _ h3
  omega
theorem rcut_len (l : List Spn) (s : Spn) (k : Nat) : ((l.take k).flatMap (piece s)).length ≤ 2 * l.length := by
  have := flat_len (l := l.take k) (f := piece s) (c := 2) fun p _ => piece_len s p
  have : (l.take k).length ≤ l.length := by rw [List.length_take]; omega
  omega

/-! Numbers, counted. -/
theorem countP_or {α : Type} (f g : α → Bool) (l : List α) : l.countP (fun x => f x || g x) + l.countP (fun x => f x && g x) = l.countP f + l.countP g := by
  induction l with
  | nil => rfl
  | cons x l ih =>
    simp only [List.countP_cons]
    cases f x <;> cases g x <;> simp <;> omega
theorem countP_same {α : Type} {f g : α → Bool} {l : List α} (h : ∀ x, f x = g x) : l.countP f = l.countP g := by rw [funext h]
theorem count_inn {s : Spn} {N : Nat} (h : s.2 ≤ N) : (List.range N).countP (inn s) = s.2 - s.1 := by
  induction N with
  | zero => simp; omega
  | succ N ih =>
    rw [List.range_succ, List.countP_append]
    by_cases hN : s.2 ≤ N
    · rw [ih hN]
      have : inn s N = false := by simp [inn]; omega
      simp [this]
    · have e : s.2 = N + 1 := by omega
      by_cases h1 : s.1 ≤ N
      · have h2 : (List.range N).countP (inn s) = (List.range N).countP (inn (s.1, N)) := by
          refine List.countP_congr fun x hx => ?_
          have := List.mem_range.1 hx
          rw [inn_iff, inn_iff]; simp only; omega
        have h3 : inn s N = true := inn_iff.2 ⟨h1, by omega⟩
        have h4 : ∀ M, (List.range M).countP (inn (s.1, M)) = M - s.1 := by
          intro M
          induction M with
          | zero => simp
          | succ M ihm =>
            rw [List.range_succ, List.countP_append]
            have h5 : (List.range M).countP (inn (s.1, M + 1)) = (List.range M).countP (inn (s.1, M)) := by
              refine List.countP_congr fun x hx => ?_
              have := List.mem_range.1 hx
              rw [inn_iff, inn_iff]; simp only; omega
            rw [h5, ihm]
            by_cases h6 : s.1 ≤ M
            · have : inn (s.1, M + 1) M = true := inn_iff.2 ⟨h6, by simp⟩
              simp [this]; omega
            · have : inn (s.1, M + 1) M = false := by simp [inn]; omega
              simp [this]; omega
        rw [h2, h4]
        simp [h3]; omega
      · have h2 : (List.range (N)).countP (inn s) = 0 := by
          rw [List.countP_eq_zero]
          intro x hx
          have := List.mem_range.1 hx
          rw [inn_iff]; omega
        have h3 : inn s N = false := by simp [inn]; omega
        rw [h2]
        simp [h3]; omega
theorem ssum_count {l : List Spn} {N : Nat} (h : SOwn l) (hN : ∀ p ∈ l, p.2 ≤ N) : ssum l = (List.range N).countP (shas l) := by
  induction l with
  | nil =>
    have : shas [] = fun _ => false := rfl
    rw [this]; simp [ssum]
  | cons p l ih =>
    obtain ⟨h1, h2, h3⟩ := own_cons.1 h
    have e : ssum (p :: l) = (p.2 - p.1) + ssum l := by simp [ssum]
    have e2 : shas (p :: l) = fun n => inn p n || shas l n := funext fun n => has_cons p l n
    have e3 : (List.range N).countP (fun n => inn p n && shas l n) = 0 := by
      rw [List.countP_eq_zero]
      intro n _
      rw [Bool.and_eq_true, inn_iff]
      rintro ⟨⟨_, h5⟩, h6⟩
      obtain ⟨q, hq, h7, _⟩ := has_iff.1 h6
      have := h2 q hq
      omega
    have e4 := countP_or (inn p) (shas l) (List.range N)
    rw [e, ih h3 (fun q hq => hN q (List.mem_cons_of_mem _ hq)), e2, ← count_inn (hN p List.mem_cons_self)]
    omega
theorem sadd_le {l : List Spn} {s : Spn} {N : Nat} (hN : ∀ p ∈ l, p.2 ≤ N) (hsN : s.2 ≤ N) : ∀ p ∈ sadd l s, p.2 ≤ N := by
  intro p hp
  unfold sadd at hp
  split at hp
  · exact hN p hp
  · rcases List.mem_append.1 hp with hp | hp
    · rcases List.mem_append.1 hp with hp | hp
      · exact hN p (List.mem_of_mem_take hp)
      · rw [List.mem_singleton.1 hp]
        have := hull_lt (s := s) (m := sm l s) (x := N + 1) (by omega) fun p hp => by have := hN p (List.mem_of_mem_take (List.mem_of_mem_drop hp)); omega
        omega
    · exact hN p (List.mem_of_mem_drop hp)
/-- What is added adds what is new. -/
theorem sadd_sum {l : List Spn} {s : Spn} {N : Nat} (h : SOwn l) (hN : ∀ p ∈ l, p.2 ≤ N) (hs : s.1 < s.2) (hsN : s.2 ≤ N) : ssum (sadd l s) + ssum (sboth l [s]) = ssum l + (s.2 - s.1) := by
  have h1 : ∀ p ∈ sadd l s, p.2 ≤ N := by
    intro p hp
    exact sadd_le hN hsN p hp
  have h2 : ∀ p ∈ sboth l [s], p.2 ≤ N := by
    intro p hp
    obtain ⟨q, hq, hx⟩ := List.mem_flatMap.1 hp
    have := meets_in hx
    have := hN q hq
    omega
  rw [ssum_count (sadd_own h) h1, ssum_count (sboth_own h (own_one hs)) h2, ssum_count h hN, ← count_inn hsN, ← countP_or (shas l) (inn s)]
  congr 1
  · exact countP_same fun n => sadd_has h n
  · exact countP_same fun n => by rw [sboth_has, has_cons, has_nil, Bool.or_false]
/-- What is cut takes away what was in. -/
theorem scut_sum {l : List Spn} {s : Spn} {N : Nat} (h : SOwn l) (hN : ∀ p ∈ l, p.2 ≤ N) (hs : s.1 < s.2) (hsN : s.2 ≤ N) : ssum (scut l s) + ssum (sboth l [s]) = ssum l := by
  have h1 : ∀ p ∈ scut l s, p.2 ≤ N := by
    intro p hp
    unfold scut at hp
    rw [if_neg (by omega)] at hp
    obtain ⟨q, hq, hx⟩ := List.mem_flatMap.1 hp
    have := piece_in hx
    have := hN q hq
    omega
  have h2 : ∀ p ∈ sboth l [s], p.2 ≤ N := by
    intro p hp
    obtain ⟨q, hq, hx⟩ := List.mem_flatMap.1 hp
    have := meets_in hx
    have := hN q hq
    omega
  rw [ssum_count (scut_own h) h1, ssum_count (sboth_own h (own_one hs)) h2, ssum_count h hN]
  have := countP_or (fun n => shas l n && !inn s n) (fun n => shas l n && inn s n) (List.range N)
  have e0 : (List.range N).countP (fun n => (shas l n && !inn s n) && (shas l n && inn s n)) = 0 := by
    rw [List.countP_eq_zero]
    intro n _
    cases shas l n <;> cases inn s n <;> simp
  have e1 : (List.range N).countP (fun n => (shas l n && !inn s n) || (shas l n && inn s n)) = (List.range N).countP (shas l) := countP_same fun n => by cases shas l n <;> cases inn s n <;> rfl
  have e2 : (List.range N).countP (shas (scut l s)) = (List.range N).countP (fun n => shas l n && !inn s n) := countP_same fun n => scut_has n
  have e3 : (List.range N).countP (shas (sboth l [s])) = (List.range N).countP (fun n => shas l n && inn s n) := countP_same fun n => by rw [sboth_has, has_cons, has_nil, Bool.or_false]
  rw [e2, e3]
  omega
end Wig
