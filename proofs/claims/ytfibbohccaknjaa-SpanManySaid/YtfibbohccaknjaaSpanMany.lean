/-
  SpanMany: numbers (of any list of bytes the first sixty) that are added one by one are just those that are in, as many as there are unlike ones. No condition.
-/
import Derived.Test.YtfibbohccaknjaaSpW
import Derived.Test.YtfibbohccaknjaaByt
import Derived.Test.YtfibbohccaknjaaOp8
namespace Wig
/-- The set of a list of numbers, put in one by one. -/
def sset (xs : List Nat) : List Spn := xs.foldl (fun s x => sadd s (x, x + 1)) []
theorem sset_next {xs : List Nat} {k x : Nat} (h : xs[k]? = some x) : sset (xs.take (k + 1)) = sadd (sset (xs.take k)) (x, x + 1) := by
  have : xs.take (k + 1) = xs.take k ++ [x] := by rw [List.take_add_one, h]; rfl
  rw [this]; unfold sset; rw [List.foldl_append]; rfl
theorem sset_snoc (xs : List Nat) (x : Nat) : sset (xs ++ [x]) = sadd (sset xs) (x, x + 1) := by unfold sset; rw [List.foldl_append]; rfl
theorem sset_all (xs : List Nat) : SOwn (sset xs) ∧ (∀ n, shas (sset xs) n = decide (n ∈ xs)) ∧ (sset xs).length ≤ xs.length ∧ ((∀ x ∈ xs, x < 256) → SFits (sset xs)) := by
  have key : ∀ (ys : List Nat), SOwn (sset ys.reverse) ∧ (∀ n, shas (sset ys.reverse) n = decide (n ∈ ys)) ∧ (sset ys.reverse).length ≤ ys.length ∧ ((∀ x ∈ ys, x < 256) → SFits (sset ys.reverse)) := by
    intro ys
    induction ys with
    | nil => exact ⟨own_nil, fun n => by simp [sset, has_nil], by simp [sset], fun _ => sfits_nil⟩
    | cons y ys ih =>
      obtain ⟨h1, h2, h3, h4⟩ := ih
      rw [List.reverse_cons, sset_snoc]
      refine ⟨sadd_own h1, fun n => ?_, ?_, fun h => sadd_fits (h4 fun x hx => h x (List.mem_cons_of_mem _ hx)) ?_⟩
      · rw [sadd_has h1, h2, Bool.eq_iff_iff, Bool.or_eq_true, inn_iff, decide_eq_true_eq, decide_eq_true_eq, List.mem_cons]
        have e : (y ≤ n ∧ n < y + 1) ↔ n = y := by omega
        simp only
        rw [e]
        exact or_comm
      · rcases sadd_len (sset ys.reverse) (y, y + 1) with h | h
        · simp only [List.length_cons]; omega
        · exact absurd h1 h
      · have := h y List.mem_cons_self
        simp only; omega
  obtain ⟨h1, h2, h3, h4⟩ := key xs.reverse
  rw [List.reverse_reverse] at h1 h2 h3 h4
  exact ⟨h1, fun n => by rw [h2]; simp, by simpa using h3, fun h => h4 fun x hx => h x (by simpa using hx)⟩
/-- A number more: one more if it is new. -/
theorem sum_one {s : List Spn} {x : Nat} (h : SOwn s) (hf : ∀ p ∈ s, p.2 ≤ 300) (hx : x < 256) : ssum (sadd s (x, x + 1)) = ssum s + if shas s x then 0 else 1 := by
  have h1 := sadd_sum (N := 300) h hf (s := (x, x + 1)) (by simp) (by simp only; omega)
  have hb : sboth s [(x, x + 1)] = if shas s x then [(x, x + 1)] else [] := by
    refine own_unique (sboth_own h (own_one (by simp))) (by split; exact own_one (by simp); exact own_nil) fun n => ?_
    rw [sboth_has, has_cons, has_nil, Bool.or_false]
    by_cases hn : n = x
    · subst hn
      have : inn (n, n + 1) n = true := inn_iff.2 ⟨Nat.le_refl _, by simp⟩
      rw [this, Bool.and_true]
      cases hh : shas s n
      · simp [has_nil]
      · simp [has_cons, this]
    · have : inn (x, x + 1) n = false := by simp [inn]; omega
      rw [this, Bool.and_false]
      split
      · rw [has_cons, has_nil, this]; rfl
      · rfl
  rw [hb] at h1
  simp only at h1
  split at h1
  · rename_i hh
    rw [if_pos hh]
    simp [ssum] at h1 ⊢
    omega
  · rename_i hh
    rw [if_neg hh]
    simp [ssum] at h1 ⊢
    omega
theorem sset_low (xs : List Nat) (h : ∀ x ∈ xs, x < 256) : ∀ p ∈ sset xs, p.2 ≤ 300 := by
  intro p hp
  obtain ⟨h1, h2, _, _⟩ := sset_all xs
  have hlt := h1.1 p hp
  have : shas (sset xs) (p.2 - 1) = true := has_iff.2 ⟨p, hp, by omega, by omega⟩
  rw [h2, decide_eq_true_eq] at this
  have := h _ this
  omega
theorem sset_sum {xs : List Nat} {k x : Nat} (h : ∀ x ∈ xs, x < 256) (hk : xs[k]? = some x) : ssum (sset (xs.take (k + 1))) = ssum (sset (xs.take k)) + if x ∈ xs.take k then 0 else 1 := by
  have hs : ∀ y ∈ xs.take k, y < 256 := fun y hy => h y (List.mem_of_mem_take hy)
  rw [sset_next hk, sum_one (sset_all _).1 (sset_low _ hs) (h x (List.mem_of_getElem? hk)), (sset_all _).2.1]
  by_cases hm : x ∈ xs.take k
  · simp [hm]
  · simp [hm]
theorem sset_le (xs : List Nat) (h : ∀ x ∈ xs, x < 256) : ssum (sset xs) ≤ 300 := by
  have := ssum_le (lo := 0) (N := 300) (sset_all xs).1 (fun _ _ => Nat.zero_le _) (sset_low xs h) (by omega)
  omega
end Wig
namespace Go.Proofs.Ytfibbohccaknjaa.spanMany
open Go.ChangeShapes Go.WideShapes Go.ChangeAt Go.RowKit Go.Deep
set_option linter.unusedVariables false

theorem seen_info : (Try.prog.info? 40).map (fun i => i.zero.map Value.cells) = some (some (Array.replicate 256 (Value.bool false))) := by kernel_rfl
theorem run_alloc_seen {w : World} {a : Act} {o : Oper} (ho : o.op = .alloc 40) :
    (execOp a.eval o).run Try.prog w = .ok (.value (.pointer (some ⟨w.heap.size, 0, none⟩))) (w.alloc (.cells (Array.replicate 256 (Value.bool false)) 40)) := by
  have h := seen_info
  cases hi : Try.prog.info? 40 with
  | none => rw [hi] at h; cases h
  | some i =>
    rw [hi] at h
    cases hz : i.zero with
    | none => rw [Option.map_some, hz] at h; cases h
    | some z =>
      rw [Option.map_some, hz] at h
      simp only [Option.map_some, Option.some.injEq] at h
      unfold execOp
      simp [ho, Instr.alloc, zeroValue, typeInfo, hi, hz, newVar, newRow, h]
theorem wpList_run_w {P : Program} {w w' : World} {ops : Array Oper} {rest : List Oper} {o : Oper} {a : Act} {Q : Exit → Act → World → Prop} {v : Value} (hgd : o.guard = none) (hr : (execOp a.eval o).run P w = .ok (.value v) w')
    (h : wpList P ops Q rest (a.put o.dst v) w') : wpList P ops Q (o :: rest) a w :=
  wpList_plain hgd fun _ hK => by
    unfold Oper.wp
    rw [hr]
    exact hK _ _ h
/-- The two hundred and fifty-six flags: which numbers were seen. -/
structure Sn (b : Nat) (ys : List Nat) (w : World) : Prop where
  c : ∀ j : Nat, j < 256 → w.cell? ⟨b, j, none⟩ = some (.bool (decide (j ∈ ys)))
  f : ∀ j : Nat, w.frozen? ⟨b, j, none⟩ = false
theorem Sn.new (w : World) : Sn w.heap.size [] (w.alloc (.cells (Array.replicate 256 (Value.bool false)) 40)) :=
  ⟨fun j hj => by rw [World.cell?_alloc_at _ _ _ _ rfl]; simp [hj], fun j => World.frozen?_alloc_at _ _ _ _ rfl⟩
theorem Sn.below {b B : Nat} {ys : List Nat} {w w' : World} (h : Sn b ys w) (hb : Below B w w') (hB : b < B) : Sn b ys w' := ⟨fun j hj => (hb.cell hB).trans (h.c j hj), fun j => (hb.frozen hB).trans (h.f j)⟩
theorem Sn.put {b x : Nat} {ys : List Nat} {w : World} (h : Sn b ys w) (hx : x < 256) : Sn b (ys ++ [x]) (w.setCell ⟨b, x, none⟩ (.bool true)) := by
  refine ⟨fun j hj => ?_, fun j => by rw [World.frozen?_setCell]; exact h.f j⟩
  by_cases hjx : j = x
  · subst hjx
    rw [World.cell?_setCell_same _ _ _ (h.c j hj)]
    simp
  · rw [World.cell?_setCell_other _ _ _ _ (by intro e; injection e with _ e; exact hjx e.symm), h.c j hj]
    simp [hjx]
theorem grown_set (w : World) (b x : Nat) : w.grownBy (w.setCell ⟨b, x, none⟩ (.bool true)) (some b) :=
  ⟨rfl, rfl, rfl, by simp [World.setCell], fun k hk hr => Below.heap_setCell _ _ _ _ (by intro e; exact hr (by rw [e]))⟩
theorem Sn.again {b x : Nat} {ys : List Nat} {w : World} (h : Sn b ys w) (hx : x ∈ ys) : Sn b (ys ++ [x]) w := by
  refine ⟨fun j hj => ?_, h.f⟩
  rw [h.c j hj]
  congr 2
  rw [Bool.eq_iff_iff, decide_eq_true_eq, decide_eq_true_eq, List.mem_append, List.mem_singleton]
  constructor
  · intro h; exact .inl h
  · rintro (h | rfl)
    · exact h
    · exact hx
def MaRel (xs : List Nat) (b : Nat) (w2 w3 : World) (vs vc vi : Value) (wr : World) : Prop := ∃ k : Nat, k ≤ xs.length ∧ k ≤ 60 ∧ OwnS wr w3.heap.size vs (Wig.sset (xs.take k)) ∧ vc = .int .u64 (Wig.ssum (Wig.sset (xs.take k)) : Int) ∧ vi = .int .i64 (k : Int) ∧
  Sn b (xs.take k) wr ∧ Below w2.heap.size w2 wr ∧ w3.heap.size ≤ wr.heap.size
set_option maxHeartbeats 8000000 in
theorem walk (A : Option Addr) (c : Nat) (xs : List Nat) (nn : Nat) (hx : ∀ x ∈ xs, x < 256) (hl : xs.length ≤ c) (hm : c ≤ maxLen) (hn : nn < 256) (w : World) (hr : RdN .u8 w w.heap.size A xs) :
    Calls Try.prog 8 #[.slice A xs.length c, .int .u8 (nn : Int)] w fun e w' => e = .returned (.bool true) ∧ Below w.heap.size w w' := by
  obtain ⟨n, hnn⟩ : ∃ n, n = xs.length := ⟨_, rfl⟩
  rw [← hnn] at hl ⊢
  have hn63 : n ≤ 9223372036854775807 := by unfold maxLen at hm; omega
  have HR := Lib.hid hr
  have HX := Lib.hid hx
  have HN := Lib.hid hnn
  have C0 := Lib.hid (awake_any w)
  clear hr hx hnn hl hm
  go_enter Try.func8, Try.ntmps8
  go_wp2_with fail
  refine (C0.out).mono ?_
  rintro e w2 ⟨rfl, hb2⟩
  have B2 := Lib.hid hb2
  clear hb2
  obtain ⟨w3, hw3⟩ : ∃ w3, w3 = w2.alloc (.cells (Array.replicate 256 (Value.bool false)) 40) := ⟨_, rfl⟩
  have S3 := Lib.hid (show Sn w2.heap.size [] w3 by rw [hw3]; exact Sn.new w2)
  have B3 := Lib.hid (show Below w2.heap.size w2 w3 by rw [hw3]; exact (Below.refl _ _).alloc (Nat.le_refl _) _)
  have Z3 := Lib.hid (show w3.heap.size = w2.heap.size + 1 by rw [hw3]; simp)
  go_wp2_with (refine wpList_run_w rfl (run_alloc_seen rfl) ?_)
  rw [← hw3]
  clear hw3
  go_loopw [6, 8, 9] (fun vs vc vi wr => MaRel xs w2.heap.size w2 w3 vs vc vi wr) (fun _ _ i _ => n - (intOf i).toNat)
  case atStart => exact ⟨0, Nat.zero_le _, Nat.zero_le _, World.ownsRow_nil _ _ _ _, rfl, rfl, S3.out, B3.out, Nat.le_refl _⟩
  case round =>
    obtain ⟨k, hk, hk6, hown, rfl, rfl, hsn, hbel, hsz⟩ := hrel
    rw [← HN.out] at hk
    obtain ⟨A1, c1, hv, hc1, hrd, -⟩ := hown.rd
    obtain ⟨m, hm⟩ : ∃ m, m = (Wig.sset (xs.take k)).length := ⟨_, rfl⟩
    rw [← hm] at hv hc1
    subst hv
    have hml : m ≤ 60 := by have := (Wig.sset_all (xs.take k)).2.2.1; rw [hm]; rw [List.length_take] at this; omega
    have hsmall : ∀ y ∈ xs.take k, y < 256 := fun y hy => HX.out y (List.mem_of_mem_take hy)
    obtain ⟨s, hs⟩ : ∃ s, s = Wig.sset (xs.take k) := ⟨_, rfl⟩
    have os : Wig.SOwn s := by rw [hs]; exact (Wig.sset_all _).1
    have fs : Wig.SFits s := by rw [hs]; exact (Wig.sset_all _).2.2.2 hsmall
    obtain ⟨z, hz⟩ : ∃ z, z = Wig.ssum (Wig.sset (xs.take k)) := ⟨_, rfl⟩
    have hz300 : z ≤ 300 := by rw [hz]; exact Wig.sset_le _ hsmall
    rw [← hz]
    rw [← hs] at hm hown hrd
    have KB := Lib.hid hbel
    have KO := Lib.hid hown
    have KR := Lib.hid hrd
    have KS := Lib.hid hsn
    have KZ := Lib.hid hsz
    have KC := Lib.hid (show m ≤ c1 by omega)
    have LB := Lib.hid (show w2.heap.size < wr.heap.size by have := Z3.out; omega)
    by_cases hlt : k < n ∧ k < 60
    · obtain ⟨hlt1, hlt2⟩ := hlt
      obtain ⟨x, hp⟩ : ∃ x, xs[k]? = some x := ⟨_, List.getElem?_eq_getElem (by have := HN.out; omega)⟩
      have hx256 : x < 256 := HX.out x (List.mem_of_getElem? hp)
      obtain ⟨b, off, rfl, lb, c0⟩ := (HR.out.below (B2.out.trans (hbel.mono B2.out.size))).at_ hp
      have i0 : (0 : Int) ≤ (k : Int) := by omega
      have i1 : (k : Int) < (n : Int) := by omega
      have i2 : decide (k < 60) = true := decide_eq_true hlt2
      have i3 : decide ((k : Int) < 60) = true := decide_eq_true (by omega)
      have i4 : decide (k < n) = true := decide_eq_true hlt1
      obtain ⟨x1, hx1⟩ : ∃ x1, x1 = x + 1 := ⟨_, rfl⟩
      have f0 : IntKind.u64.wrap (x : Int) = (x : Int) := by rw [IntKind.wrap_u64]; omega
      have f1 : IntKind.u64.wrap ((x : Int) + 1) = (x1 : Int) := by rw [IntKind.wrap_u64]; omega
      have x0 : (0 : Int) ≤ (x : Int) := by omega
      have x2 : (x : Int) < 256 := by omega
      obtain ⟨r, hr⟩ : ∃ r, r = Wig.sset (xs.take (k + 1)) := ⟨_, rfl⟩
      have hr2 : Wig.sadd s (x, x1) = r := by rw [hr, Wig.sset_next hp, hs, hx1]
      obtain ⟨q, hq⟩ : ∃ q, r.length = q := ⟨_, rfl⟩
      have CA := Lib.hid (fun wx (h : RdS wx wx.heap.size A1 s) => add_gives s r x x1 m q A1 c1 wx hm hq (by omega) h os KC.out hr2)
      have hsum := Wig.sset_sum HX.out hp
      rw [← hz, ← hr] at hsum
      have htk : xs.take (k + 1) = xs.take k ++ [x] := by rw [List.take_add_one, hp]; rfl
      have lb2 : b < wr.heap.size := by have := B2.out.size; have := hbel.size; omega
      have LB2 := Lib.hid lb2
      have C1 := Lib.hid c0
      have HTK := Lib.hid (And.intro htk hr)
      have XF := Lib.hid (And.intro hx256 (And.intro hlt1 (And.intro hlt2 hx1)))
      by_cases hmem : x ∈ xs.take k
      · rw [if_pos hmem] at hsum
        have HSUM := Lib.hid (show z = Wig.ssum r by omega)
        have HME := Lib.hid hmem
        clear hp hown hrd hsn hbel hsz hm hs os fs hz hr hr2 hq hsum htk hmem hsmall hx256 hlt1 hlt2 lb hx1 lb2
        go_wp2_with fail
        refine wp_region_held_drew (S := (fun w' => w'.cell? ⟨b, off + k, none⟩ = some (.int .u8 (x : Int)) ∧ Below wr.heap.size wr w')) (by kernel_rfl) ?_ (fun hHeld => ?_)
        · exact ⟨(Below.cell ((Below.refl _ _).drew) (p := ⟨b, off + k, none⟩) LB2.out).trans C1.out, (Below.refl _ _).drew⟩
        refine held_take (v := ?vv2069) 0 rfl (by kernel_rfl) (by kernel_rfl) (by kernel_rfl) (fun _ _ _ h => h) (by rfl) ?yy2069 (by assumption) ?nn2069
        case yy2069 =>
          intro w hSw
          (try dsimp only at hSw)
          go_simp
          try with_reducible rfl
        try simp only [Act.put, List.setIfInBounds_toArray, List.set_cons_zero, List.set_cons_succ]
        refine held_take (v := ?vv2070) 1 rfl (by kernel_rfl) (by kernel_rfl) (by kernel_rfl) (fun _ _ _ h => h) (by rfl) ?yy2070 (by assumption) ?nn2070
        case yy2070 =>
          intro w hSw
          (try dsimp only at hSw)
          go_simp
          try with_reducible rfl
        try simp only [Act.put, List.setIfInBounds_toArray, List.set_cons_zero, List.set_cons_succ]
        refine held_take (v := ?vv2071) 2 rfl (by kernel_rfl) (by kernel_rfl) (by kernel_rfl) (fun _ _ _ h => h) (by rfl) ?yy2071 (by assumption) ?nn2071
        case yy2071 =>
          intro w hSw
          (try dsimp only at hSw)
          go_simp
          try with_reducible rfl
        try simp only [Act.put, List.setIfInBounds_toArray, List.set_cons_zero, List.set_cons_succ]
        refine held_take (v := ?vv2072) 3 rfl (by kernel_rfl) (by kernel_rfl) (by kernel_rfl) (fun _ _ _ h => h) (by rfl) ?yy2072 (by assumption) ?nn2072
        case yy2072 =>
          intro w hSw
          (try dsimp only at hSw)
          go_simp
          try with_reducible rfl
        try simp only [Act.put, List.setIfInBounds_toArray, List.set_cons_zero, List.set_cons_succ]
        refine held_take (v := ?vv2073) 4 rfl (by kernel_rfl) (by kernel_rfl) (by kernel_rfl) (fun _ _ _ h => h) (by rfl) ?yy2073 (by assumption) ?nn2073
        case yy2073 =>
          intro w hSw
          (try dsimp only at hSw)
          go_simp
          try with_reducible rfl
        try simp only [Act.put, List.setIfInBounds_toArray, List.set_cons_zero, List.set_cons_succ]
        refine held_take (v := ?vv2074) 5 rfl (by kernel_rfl) (by kernel_rfl) (by kernel_rfl) (fun _ _ _ h => h) (by rfl) ?yy2074 (by assumption) ?nn2074
        case yy2074 =>
          intro w hSw
          (try dsimp only at hSw)
          go_simp
          try with_reducible rfl
        try simp only [Act.put, List.setIfInBounds_toArray, List.set_cons_zero, List.set_cons_succ]
        refine held_take (v := ?vv2075) 6 rfl (by kernel_rfl) (by kernel_rfl) (by kernel_rfl) (fun _ _ _ h => h) (by rfl) ?yy2075 (by assumption) ?nn2075
        case yy2075 =>
          intro w hSw
          (try dsimp only at hSw)
          go_simp
          try with_reducible rfl
        try simp only [Act.put, List.setIfInBounds_toArray, List.set_cons_zero, List.set_cons_succ]
        refine held_take (v := ?vv2076) 7 rfl (by kernel_rfl) (by kernel_rfl) (by kernel_rfl) (fun _ _ _ h => h) (by rfl) ?yy2076 (by assumption) ?nn2076
        case yy2076 =>
          intro w hSw
          (try dsimp only at hSw)
          go_simp
          try with_reducible rfl
        try simp only [Act.put, List.setIfInBounds_toArray, List.set_cons_zero, List.set_cons_succ]
        refine held_take (v := ?vv2077) 8 rfl (by kernel_rfl) (by kernel_rfl) (by kernel_rfl) (fun _ _ _ h => h) (by rfl) ?yy2077 (by assumption) ?nn2077
        case yy2077 =>
          intro w hSw
          (try dsimp only at hSw)
          go_simp
          try with_reducible rfl
        try simp only [Act.put, List.setIfInBounds_toArray, List.set_cons_zero, List.set_cons_succ]
        refine held_take (v := ?vv2078) 9 rfl (by kernel_rfl) (by kernel_rfl) (by kernel_rfl) (fun _ _ _ h => h) (by rfl) ?yy2078 (by assumption) ?nn2078
        case yy2078 =>
          intro w hSw
          (try dsimp only at hSw)
          go_simp
          try with_reducible rfl
        try simp only [Act.put, List.setIfInBounds_toArray, List.set_cons_zero, List.set_cons_succ]
        refine held_take (v := ?vv2079) 10 rfl (by kernel_rfl) (by kernel_rfl) (by kernel_rfl) (fun _ _ _ h => h) (by rfl) ?yy2079 (by assumption) ?nn2079
        case yy2079 =>
          intro w hSw
          (try dsimp only at hSw)
          go_simp
          try with_reducible rfl
        try simp only [Act.put, List.setIfInBounds_toArray, List.set_cons_zero, List.set_cons_succ]
        refine held_take (v := ?vv2080) 11 rfl (by kernel_rfl) (by kernel_rfl) (by kernel_rfl) (fun _ _ _ h => h) (by rfl) ?yy2080 (by assumption) ?nn2080
        case yy2080 =>
          intro w hSw
          (try dsimp only at hSw)
          go_simp
          try with_reducible rfl
        try simp only [Act.put, List.setIfInBounds_toArray, List.set_cons_zero, List.set_cons_succ]
        refine held_take (v := ?vv2081) 12 rfl (by kernel_rfl) (by kernel_rfl) (by kernel_rfl) (fun _ _ _ h => h) (by rfl) ?yy2081 (by assumption) ?nn2081
        case yy2081 =>
          intro w hSw
          (try dsimp only at hSw)
          go_simp
          try with_reducible rfl
        try simp only [Act.put, List.setIfInBounds_toArray, List.set_cons_zero, List.set_cons_succ]
        refine held_do 13 rfl (by kernel_rfl) (by rfl) (fun K hK => ?_)
        go_wp2_with (go_at_call 17; refine (CA.out _ (KR.out.step hHeld.2)).mono ?_; rintro e y1 ⟨A2, c2, rfl, hc2, hr2, hb2, ho2⟩; have Y1 := Lib.hid (show OwnS y1 wr.heap.size (.slice A2 q c2) r ∧ Below wr.heap.size wr y1 ∧ True from ⟨ho2.base_le hHeld.2.size, hHeld.2.trans (hb2.mono hHeld.2.size), trivial⟩); clear hc2 hr2 hb2 ho2)
        refine hK.out _ _ ?_ (fun hHeld => ?_)
        · exact ⟨(Below.cell (Y1.out.2.1) (p := ⟨b, off + k, none⟩) LB2.out).trans C1.out, Y1.out.2.1⟩
        clear hK K
        try simp only [Act.put, List.setIfInBounds_toArray, List.set_cons_zero, List.set_cons_succ]
        refine held_take (v := ?vv2083) 14 rfl (by kernel_rfl) (by kernel_rfl) (by kernel_rfl) (fun _ _ _ h => h) (by rfl) ?yy2083 (by assumption) ?nn2083
        case yy2083 =>
          intro w hSw
          (try dsimp only at hSw)
          go_simp
          try with_reducible rfl
        try simp only [Act.put, List.setIfInBounds_toArray, List.set_cons_zero, List.set_cons_succ]
        refine wpAnyH_done (by kernel_rfl) ?_ _
        obtain ⟨h1, h2, h3⟩ := Y1.out
        have S6 := KS.out.below h2 LB.out
        have d0 := S6.c x XF.out.1
        rw [decide_eq_true HME.out] at d0
        have d1 := (h2.cell (p := ⟨b, off + k, none⟩) LB2.out).trans C1.out
        have SX := Lib.hid S6
        have H1 := Lib.hid h1
        have H2 := Lib.hid h2
        clear h1 h2 h3 S6 Y1 c0
        go_wp2_with fail
        go_roundw
        case rel => exact ⟨k + 1, by have := HN.out; have := XF.out; omega, by have := XF.out; omega, by rw [← HTK.out.2]; exact H1.out.base_le KZ.out, by rw [← HTK.out.2, ← HSUM.out], rfl, by rw [HTK.out.1]; exact SX.out.again HME.out, KB.out.trans (H2.out.mono KB.out.size), Nat.le_trans KZ.out H2.out.size⟩
        case measure => have := XF.out; simp [intOf]; omega
      · rw [if_neg hmem] at hsum
        have HSUM := Lib.hid (show z + 1 = Wig.ssum r by omega)
        have HME := Lib.hid hmem
        obtain ⟨z1, hz1⟩ : ∃ z1, z1 = z + 1 := ⟨_, rfl⟩
        have fz : IntKind.u64.wrap ((z : Int) + 1) = (z1 : Int) := by rw [IntKind.wrap_u64]; omega
        have HZ1 := Lib.hid hz1
        clear hp hown hrd hsn hbel hsz hm hs os fs hz hr hr2 hq hsum htk hmem hsmall hx256 hlt1 hlt2 lb hx1 lb2 hz1
        go_wp2_with fail
        refine wp_region_held_drew (S := (fun w' => w'.cell? ⟨b, off + k, none⟩ = some (.int .u8 (x : Int)) ∧ Below wr.heap.size wr w')) (by kernel_rfl) ?_ (fun hHeld => ?_)
        · exact ⟨(Below.cell ((Below.refl _ _).drew) (p := ⟨b, off + k, none⟩) LB2.out).trans C1.out, (Below.refl _ _).drew⟩
        refine held_take (v := ?vv2085) 0 rfl (by kernel_rfl) (by kernel_rfl) (by kernel_rfl) (fun _ _ _ h => h) (by rfl) ?yy2085 (by assumption) ?nn2085
        case yy2085 =>
          intro w hSw
          (try dsimp only at hSw)
          go_simp
          try with_reducible rfl
        try simp only [Act.put, List.setIfInBounds_toArray, List.set_cons_zero, List.set_cons_succ]
        refine held_take (v := ?vv2086) 1 rfl (by kernel_rfl) (by kernel_rfl) (by kernel_rfl) (fun _ _ _ h => h) (by rfl) ?yy2086 (by assumption) ?nn2086
        case yy2086 =>
          intro w hSw
          (try dsimp only at hSw)
          go_simp
          try with_reducible rfl
        try simp only [Act.put, List.setIfInBounds_toArray, List.set_cons_zero, List.set_cons_succ]
        refine held_take (v := ?vv2087) 2 rfl (by kernel_rfl) (by kernel_rfl) (by kernel_rfl) (fun _ _ _ h => h) (by rfl) ?yy2087 (by assumption) ?nn2087
        case yy2087 =>
          intro w hSw
          (try dsimp only at hSw)
          go_simp
          try with_reducible rfl
        try simp only [Act.put, List.setIfInBounds_toArray, List.set_cons_zero, List.set_cons_succ]
        refine held_take (v := ?vv2088) 3 rfl (by kernel_rfl) (by kernel_rfl) (by kernel_rfl) (fun _ _ _ h => h) (by rfl) ?yy2088 (by assumption) ?nn2088
        case yy2088 =>
          intro w hSw
          (try dsimp only at hSw)
          go_simp
          try with_reducible rfl
        try simp only [Act.put, List.setIfInBounds_toArray, List.set_cons_zero, List.set_cons_succ]
        refine held_take (v := ?vv2089) 4 rfl (by kernel_rfl) (by kernel_rfl) (by kernel_rfl) (fun _ _ _ h => h) (by rfl) ?yy2089 (by assumption) ?nn2089
        case yy2089 =>
          intro w hSw
          (try dsimp only at hSw)
          go_simp
          try with_reducible rfl
        try simp only [Act.put, List.setIfInBounds_toArray, List.set_cons_zero, List.set_cons_succ]
        refine held_take (v := ?vv2090) 5 rfl (by kernel_rfl) (by kernel_rfl) (by kernel_rfl) (fun _ _ _ h => h) (by rfl) ?yy2090 (by assumption) ?nn2090
        case yy2090 =>
          intro w hSw
          (try dsimp only at hSw)
          go_simp
          try with_reducible rfl
        try simp only [Act.put, List.setIfInBounds_toArray, List.set_cons_zero, List.set_cons_succ]
        refine held_take (v := ?vv2091) 6 rfl (by kernel_rfl) (by kernel_rfl) (by kernel_rfl) (fun _ _ _ h => h) (by rfl) ?yy2091 (by assumption) ?nn2091
        case yy2091 =>
          intro w hSw
          (try dsimp only at hSw)
          go_simp
          try with_reducible rfl
        try simp only [Act.put, List.setIfInBounds_toArray, List.set_cons_zero, List.set_cons_succ]
        refine held_take (v := ?vv2092) 7 rfl (by kernel_rfl) (by kernel_rfl) (by kernel_rfl) (fun _ _ _ h => h) (by rfl) ?yy2092 (by assumption) ?nn2092
        case yy2092 =>
          intro w hSw
          (try dsimp only at hSw)
          go_simp
          try with_reducible rfl
        try simp only [Act.put, List.setIfInBounds_toArray, List.set_cons_zero, List.set_cons_succ]
        refine held_take (v := ?vv2093) 8 rfl (by kernel_rfl) (by kernel_rfl) (by kernel_rfl) (fun _ _ _ h => h) (by rfl) ?yy2093 (by assumption) ?nn2093
        case yy2093 =>
          intro w hSw
          (try dsimp only at hSw)
          go_simp
          try with_reducible rfl
        try simp only [Act.put, List.setIfInBounds_toArray, List.set_cons_zero, List.set_cons_succ]
        refine held_take (v := ?vv2094) 9 rfl (by kernel_rfl) (by kernel_rfl) (by kernel_rfl) (fun _ _ _ h => h) (by rfl) ?yy2094 (by assumption) ?nn2094
        case yy2094 =>
          intro w hSw
          (try dsimp only at hSw)
          go_simp
          try with_reducible rfl
        try simp only [Act.put, List.setIfInBounds_toArray, List.set_cons_zero, List.set_cons_succ]
        refine held_take (v := ?vv2095) 10 rfl (by kernel_rfl) (by kernel_rfl) (by kernel_rfl) (fun _ _ _ h => h) (by rfl) ?yy2095 (by assumption) ?nn2095
        case yy2095 =>
          intro w hSw
          (try dsimp only at hSw)
          go_simp
          try with_reducible rfl
        try simp only [Act.put, List.setIfInBounds_toArray, List.set_cons_zero, List.set_cons_succ]
        refine held_take (v := ?vv2096) 11 rfl (by kernel_rfl) (by kernel_rfl) (by kernel_rfl) (fun _ _ _ h => h) (by rfl) ?yy2096 (by assumption) ?nn2096
        case yy2096 =>
          intro w hSw
          (try dsimp only at hSw)
          go_simp
          try with_reducible rfl
        try simp only [Act.put, List.setIfInBounds_toArray, List.set_cons_zero, List.set_cons_succ]
        refine held_take (v := ?vv2097) 12 rfl (by kernel_rfl) (by kernel_rfl) (by kernel_rfl) (fun _ _ _ h => h) (by rfl) ?yy2097 (by assumption) ?nn2097
        case yy2097 =>
          intro w hSw
          (try dsimp only at hSw)
          go_simp
          try with_reducible rfl
        try simp only [Act.put, List.setIfInBounds_toArray, List.set_cons_zero, List.set_cons_succ]
        refine held_do 13 rfl (by kernel_rfl) (by rfl) (fun K hK => ?_)
        go_wp2_with (go_at_call 17; refine (CA.out _ (KR.out.step hHeld.2)).mono ?_; rintro e y1 ⟨A2, c2, rfl, hc2, hr2, hb2, ho2⟩; have Y1 := Lib.hid (show OwnS y1 wr.heap.size (.slice A2 q c2) r ∧ Below wr.heap.size wr y1 ∧ True from ⟨ho2.base_le hHeld.2.size, hHeld.2.trans (hb2.mono hHeld.2.size), trivial⟩); clear hc2 hr2 hb2 ho2)
        refine hK.out _ _ ?_ (fun hHeld => ?_)
        · exact ⟨(Below.cell (Y1.out.2.1) (p := ⟨b, off + k, none⟩) LB2.out).trans C1.out, Y1.out.2.1⟩
        clear hK K
        try simp only [Act.put, List.setIfInBounds_toArray, List.set_cons_zero, List.set_cons_succ]
        refine held_take (v := ?vv2099) 14 rfl (by kernel_rfl) (by kernel_rfl) (by kernel_rfl) (fun _ _ _ h => h) (by rfl) ?yy2099 (by assumption) ?nn2099
        case yy2099 =>
          intro w hSw
          (try dsimp only at hSw)
          go_simp
          try with_reducible rfl
        try simp only [Act.put, List.setIfInBounds_toArray, List.set_cons_zero, List.set_cons_succ]
        refine wpAnyH_done (by kernel_rfl) ?_ _
        obtain ⟨h1, h2, h3⟩ := Y1.out
        have S6 := KS.out.below h2 LB.out
        have d0 := S6.c x XF.out.1
        rw [decide_eq_false HME.out] at d0
        have d1 := (h2.cell (p := ⟨b, off + k, none⟩) LB2.out).trans C1.out
        have d2 := S6.f x
        have SX := Lib.hid S6
        have H1 := Lib.hid h1
        have H2 := Lib.hid h2
        have O2 := Lib.hid (show OwnS (y1.setCell ⟨w2.heap.size, x, none⟩ (.bool true)) w3.heap.size _ r from by
          refine World.ownsRow.kept (h1.base_le KZ.out) (grown_set y1 w2.heap.size x) ?_
          right
          intro e
          have := (h1.block _ e).1
          have := LB.out
          omega)
        clear h1 h2 h3 S6 Y1 c0
        go_wp2_with fail
        go_roundw
        case rel => exact ⟨k + 1, by have := HN.out; have := XF.out; omega, by have := XF.out; omega, by rw [← HTK.out.2]; exact O2.out, by rw [← HTK.out.2, ← HSUM.out, HZ1.out], rfl, by rw [HTK.out.1]; exact SX.out.put XF.out.1, (KB.out.trans (H2.out.mono KB.out.size)).setCell (Nat.le_refl _) _, by have := Nat.le_trans KZ.out H2.out.size; simpa [World.setCell] using this⟩
        case measure => have := XF.out; simp [intOf]; omega
    · have hend : decide (k < n) = false ∨ (decide (k < n) = true ∧ decide ((k : Int) < 60) = false) := by
        by_cases h : k < n
        · right; exact ⟨decide_eq_true h, decide_eq_false (by omega)⟩
        · left; exact decide_eq_false h
      obtain ⟨v, hv⟩ : ∃ v, v = decide (nn ∈ xs.take k) := ⟨_, rfl⟩
      have cN := hsn.c nn hn
      rw [← hv] at cN
      have CN := Lib.hid cN
      have K1 := Lib.hid (fun A c w h => check_any s true A m c w hm (by omega) h (Wig.sown_iff.2 os))
      have K2 := Lib.hid (fun A c w h => size_any s z A m c w hm (by omega) h os fs (by rw [hz, hs]))
      have K3 := Lib.hid (fun A c w h => has_any s nn v A m c w hm (by omega) h (by rw [hs, (Wig.sset_all _).2.1, hv]))
      have tz : ((z : Int) == (z : Int)) = true := by simp
      have tv : (v == v) = true := by simp
      have f0 : IntKind.u64.wrap (nn : Int) = (nn : Int) := by rw [IntKind.wrap_u64]; omega
      have x0 : (0 : Int) ≤ (nn : Int) := by omega
      have x2 : (nn : Int) < 256 := by omega
      have BW := Lib.hid (B2.out.trans (hbel.mono B2.out.size))
      clear hown hrd hsn hbel hsz hm hs os fs hz hsmall hlt hv hk hk6 hml hz300 hc1
      have e2 : decide (k < 60) = false ∨ True := .inr trivial
      rcases hend with he | ⟨he, he2⟩
      · go_wp2_with fail
        refine wp_region_held_drew (S := (fun w' => w'.cell? ⟨w2.heap.size, nn, none⟩ = some (.bool v) ∧ Below wr.heap.size wr w')) (by kernel_rfl) ?_ (fun hHeld => ?_)
        · exact ⟨(Below.cell ((Below.refl _ _).drew) (p := ⟨w2.heap.size, nn, none⟩) LB.out).trans CN.out, (Below.refl _ _).drew⟩
        refine held_take (v := ?vv2101) 0 rfl (by kernel_rfl) (by kernel_rfl) (by kernel_rfl) (fun _ _ _ h => h) (by rfl) ?yy2101 (by assumption) ?nn2101
        case yy2101 =>
          intro w hSw
          (try dsimp only at hSw)
          go_simp
          try with_reducible rfl
        try simp only [Act.put, List.setIfInBounds_toArray, List.set_cons_zero, List.set_cons_succ]
        refine held_take (v := ?vv2102) 1 rfl (by kernel_rfl) (by kernel_rfl) (by kernel_rfl) (fun _ _ _ h => h) (by rfl) ?yy2102 (by assumption) ?nn2102
        case yy2102 =>
          intro w hSw
          (try dsimp only at hSw)
          go_simp
          try with_reducible rfl
        try simp only [Act.put, List.setIfInBounds_toArray, List.set_cons_zero, List.set_cons_succ]
        refine held_take (v := ?vv2103) 2 rfl (by kernel_rfl) (by kernel_rfl) (by kernel_rfl) (fun _ _ _ h => h) (by rfl) ?yy2103 (by assumption) ?nn2103
        case yy2103 =>
          intro w hSw
          (try dsimp only at hSw)
          go_simp
          try with_reducible rfl
        try simp only [Act.put, List.setIfInBounds_toArray, List.set_cons_zero, List.set_cons_succ]
        refine held_do 3 rfl (by kernel_rfl) (by rfl) (fun K hK => ?_)
        go_wp2_with (go_at_call 12; refine (K1.out _ _ _ (KR.out.step hHeld.2)).mono ?_; rintro e y1 ⟨rfl, hb1⟩; have Y1 := Lib.hid (hHeld.2.trans (hb1.mono hHeld.2.size)); clear hb1)
        refine hK.out _ _ ?_ (fun hHeld => ?_)
        · exact ⟨(Below.cell (Y1.out) (p := ⟨w2.heap.size, nn, none⟩) LB.out).trans CN.out, Y1.out⟩
        clear hK K
        try simp only [Act.put, List.setIfInBounds_toArray, List.set_cons_zero, List.set_cons_succ]
        refine held_take (v := ?vv2105) 4 rfl (by kernel_rfl) (by kernel_rfl) (by kernel_rfl) (fun _ _ _ h => h) (by rfl) ?yy2105 (by assumption) ?nn2105
        case yy2105 =>
          intro w hSw
          (try dsimp only at hSw)
          go_simp
          try with_reducible rfl
        try simp only [Act.put, List.setIfInBounds_toArray, List.set_cons_zero, List.set_cons_succ]
        refine held_take (v := ?vv2106) 5 rfl (by kernel_rfl) (by kernel_rfl) (by kernel_rfl) (fun _ _ _ h => h) (by rfl) ?yy2106 (by assumption) ?nn2106
        case yy2106 =>
          intro w hSw
          (try dsimp only at hSw)
          go_simp
          try with_reducible rfl
        try simp only [Act.put, List.setIfInBounds_toArray, List.set_cons_zero, List.set_cons_succ]
        refine held_take (v := ?vv2107) 6 rfl (by kernel_rfl) (by kernel_rfl) (by kernel_rfl) (fun _ _ _ h => h) (by rfl) ?yy2107 (by assumption) ?nn2107
        case yy2107 =>
          intro w hSw
          (try dsimp only at hSw)
          go_simp
          try with_reducible rfl
        try simp only [Act.put, List.setIfInBounds_toArray, List.set_cons_zero, List.set_cons_succ]
        refine held_take (v := ?vv2108) 8 rfl (by kernel_rfl) (by kernel_rfl) (by kernel_rfl) (fun _ _ _ h => h) (by rfl) ?yy2108 (by assumption) ?nn2108
        case yy2108 =>
          intro w hSw
          (try dsimp only at hSw)
          go_simp
          try with_reducible rfl
        try simp only [Act.put, List.setIfInBounds_toArray, List.set_cons_zero, List.set_cons_succ]
        refine held_do 7 rfl (by kernel_rfl) (by rfl) (fun K hK => ?_)
        go_wp2_with (go_at_call 25; refine (K2.out _ _ _ (KR.out.step hHeld.2)).mono ?_; rintro e y2 ⟨rfl, hb1⟩; have Y2 := Lib.hid (hHeld.2.trans (hb1.mono hHeld.2.size)); clear hb1)
        refine hK.out _ _ ?_ (fun hHeld => ?_)
        · exact ⟨(Below.cell (Y2.out) (p := ⟨w2.heap.size, nn, none⟩) LB.out).trans CN.out, Y2.out⟩
        clear hK K
        try simp only [Act.put, List.setIfInBounds_toArray, List.set_cons_zero, List.set_cons_succ]
        refine held_take (v := ?vv2110) 9 rfl (by kernel_rfl) (by kernel_rfl) (by kernel_rfl) (fun _ _ _ h => h) (by rfl) ?yy2110 (by assumption) ?nn2110
        case yy2110 =>
          intro w hSw
          (try dsimp only at hSw)
          go_simp
          try with_reducible rfl
        try simp only [Act.put, List.setIfInBounds_toArray, List.set_cons_zero, List.set_cons_succ]
        refine held_take (v := ?vv2111) 10 rfl (by kernel_rfl) (by kernel_rfl) (by kernel_rfl) (fun _ _ _ h => h) (by rfl) ?yy2111 (by assumption) ?nn2111
        case yy2111 =>
          intro w hSw
          (try dsimp only at hSw)
          go_simp
          try with_reducible rfl
        try simp only [Act.put, List.setIfInBounds_toArray, List.set_cons_zero, List.set_cons_succ]
        refine held_take (v := ?vv2112) 11 rfl (by kernel_rfl) (by kernel_rfl) (by kernel_rfl) (fun _ _ _ h => h) (by rfl) ?yy2112 (by assumption) ?nn2112
        case yy2112 =>
          intro w hSw
          (try dsimp only at hSw)
          go_simp
          try with_reducible rfl
        try simp only [Act.put, List.setIfInBounds_toArray, List.set_cons_zero, List.set_cons_succ]
        refine held_take (v := ?vv2113) 12 rfl (by kernel_rfl) (by kernel_rfl) (by kernel_rfl) (fun _ _ _ h => h) (by rfl) ?yy2113 (by assumption) ?nn2113
        case yy2113 =>
          intro w hSw
          (try dsimp only at hSw)
          go_simp
          try with_reducible rfl
        try simp only [Act.put, List.setIfInBounds_toArray, List.set_cons_zero, List.set_cons_succ]
        refine held_take (v := ?vv2114) 13 rfl (by kernel_rfl) (by kernel_rfl) (by kernel_rfl) (fun _ _ _ h => h) (by rfl) ?yy2114 (by assumption) ?nn2114
        case yy2114 =>
          intro w hSw
          (try dsimp only at hSw)
          go_simp
          try with_reducible rfl
        try simp only [Act.put, List.setIfInBounds_toArray, List.set_cons_zero, List.set_cons_succ]
        refine held_take (v := ?vv2115) 14 rfl (by kernel_rfl) (by kernel_rfl) (by kernel_rfl) (fun _ _ _ h => h) (by rfl) ?yy2115 (by assumption) ?nn2115
        case yy2115 =>
          intro w hSw
          (try dsimp only at hSw)
          go_simp
          try with_reducible rfl
        try simp only [Act.put, List.setIfInBounds_toArray, List.set_cons_zero, List.set_cons_succ]
        refine held_take (v := ?vv2116) 16 rfl (by kernel_rfl) (by kernel_rfl) (by kernel_rfl) (fun _ _ _ h => h) (by rfl) ?yy2116 (by assumption) ?nn2116
        case yy2116 =>
          intro w hSw
          (try dsimp only at hSw)
          go_simp
          try with_reducible rfl
        try simp only [Act.put, List.setIfInBounds_toArray, List.set_cons_zero, List.set_cons_succ]
        refine held_take (v := ?vv2117) 17 rfl (by kernel_rfl) (by kernel_rfl) (by kernel_rfl) (fun _ _ _ h => h) (by rfl) ?yy2117 (by assumption) ?nn2117
        case yy2117 =>
          intro w hSw
          (try dsimp only at hSw)
          go_simp
          try with_reducible rfl
        try simp only [Act.put, List.setIfInBounds_toArray, List.set_cons_zero, List.set_cons_succ]
        refine held_take (v := ?vv2118) 18 rfl (by kernel_rfl) (by kernel_rfl) (by kernel_rfl) (fun _ _ _ h => h) (by rfl) ?yy2118 (by assumption) ?nn2118
        case yy2118 =>
          intro w hSw
          (try dsimp only at hSw)
          go_simp
          try with_reducible rfl
        try simp only [Act.put, List.setIfInBounds_toArray, List.set_cons_zero, List.set_cons_succ]
        refine held_do 15 rfl (by kernel_rfl) (by rfl) (fun K hK => ?_)
        go_wp2_with (go_at_call 14; refine (K3.out _ _ _ (KR.out.step hHeld.2)).mono ?_; rintro e y3 ⟨rfl, hb1⟩; have Y3 := Lib.hid (hHeld.2.trans (hb1.mono hHeld.2.size)); clear hb1)
        refine hK.out _ _ ?_ (fun hHeld => ?_)
        · exact ⟨(Below.cell (Y3.out) (p := ⟨w2.heap.size, nn, none⟩) LB.out).trans CN.out, Y3.out⟩
        clear hK K
        try simp only [Act.put, List.setIfInBounds_toArray, List.set_cons_zero, List.set_cons_succ]
        refine held_take (v := ?vv2120) 19 rfl (by kernel_rfl) (by kernel_rfl) (by kernel_rfl) (fun _ _ _ h => h) (by rfl) ?yy2120 (by assumption) ?nn2120
        case yy2120 =>
          intro w hSw
          (try dsimp only at hSw)
          go_simp
          try with_reducible rfl
        try simp only [Act.put, List.setIfInBounds_toArray, List.set_cons_zero, List.set_cons_succ]
        refine held_take (v := ?vv2121) 20 rfl (by kernel_rfl) (by kernel_rfl) (by kernel_rfl) (fun _ _ _ h => h) (by rfl) ?yy2121 (by assumption) ?nn2121
        case yy2121 =>
          intro w hSw
          (try dsimp only at hSw)
          go_simp
          try with_reducible rfl
        try simp only [Act.put, List.setIfInBounds_toArray, List.set_cons_zero, List.set_cons_succ]
        refine held_take (v := ?vv2122) 21 rfl (by kernel_rfl) (by kernel_rfl) (by kernel_rfl) (fun _ _ _ h => h) (by rfl) ?yy2122 (by assumption) ?nn2122
        case yy2122 =>
          intro w hSw
          (try dsimp only at hSw)
          go_simp
          try with_reducible rfl
        try simp only [Act.put, List.setIfInBounds_toArray, List.set_cons_zero, List.set_cons_succ]
        refine wpAnyH_done (by kernel_rfl) ?_ _
        go_wp2_with fail
        go_ret
        exact ⟨rfl, BW.out.trans (Y3.out.mono BW.out.size)⟩
      · have he3 : decide (k < 60) = false := by rw [decide_eq_false_iff_not] at he2 ⊢; omega
        go_wp2_with fail
        refine wp_region_held_drew (S := (fun w' => w'.cell? ⟨w2.heap.size, nn, none⟩ = some (.bool v) ∧ Below wr.heap.size wr w')) (by kernel_rfl) ?_ (fun hHeld => ?_)
        · exact ⟨(Below.cell ((Below.refl _ _).drew) (p := ⟨w2.heap.size, nn, none⟩) LB.out).trans CN.out, (Below.refl _ _).drew⟩
        refine held_take (v := ?vv2124) 0 rfl (by kernel_rfl) (by kernel_rfl) (by kernel_rfl) (fun _ _ _ h => h) (by rfl) ?yy2124 (by assumption) ?nn2124
        case yy2124 =>
          intro w hSw
          (try dsimp only at hSw)
          go_simp
          try with_reducible rfl
        try simp only [Act.put, List.setIfInBounds_toArray, List.set_cons_zero, List.set_cons_succ]
        refine held_take (v := ?vv2125) 1 rfl (by kernel_rfl) (by kernel_rfl) (by kernel_rfl) (fun _ _ _ h => h) (by rfl) ?yy2125 (by assumption) ?nn2125
        case yy2125 =>
          intro w hSw
          (try dsimp only at hSw)
          go_simp
          try with_reducible rfl
        try simp only [Act.put, List.setIfInBounds_toArray, List.set_cons_zero, List.set_cons_succ]
        refine held_take (v := ?vv2126) 2 rfl (by kernel_rfl) (by kernel_rfl) (by kernel_rfl) (fun _ _ _ h => h) (by rfl) ?yy2126 (by assumption) ?nn2126
        case yy2126 =>
          intro w hSw
          (try dsimp only at hSw)
          go_simp
          try with_reducible rfl
        try simp only [Act.put, List.setIfInBounds_toArray, List.set_cons_zero, List.set_cons_succ]
        refine held_do 3 rfl (by kernel_rfl) (by rfl) (fun K hK => ?_)
        go_wp2_with (go_at_call 12; refine (K1.out _ _ _ (KR.out.step hHeld.2)).mono ?_; rintro e y1 ⟨rfl, hb1⟩; have Y1 := Lib.hid (hHeld.2.trans (hb1.mono hHeld.2.size)); clear hb1)
        refine hK.out _ _ ?_ (fun hHeld => ?_)
        · exact ⟨(Below.cell (Y1.out) (p := ⟨w2.heap.size, nn, none⟩) LB.out).trans CN.out, Y1.out⟩
        clear hK K
        try simp only [Act.put, List.setIfInBounds_toArray, List.set_cons_zero, List.set_cons_succ]
        refine held_take (v := ?vv2128) 4 rfl (by kernel_rfl) (by kernel_rfl) (by kernel_rfl) (fun _ _ _ h => h) (by rfl) ?yy2128 (by assumption) ?nn2128
        case yy2128 =>
          intro w hSw
          (try dsimp only at hSw)
          go_simp
          try with_reducible rfl
        try simp only [Act.put, List.setIfInBounds_toArray, List.set_cons_zero, List.set_cons_succ]
        refine held_take (v := ?vv2129) 5 rfl (by kernel_rfl) (by kernel_rfl) (by kernel_rfl) (fun _ _ _ h => h) (by rfl) ?yy2129 (by assumption) ?nn2129
        case yy2129 =>
          intro w hSw
          (try dsimp only at hSw)
          go_simp
          try with_reducible rfl
        try simp only [Act.put, List.setIfInBounds_toArray, List.set_cons_zero, List.set_cons_succ]
        refine held_take (v := ?vv2130) 6 rfl (by kernel_rfl) (by kernel_rfl) (by kernel_rfl) (fun _ _ _ h => h) (by rfl) ?yy2130 (by assumption) ?nn2130
        case yy2130 =>
          intro w hSw
          (try dsimp only at hSw)
          go_simp
          try with_reducible rfl
        try simp only [Act.put, List.setIfInBounds_toArray, List.set_cons_zero, List.set_cons_succ]
        refine held_take (v := ?vv2131) 8 rfl (by kernel_rfl) (by kernel_rfl) (by kernel_rfl) (fun _ _ _ h => h) (by rfl) ?yy2131 (by assumption) ?nn2131
        case yy2131 =>
          intro w hSw
          (try dsimp only at hSw)
          go_simp
          try with_reducible rfl
        try simp only [Act.put, List.setIfInBounds_toArray, List.set_cons_zero, List.set_cons_succ]
        refine held_do 7 rfl (by kernel_rfl) (by rfl) (fun K hK => ?_)
        go_wp2_with (go_at_call 25; refine (K2.out _ _ _ (KR.out.step hHeld.2)).mono ?_; rintro e y2 ⟨rfl, hb1⟩; have Y2 := Lib.hid (hHeld.2.trans (hb1.mono hHeld.2.size)); clear hb1)
        refine hK.out _ _ ?_ (fun hHeld => ?_)
        · exact ⟨(Below.cell (Y2.out) (p := ⟨w2.heap.size, nn, none⟩) LB.out).trans CN.out, Y2.out⟩
        clear hK K
        try simp only [Act.put, List.setIfInBounds_toArray, List.set_cons_zero, List.set_cons_succ]
        refine held_take (v := ?vv2133) 9 rfl (by kernel_rfl) (by kernel_rfl) (by kernel_rfl) (fun _ _ _ h => h) (by rfl) ?yy2133 (by assumption) ?nn2133
        case yy2133 =>
          intro w hSw
          (try dsimp only at hSw)
          go_simp
          try with_reducible rfl
        try simp only [Act.put, List.setIfInBounds_toArray, List.set_cons_zero, List.set_cons_succ]
        refine held_take (v := ?vv2134) 10 rfl (by kernel_rfl) (by kernel_rfl) (by kernel_rfl) (fun _ _ _ h => h) (by rfl) ?yy2134 (by assumption) ?nn2134
        case yy2134 =>
          intro w hSw
          (try dsimp only at hSw)
          go_simp
          try with_reducible rfl
        try simp only [Act.put, List.setIfInBounds_toArray, List.set_cons_zero, List.set_cons_succ]
        refine held_take (v := ?vv2135) 11 rfl (by kernel_rfl) (by kernel_rfl) (by kernel_rfl) (fun _ _ _ h => h) (by rfl) ?yy2135 (by assumption) ?nn2135
        case yy2135 =>
          intro w hSw
          (try dsimp only at hSw)
          go_simp
          try with_reducible rfl
        try simp only [Act.put, List.setIfInBounds_toArray, List.set_cons_zero, List.set_cons_succ]
        refine held_take (v := ?vv2136) 12 rfl (by kernel_rfl) (by kernel_rfl) (by kernel_rfl) (fun _ _ _ h => h) (by rfl) ?yy2136 (by assumption) ?nn2136
        case yy2136 =>
          intro w hSw
          (try dsimp only at hSw)
          go_simp
          try with_reducible rfl
        try simp only [Act.put, List.setIfInBounds_toArray, List.set_cons_zero, List.set_cons_succ]
        refine held_take (v := ?vv2137) 13 rfl (by kernel_rfl) (by kernel_rfl) (by kernel_rfl) (fun _ _ _ h => h) (by rfl) ?yy2137 (by assumption) ?nn2137
        case yy2137 =>
          intro w hSw
          (try dsimp only at hSw)
          go_simp
          try with_reducible rfl
        try simp only [Act.put, List.setIfInBounds_toArray, List.set_cons_zero, List.set_cons_succ]
        refine held_take (v := ?vv2138) 14 rfl (by kernel_rfl) (by kernel_rfl) (by kernel_rfl) (fun _ _ _ h => h) (by rfl) ?yy2138 (by assumption) ?nn2138
        case yy2138 =>
          intro w hSw
          (try dsimp only at hSw)
          go_simp
          try with_reducible rfl
        try simp only [Act.put, List.setIfInBounds_toArray, List.set_cons_zero, List.set_cons_succ]
        refine held_take (v := ?vv2139) 16 rfl (by kernel_rfl) (by kernel_rfl) (by kernel_rfl) (fun _ _ _ h => h) (by rfl) ?yy2139 (by assumption) ?nn2139
        case yy2139 =>
          intro w hSw
          (try dsimp only at hSw)
          go_simp
          try with_reducible rfl
        try simp only [Act.put, List.setIfInBounds_toArray, List.set_cons_zero, List.set_cons_succ]
        refine held_take (v := ?vv2140) 17 rfl (by kernel_rfl) (by kernel_rfl) (by kernel_rfl) (fun _ _ _ h => h) (by rfl) ?yy2140 (by assumption) ?nn2140
        case yy2140 =>
          intro w hSw
          (try dsimp only at hSw)
          go_simp
          try with_reducible rfl
        try simp only [Act.put, List.setIfInBounds_toArray, List.set_cons_zero, List.set_cons_succ]
        refine held_take (v := ?vv2141) 18 rfl (by kernel_rfl) (by kernel_rfl) (by kernel_rfl) (fun _ _ _ h => h) (by rfl) ?yy2141 (by assumption) ?nn2141
        case yy2141 =>
          intro w hSw
          (try dsimp only at hSw)
          go_simp
          try with_reducible rfl
        try simp only [Act.put, List.setIfInBounds_toArray, List.set_cons_zero, List.set_cons_succ]
        refine held_do 15 rfl (by kernel_rfl) (by rfl) (fun K hK => ?_)
        go_wp2_with (go_at_call 14; refine (K3.out _ _ _ (KR.out.step hHeld.2)).mono ?_; rintro e y3 ⟨rfl, hb1⟩; have Y3 := Lib.hid (hHeld.2.trans (hb1.mono hHeld.2.size)); clear hb1)
        refine hK.out _ _ ?_ (fun hHeld => ?_)
        · exact ⟨(Below.cell (Y3.out) (p := ⟨w2.heap.size, nn, none⟩) LB.out).trans CN.out, Y3.out⟩
        clear hK K
        try simp only [Act.put, List.setIfInBounds_toArray, List.set_cons_zero, List.set_cons_succ]
        refine held_take (v := ?vv2143) 19 rfl (by kernel_rfl) (by kernel_rfl) (by kernel_rfl) (fun _ _ _ h => h) (by rfl) ?yy2143 (by assumption) ?nn2143
        case yy2143 =>
          intro w hSw
          (try dsimp only at hSw)
          go_simp
          try with_reducible rfl
        try simp only [Act.put, List.setIfInBounds_toArray, List.set_cons_zero, List.set_cons_succ]
        refine held_take (v := ?vv2144) 20 rfl (by kernel_rfl) (by kernel_rfl) (by kernel_rfl) (fun _ _ _ h => h) (by rfl) ?yy2144 (by assumption) ?nn2144
        case yy2144 =>
          intro w hSw
          (try dsimp only at hSw)
          go_simp
          try with_reducible rfl
        try simp only [Act.put, List.setIfInBounds_toArray, List.set_cons_zero, List.set_cons_succ]
        refine held_take (v := ?vv2145) 21 rfl (by kernel_rfl) (by kernel_rfl) (by kernel_rfl) (fun _ _ _ h => h) (by rfl) ?yy2145 (by assumption) ?nn2145
        case yy2145 =>
          intro w hSw
          (try dsimp only at hSw)
          go_simp
          try with_reducible rfl
        try simp only [Act.put, List.setIfInBounds_toArray, List.set_cons_zero, List.set_cons_succ]
        refine wpAnyH_done (by kernel_rfl) ?_ _
        go_wp2_with fail
        go_ret
        exact ⟨rfl, BW.out.trans (Y3.out.mono BW.out.size)⟩

set_option maxRecDepth 100000 in
theorem lifted (os : Os) (started : os.Started) (H : Type) (enc : TypeId × Value → H) :
    ReturnsInHanded {} Try.checked os 8 .any (Rows.spanManySpec.pre6 enc Try.prog Try.f8 Rows.spanManyRow.domain false) (Rows.spanManySpec.post enc Try.prog Try.f8 false true false false) := by
  refine returnsInHanded_of_change (C := Try.checked) own started (by kernel_rfl) Try.func8
    (ChangeSpec.witness6 (enc := enc) (C := Try.checked) false ⟨#[], #[.slice none 0 0, .int .u8 0], []⟩ 8 (by kernel_rfl) (by kernel_rfl) (by kernel_rfl) (by kernel_rfl)) ?_
  intro W base args ds gs before hval0 hW hcnd _
  have hval : ∀ (j : Nat) t v, Try.f8.params[j]? = some t → args[j]? = some v → Value.okWide Try.prog W .any base t v := hval0
  have hW' := hW
  obtain ⟨p, q, hA0, hV, rfl, hfz, hnd⟩ := hW
  have hA : DataW.TrodAll enc Try.prog W 0 (fun _ => true) true Try.f8.params.toList args.toList ds p := hA0
  obtain ⟨rfl, rfl⟩ := trodVars_none hV
  simp only [List.append_nil] at hW'
  have hlow : ∀ x ∈ p, x.block < W.heap.size := fun x hx => hW'.lt x hx
  have hA2 := hA
  rw [Try.params8] at hval hA2
  obtain ⟨v0, vs0, d0, ds0, p0, q0, hargs, rfl, rfl, h0, r0⟩ := trodAll_cons hA2
  obtain ⟨v1, vs1, d1, ds1, p1, q1, rfl, rfl, rfl, h1, r1⟩ := trodAll_cons r0
  obtain ⟨rfl, rfl, rfl⟩ := trodAll_nil r1
  obtain rfl : args = #[v0, v1] := by cases args; simp_all
  obtain ⟨A0, c0, xs0, rfl, hx0, hr0, hl0, hm0⟩ := open_row 256 Try.underlying39 Try.underlying5 (by kernel_rfl) (by intro x h; simp [Lit.wf, IntKind.min, IntKind.max, IntKind.signed, IntKind.bits] at h; omega) (hval 0 39 v0 rfl rfl) h0 (fun x hx => hlow x (by simp [hx]))
  obtain ⟨n1, rfl, hn1⟩ := open_u8 Try.underlying5 (hval 1 5 v1 rfl rfl) h1
  refine (walk A0 c0 xs0 n1 hx0 hl0 hm0 hn1 W hr0).mono fun e W' ⟨he, hg⟩ => ?_
  subst he
  exact ⟨_, rfl, law_true laid_out (by kernel_rfl) rfl Try.underlying4 (by kernel_rfl) hW' hA rfl rfl rfl hg⟩

theorem over : Rows.spanManyRow.holds Try.pinned (OpenSpec.ofChange Rows.spanManySpec) :=
  OpenClaim.holds_of_wide 8 Try.f8 rfl rfl rfl rfl rfl rfl rfl ⟨rfl, rfl, rfl, rfl, rfl⟩ rfl rfl rfl rfl rfl (by kernel_rfl) Try.func8 (by kernel_rfl)
    (of_decide_eq_true (by kernel_rfl)) (by unfold Func.isWrapper; first | (rw [if_pos (by decide +kernel)]; kernel_rfl) | (rw [if_neg (by decide +kernel)]; exact ⟨rfl, rfl⟩))
    (fun os started H enc _ => lifted os started H enc)

/-- The statement. -/
theorem proved : Rows.SpanManySaid := over
end Go.Proofs.Ytfibbohccaknjaa.spanMany
