/-
  What the document's Open of layer 6 returns, for at most a hundred thousand bytes. No condition.
-/
import Derived.Test.YtmodafmnokiceaaSeaF
import Derived.Deep.RegionHeld3
import Derived.Deep.DrawnRows
namespace Go.Proofs.Ytmodafmnokiceaa
open Go.ChangeShapes Go.WideShapes Go.ChangeAt Go.RowKit Go.Deep
set_option linter.unusedVariables false
set_option linter.unusedSimpArgs false

theorem step_append_u8 {w : World} {ops : Array Oper} {o : Oper} {a : Act} {K : Act → World → Prop} {Q : Exit → Act → World → Prop} {E : Prop} (hgd : o.guard = none) (s x : Operand)
    (ho : o.op = .call { callee := .builtin .append, args := #[s, x], argTypes := #[24, 24] })
    (base : Nat) (v : Value) (xs ys : List Nat) (hs : a.eval s = v) (hown : OwnN .u8 5 w base v xs) (B : Nat) (A : Option Addr) (c n : Nat) (hn : ys.length = n) (hx : a.eval x = .slice A n c) (hr : RdN .u8 w B A ys)
    (h63 : xs.length + n ≤ 1000000) (hbase : base ≤ w.heap.size)
    (h : ∀ v' w', OwnN .u8 5 w' base v' (xs ++ ys) → w.grownBy w' v.ownBlock → K (a.put o.dst v') w') : if Region.wanted o (yielded ops a.tmps) = true then Oper.wp Try.prog o a w K Q else E := by
  have hw : Region.wanted o (yielded ops a.tmps) = true := by simp [Region.wanted, hgd]
  rw [if_pos hw]
  subst hn
  obtain ⟨i0, hi, hz0, hz1, hz2⟩ := info_parts bytes_info
  cases A with
  | none =>
    have hnil : ys = [] := by
      rcases ys with _ | ⟨p, ys⟩
      · rfl
      · obtain ⟨b, off, e, _⟩ := hr (by simp)
        cases e
    subst hnil
    have hrun := append_none_run (ty := o.type) Try.underlying24 hi hown c
    unfold Oper.wp
    simp only [List.length_nil] at hx
    simp [execOp, ho, resolve, invoke, builtin, hs, hx, hrun, Result.andThen]
    exact h v w (by simpa using hown) (World.grownBy.refl w _)
  | some ad =>
    obtain ⟨v', w', hrun, h1, h2, _⟩ := run_append_own (P := Try.prog) w base 24 o.type 5 i0 (.int .u8 0) 1 1 Try.underlying24 hi hz0 hz1 hz2 rfl (by decide) v xs.length (ncells .u8 xs) hown ad ys.length c (ncells .u8 ys) (by rw [ncells_length, Nat.mul_one]) hr.cells_ (ncells_one .u8 ys)
      (by unfold maxLen; omega) (by omega) hbase
    unfold Oper.wp
    simp [execOp, ho, resolve, invoke, builtin, hs, hx, hrun, Result.andThen]
    refine h v' w' ?_ h2
    unfold OwnN
    rw [List.length_append, ncells_app]
    exact h1

set_option maxHeartbeats 1000000 in
theorem ropen_no (A : Option Addr) (n c : Nat) (xs : List Nat) (next : Nat) (w : World) (hx : Wig.Bytes xs) (hn : n = xs.length) (hl : n ≤ 100000) (hr : RdN .u8 w w.heap.size A xs) (hs : Wig.ssize xs = 0) :
    Calls Try.prog 17 #[.slice A n c, .int .u64 (next : Int)] w (OpensAt xs next w) := by
  have F := Lib.hid (show Wig.sopens xs = false from decide_eq_false (by omega))
  by_cases h0 : n = 0
  · subst h0
    clear hx hn hl hr hs
    go_enter Try.func17, Try.ntmps17
    go_wp2_with fail
    go_ret3
    exact opens_no F.out (Below.refl _ _)
  · have t0 : decide ((n : Int) < 1) = false := decide_eq_false (by omega)
    by_cases h1 : 1200 < n
    · have t1 : decide ((1200 : Int) < (n : Int)) = true := decide_eq_true (by omega)
      clear hx hn hl hr hs h0 h1
      go_enter Try.func17, Try.ntmps17
      go_wp2_with fail
      go_ret3
      exact opens_no F.out (Below.refl _ _)
    · have t1 : decide ((1200 : Int) < (n : Int)) = false := decide_eq_false (by omega)
      obtain ⟨x, hx0⟩ : ∃ x, xs[0]? = some x := ⟨_, List.getElem?_eq_getElem (by omega)⟩
      obtain ⟨b, off, rfl, -, hcell⟩ := hr.at_ hx0
      rw [Nat.add_zero] at hcell
      have hh := head_of hx0
      have x256 : x < 256 := hx x (List.mem_of_getElem? hx0)
      have i1 : (0 : Int) < (n : Int) := by omega
      have i2 : 0 < n := by omega
      by_cases h2 : x < 64
      · have t2 : decide ((x : Int) < 64) = true := decide_eq_true (by omega)
        clear hx hn hl hr hs h0 h1 hh hx0 x256 h2
        go_enter Try.func17, Try.ntmps17
        go_wp2_with fail
        go_ret3
        exact opens_no F.out (Below.refl _ _)
      · have t2 : decide ((x : Int) < 64) = false := decide_eq_false (by omega)
        by_cases h3 : 67 < x
        · have t3 : decide ((67 : Int) < (x : Int)) = true := decide_eq_true (by omega)
          clear hx hn hl hr hs h0 h1 hh hx0 x256 h2 h3
          go_enter Try.func17, Try.ntmps17
          go_wp2_with fail
          go_ret3
          exact opens_no F.out (Below.refl _ _)
        · have t3 : decide ((67 : Int) < (x : Int)) = false := decide_eq_false (by omega)
          obtain ⟨s, hss⟩ : ∃ s, s = x - 63 := ⟨_, rfl⟩
          obtain ⟨q, hq⟩ : ∃ q, q = 2 + s := ⟨_, rfl⟩
          obtain ⟨z, hz⟩ : ∃ z : Int, z = (n : Int) - 4 := ⟨_, rfl⟩
          have hlt : n < s + 6 := by
            unfold Wig.ssize at hs
            rw [hh] at hs
            by_cases hg : s + 6 ≤ n
            · rw [if_pos (by omega)] at hs; omega
            · omega
          have e1 : (x : Int) - 63 = (s : Int) := by omega
          have e2 : (n : Int) - 4 = z := hz.symm
          have e3 : (2 : Int) + (s : Int) = (q : Int) := by omega
          have t4 : decide (z < (q : Int)) = true := decide_eq_true (by omega)
          have zl : -4 ≤ z := by omega
          have zu : z ≤ 1200 := by omega
          have s5 : s ≤ 4 := by omega
          clear hx hn hl hr hs h0 h1 hh hx0 x256 h2 h3 hss hq hz hlt
          go_enter Try.func17, Try.ntmps17
          go_wp2_with fail
          go_quiet (fail)
          go_wp2_with fail
          go_ret3
          exact opens_no F.out (below_drewN' (Below.refl _ _) _)

/-- At the document's round's head: j - 1 bytes are read. -/
def RreadRel (xs : List Nat) (s : Nat) (r i : Value) : Prop := ∃ j : Nat, 1 ≤ j ∧ j ≤ s + 1 ∧ i = .int .i64 (j : Int) ∧ r = .int .u64 ((Wig.val ((xs.drop 1).take (j - 1)) : Nat) : Int)

set_option maxHeartbeats 4000000 in
theorem ropen_yes (A : Option Addr) (n c : Nat) (xs : List Nat) (next : Nat) (w : World) (hx : Wig.Bytes xs) (hn : n = xs.length) (hc : n ≤ c) (hcm : c ≤ maxLen) (hr : RdN .u8 w w.heap.size A xs) (hs : 0 < Wig.ssize xs) (hnext : next < 18446744073709551616) :
    Calls Try.prog 17 #[.slice A n c, .int .u64 (next : Int)] w (OpensAt xs next w) := by
  obtain ⟨p1, p2, p3⟩ := Wig.ssize_pos hs
  have p4 := Wig.ssize_le xs
  obtain ⟨s, hss⟩ : ∃ s, s = Wig.ssize xs := ⟨_, rfl⟩
  obtain ⟨f, hf⟩ : ∃ f, f = 1 + s := ⟨_, rfl⟩
  obtain ⟨q, hq⟩ : ∃ q, q = 2 + s := ⟨_, rfl⟩
  obtain ⟨m, hm⟩ : ∃ m, m = n - 4 := ⟨_, rfl⟩
  rw [← hss] at p2 p3 p4 hs
  obtain ⟨x, hx0⟩ : ∃ x, xs[0]? = some x := ⟨_, List.getElem?_eq_getElem (by omega)⟩
  have hh := head_of hx0
  rw [hh] at p3
  obtain ⟨b, off, rfl, hb, hcell⟩ := hr.at_ hx0
  rw [Nat.add_zero] at hcell
  have hlen : (xs.take m).length = m := by rw [List.length_take]; omega
  obtain ⟨ys, hys⟩ : ∃ ys, ys = Wig.sealed (xs.take m) := ⟨_, rfl⟩
  have hL : ys.length = n := by rw [hys, Wig.sealed_length, hlen]; omega
  have hyb : Wig.Bytes ys := by rw [hys]; exact Wig.sealed_bytes (bytes_take hx m)
  have hop : Wig.sopens xs = decide (ys = xs) := by
    unfold Wig.sopens
    rw [← hss, ← hn, ← hm, ← hys]
    by_cases h : ys = xs
    · rw [decide_eq_true h, decide_eq_true ⟨hs, h⟩]
    · rw [decide_eq_false h, decide_eq_false (fun hh => h hh.2)]
  have hyn : ys ≠ [] := by intro e; rw [e] at hL; simp at hL; omega
  have hxn : xs ≠ [] := by intro e; rw [e] at hx0; simp at hx0
  obtain ⟨sb, hsb⟩ : ∃ s, s = str xs := ⟨_, rfl⟩
  obtain ⟨sy, hsy⟩ : ∃ s, s = str ys := ⟨_, rfl⟩
  have hsame := str_same hyb hx
  rw [← hsb, ← hsy, ← hop] at hsame
  have e1 : (x : Int) - 63 = (s : Int) := by omega
  have e2 : (n : Int) - 4 = (m : Int) := by omega
  have e3 : (2 : Int) + (s : Int) = (q : Int) := by omega
  have e4 : (1 : Int) + (s : Int) = (f : Int) := by omega
  have t0 : decide ((n : Int) < 1) = false := decide_eq_false (by omega)
  have t1 : decide ((1200 : Int) < (n : Int)) = false := decide_eq_false (by omega)
  have t2 : decide ((x : Int) < 64) = false := decide_eq_false (by omega)
  have t3 : decide ((67 : Int) < (x : Int)) = false := decide_eq_false (by omega)
  have t4 : decide (m < q) = false := decide_eq_false (by omega)
  have i1 : (0 : Int) < (n : Int) := by omega
  have i2 : 0 < n := by omega
  have m0 : (0 : Int) ≤ (m : Int) := by omega
  have m1 : m ≤ c := by omega
  have n2 : n ≤ 1200 := by omega
  have s5 : s ≤ 4 := p4
  have CV : ∀ w', Below w.heap.size w w' → (convert 24 9 (.slice (some ⟨b, off, none⟩) n c)).run Try.prog w' = .ok (.string sb) w' := fun w' h => by
    rw [hsb]; exact conv_str (e := 5) Try.underlying24 Try.underlying5 Try.underlying9 (hr.below h) (fun h => absurd h hxn) n c hn
  have CS : Calls Try.prog 24 #[.slice (some ⟨b, off, none⟩) m c] w.drew fun e w2 => ∃ A2 c2, e = .returned (.slice A2 n c2) ∧ (convert 24 9 (.slice A2 n c2)).run Try.prog w2 = .ok (.string sy) w2 ∧ ((convert 24 9 (.slice (some ⟨b, off, none⟩) n c)).run Try.prog w2 = .ok (.string sb) w2 ∧ Below w.heap.size w w2) := by
    refine (rsummed_any (some ⟨b, off, none⟩) m c (xs.take m) w.drew (bytes_take hx m) hlen.symm (by omega) (hr.take m)).mono fun e w2 ⟨v2, he, hown, hb2⟩ => ?_
    rw [← hys] at hown
    obtain ⟨A2, c2, rfl, -, -, r2, -⟩ := hown.rd
    have hb3 : Below w.heap.size w w2 := (Below.refl _ _).drew.trans hb2
    refine ⟨A2, c2, by rw [he, hL], ?_, CV w2 hb3, hb3⟩
    rw [hsy]
    exact conv_str (e := 5) Try.underlying24 Try.underlying5 Try.underlying9 r2 (fun h => absurd h hyn) n c2 hL.symm
  have KV := Lib.hid CV
  have KS := Lib.hid CS
  have HX := Lib.hid hx
  have HN := Lib.hid (And.intro hn hb)
  have HR := Lib.hid hr
  have HS := Lib.hid hss
  have HF := Lib.hid (And.intro hf (And.intro hm (And.intro p2 (And.intro hlen (And.intro hs (And.intro hnext (And.intro hc hcm)))))))
  clear p1 p2 p3 p4 hss hf hq hm hr hb hn hc hcm hx hlen hs hnext hx0 hh hys hL hyb hop hyn hxn hsb hsy CV CS
  obtain ⟨t, ht⟩ : ∃ t, t = Wig.sopens xs := ⟨_, rfl⟩
  rw [← ht] at hsame
  have HT := Lib.hid ht
  have t5 : decide ((m : Int) < (q : Int)) = false := by have := of_decide_eq_false t4; exact decide_eq_false (by omega)
  have e5 : IntKind.i64.wrap (2 + (s : Int)) = (q : Int) := by rw [IntKind.wrap_i64]; omega
  have e6 : IntKind.i64.wrap (q : Int) = (q : Int) := by rw [IntKind.wrap_i64]; omega
  clear ht
  go_enter Try.func17, Try.ntmps17
  go_wp2_with fail
  refine wp_region_held_drew (S := fun w' => (convert 24 9 (.slice (some ⟨b, off, none⟩) n c)).run Try.prog w' = .ok (.string sb) w') (by kernel_rfl) (KV.out _ (Below.refl _ _).drew) (fun hHeld => ?_)
  refine wpAnyH_take (i := 0) (oi := { dst := some 39, op := Op.move (Operand.tmp 8), type := 3, pos := "ref.go:57", after := #[], guard := none }) (v := ?v0) rfl (by kernel_rfl) (by kernel_rfl) (by kernel_rfl) (fun _ _ _ h => h) (Or.inl ⟨by rfl, ?y0⟩) (by assumption) ?_
  case y0 => (intro w hSw; go_simp; try with_reducible rfl)
  try simp only [Act.put, List.setIfInBounds_toArray, List.set_cons_zero, List.set_cons_succ]
  refine wpAnyH_take (i := 1) (oi := { dst := some 40, op := Op.move (Operand.tmp 7), type := 3, pos := "ref.go:57", after := #[], guard := none }) (v := ?v1) rfl (by kernel_rfl) (by kernel_rfl) (by kernel_rfl) (fun _ _ _ h => h) (Or.inl ⟨by rfl, ?y1⟩) (by assumption) ?_
  case y1 => (intro w hSw; go_simp; try with_reducible rfl)
  try simp only [Act.put, List.setIfInBounds_toArray, List.set_cons_zero, List.set_cons_succ]
  refine wpAnyH_take (i := 2) (oi := { dst := some 41, op := Op.binOp BinOp.add 3 (Operand.const (Value.int IntKind.i64 2)) (Operand.tmp 40) 3, type := 3, pos := "ref.go:57", after := #[{ on := 1, ground := Ground.data }], guard := none }) (v := ?v2) rfl (by kernel_rfl) (by kernel_rfl) (by kernel_rfl) (fun _ _ _ h => h) (Or.inl ⟨by rfl, ?y2⟩) (by assumption) ?_
  case y2 => (intro w hSw; go_simp; try with_reducible rfl)
  try simp only [Act.put, List.setIfInBounds_toArray, List.set_cons_zero, List.set_cons_succ]
  refine wpAnyH_take (i := 3) (oi := { dst := some 42, op := Op.binOp BinOp.lss 3 (Operand.tmp 39) (Operand.tmp 41) 3, type := 4, pos := "ref.go:57", after := #[{ on := 0, ground := Ground.data }, { on := 2, ground := Ground.data }], guard := none }) (v := ?v3) rfl (by kernel_rfl) (by kernel_rfl) (by kernel_rfl) (fun _ _ _ h => h) (Or.inl ⟨by rfl, ?y3⟩) (by assumption) ?_
  case y3 => (intro w hSw; go_simp; try with_reducible rfl)
  try simp only [Act.put, List.setIfInBounds_toArray, List.set_cons_zero, List.set_cons_succ]
  refine wpAnyH_take (i := 4) (oi := { dst := some 43, op := Op.move (Operand.tmp 42), type := 4, pos := "ref.go:57", after := #[{ on := 3, ground := Ground.data }], guard := none }) (v := ?v4) rfl (by kernel_rfl) (by kernel_rfl) (by kernel_rfl) (fun _ _ _ h => h) (Or.inl ⟨by rfl, ?y4⟩) (by assumption) ?_
  case y4 => (intro w hSw; go_simp; try with_reducible rfl)
  try simp only [Act.put, List.setIfInBounds_toArray, List.set_cons_zero, List.set_cons_succ]
  refine wpAnyH_take (i := 5) (oi := { dst := some 44, op := Op.move (Operand.tmp 0), type := 24, pos := "ref.go:57", after := #[{ on := 4, ground := Ground.guard }], guard := some (4, false) }) (v := ?v5) rfl (by kernel_rfl) (by kernel_rfl) (by kernel_rfl) (fun _ _ _ h => h) (Or.inl ⟨by rfl, ?y5⟩) (by assumption) ?_
  case y5 => (intro w hSw; go_simp; try with_reducible rfl)
  try simp only [Act.put, List.setIfInBounds_toArray, List.set_cons_zero, List.set_cons_succ]
  refine wpAnyH_take (i := 6) (oi := { dst := some 45, op := Op.move (Operand.tmp 8), type := 3, pos := "ref.go:57", after := #[{ on := 4, ground := Ground.guard }], guard := some (4, false) }) (v := ?v6) rfl (by kernel_rfl) (by kernel_rfl) (by kernel_rfl) (fun _ _ _ h => h) (Or.inl ⟨by rfl, ?y6⟩) (by assumption) ?_
  case y6 => (intro w hSw; go_simp; try with_reducible rfl)
  try simp only [Act.put, List.setIfInBounds_toArray, List.set_cons_zero, List.set_cons_succ]
  refine wpAnyH_take (i := 7) (oi := { dst := some 46, op := Op.slice 24 (Operand.tmp 44) none (some (Operand.tmp 45)) none, type := 24, pos := "ref.go:57", after := #[{ on := 5, ground := Ground.data }, { on := 6, ground := Ground.data }, { on := 4, ground := Ground.guard }], guard := some (4, false) }) (v := ?v7) rfl (by kernel_rfl) (by kernel_rfl) (by kernel_rfl) (fun _ _ _ h => h) (Or.inl ⟨by rfl, ?y7⟩) (by assumption) ?_
  case y7 => (intro w hSw; go_simp; try with_reducible rfl)
  try simp only [Act.put, List.setIfInBounds_toArray, List.set_cons_zero, List.set_cons_succ]
  refine wpAnyH_take (i := 10) (oi := { dst := some 49, op := Op.move (Operand.tmp 0), type := 24, pos := "ref.go:57", after := #[{ on := 4, ground := Ground.guard }], guard := some (4, false) }) (v := ?v10) rfl (by kernel_rfl) (by kernel_rfl) (by kernel_rfl) (fun _ _ _ h => h) (Or.inl ⟨by rfl, ?y10⟩) (by assumption) ?_
  case y10 => (intro w hSw; go_simp; try with_reducible rfl)
  try simp only [Act.put, List.setIfInBounds_toArray, List.set_cons_zero, List.set_cons_succ]
  refine wpAnyH_take (i := 11) (oi := { dst := some 50, op := Op.convert 24 9 (Operand.tmp 49), type := 9, pos := "ref.go:57", after := #[{ on := 10, ground := Ground.data }, { on := 4, ground := Ground.guard }], guard := some (4, false) }) (v := ?v11) rfl (by kernel_rfl) (by kernel_rfl) (by kernel_rfl) (fun _ _ _ h => h) (Or.inl ⟨by rfl, ?y11⟩) (by assumption) ?_
  case y11 => (intro w hSw; go_simp; try with_reducible rfl)
  try simp only [Act.put, List.setIfInBounds_toArray, List.set_cons_zero, List.set_cons_succ]
  refine wpAnyH_ready (rs := [8]) (by kernel_rfl) (by simp) ?_
  refine AllReadyH.cons (o := { dst := some 47, op := Op.call { callee := Callee.value (Operand.func 24), args := #[Operand.tmp 46], argTypes := #[24] }, type := 24, pos := "ref.go:57", after := #[{ on := 7, ground := Ground.data }, { on := 4, ground := Ground.chain }, { on := 4, ground := Ground.guard }], guard := some (4, false) }) rfl (fun K hK => ?_) AllReadyH.nil
  go_simp
  refine (KS.out).mono ?_
  rintro e w2 ⟨A2, c2, rfl, hcy, hcb, hb2⟩
  go_wp2_with fail
  refine hK.out _ _ hcb (fun hHeld => ?_)
  try simp only [Act.put, List.setIfInBounds_toArray, List.set_cons_zero, List.set_cons_succ]
  clear hK K
  refine wpAnyH_ready (rs := [9]) (by kernel_rfl) (by simp) ?_
  refine AllReadyH.cons (o := { dst := some 48, op := Op.convert 24 9 (Operand.tmp 47), type := 9, pos := "ref.go:57", after := #[{ on := 8, ground := Ground.data }, { on := 4, ground := Ground.guard }], guard := some (4, false) }) rfl (fun K hK => ?_) AllReadyH.nil
  go_simp
  refine hK.out _ _ hcb (fun hHeld => ?_)
  try simp only [Act.put, List.setIfInBounds_toArray, List.set_cons_zero, List.set_cons_succ]
  clear hK K
  refine wpAnyH_take (i := 12) (oi := { dst := some 51, op := Op.binOp BinOp.neq 9 (Operand.tmp 48) (Operand.tmp 50) 9, type := 4, pos := "ref.go:57", after := #[{ on := 9, ground := Ground.data }, { on := 11, ground := Ground.data }, { on := 4, ground := Ground.guard }], guard := some (4, false) }) (v := ?v12) rfl (by kernel_rfl) (by kernel_rfl) (by kernel_rfl) (fun _ _ _ h => h) (Or.inl ⟨by rfl, ?y12⟩) (by assumption) ?_
  case y12 => (intro w hSw; go_simp; try with_reducible rfl)
  try simp only [Act.put, List.setIfInBounds_toArray, List.set_cons_zero, List.set_cons_succ]
  refine wpAnyH_take (i := 13) (oi := { dst := some 52, op := Op.pick (Operand.tmp 43) (Operand.const (Value.bool true)) (Operand.tmp 51), type := 4, pos := "ref.go:57", after := #[{ on := 4, ground := Ground.data }, { on := 12, ground := Ground.data }], guard := none }) (v := ?v13) rfl (by kernel_rfl) (by kernel_rfl) (by kernel_rfl) (fun _ _ _ h => h) (Or.inl ⟨by rfl, ?y13⟩) (by assumption) ?_
  case y13 => (intro w hSw; go_simp; try with_reducible rfl)
  try simp only [Act.put, List.setIfInBounds_toArray, List.set_cons_zero, List.set_cons_succ]
  refine wpAnyH_done (by kernel_rfl) ?_ _
  have B2 := Lib.hid hb2
  clear hcy hcb hb2 hHeld
  cases t with
  | false =>
    have F := Lib.hid (show Wig.sopens xs = false from HT.out.symm)
    go_wp2_with fail
    go_ret3
    exact opens_no F.out B2.out
  | true =>
    have F := Lib.hid (show Wig.sopens xs = true from HT.out.symm)
    have R2 := Lib.hid (HR.out.below B2.out)
    have hcell2 := (B2.out.cell (p := ⟨b, off, none⟩) (HN.out.2)).trans hcell
    clear hcell t4 t5 e3 e5 e6
    go_wp2_with fail
    go_loop [9, 10] (fun r i => RreadRel xs s r i) (fun _ i => s + 1 - (intOf i).toNat)
    case atStart => exact ⟨1, by omega, by omega, rfl, rfl⟩
    case round =>
      obtain ⟨j, hj1, hj2, rfl, rfl⟩ := hrel
      obtain ⟨y, hye⟩ : ∃ y, y = Wig.val ((xs.drop 1).take (j - 1)) := ⟨_, rfl⟩
      rw [← hye]
      by_cases hlt : j ≤ s
      · obtain ⟨z, hz⟩ : ∃ z, xs[j]? = some z := ⟨_, List.getElem?_eq_getElem (by have := HF.out; have := HN.out.1; omega)⟩
        obtain ⟨b', off', ea, -, hcz⟩ := R2.out.at_ hz
        injection ea with ea
        injection ea with ea eb
        subst ea eb
        have z256 : z < 256 := HX.out z (List.mem_of_getElem? hz)
        have hdb : Wig.Bytes (xs.drop 1) := fun u hu => HX.out u (List.mem_of_mem_drop hu)
        have hy : y < 72057594037927936 := by rw [hye]; exact val_seven hdb (by omega)
        have hzd : (xs.drop 1)[j - 1]? = some z := by rw [List.getElem?_drop, show 1 + (j - 1) = j by omega]; exact hz
        have hnext := val_more hzd
        rw [← hye] at hnext
        have f1 := byte_in_shl hy
        obtain ⟨y3, hy3⟩ : ∃ y3, y3 = y * 256 + z := ⟨_, rfl⟩
        have f2 : IntKind.u64.wrap (((y * 256 : Nat) : Int) + (z : Int)) = (y3 : Int) := by rw [IntKind.wrap_u64]; omega
        have f3 := byte_wide z256
        rw [← hy3] at hnext
        generalize y * 256 = y2 at *
        have i0 : (0 : Int) ≤ (j : Int) := by omega
        have i3 : (j : Int) < (n : Int) := by have := HF.out; have := HN.out.1; omega
        have HJ := Lib.hid (And.intro hnext (And.intro hj1 hlt))
        have tj : decide (j ≤ s) = true := decide_eq_true hlt
        have j8 : j < 8 := by omega
        clear hnext hy3 hye hy z256 hz hzd hdb hj1 hj2 hlt
        go_wp2_with fail
        go_round
        case rel => exact ⟨j + 1, by omega, by have := HJ.out; omega, rfl, by rw [Nat.add_sub_cancel, ← HJ.out.1]; have := HJ.out.2.1; rw [show j - 1 + 1 = j by omega]⟩
        case measure => have := HJ.out; simp [intOf]; omega
      · obtain rfl : j = s + 1 := by omega
        rw [Nat.add_sub_cancel] at hye
        have hpart : Wig.spart xs = (xs.drop 1).take s := by unfold Wig.spart; rw [HS.out]
        rw [← hpart] at hye
        obtain ⟨r, hr⟩ : ∃ r, r = Wig.snum xs next := ⟨_, rfl⟩
        have pk : Wig.pk (s : Int) = s := by have := Wig.pk_cases (s : Int); have := HF.out; omega
        have hrr : Wig.pwhole y (Wig.pwin (Wig.pk (s : Int))) (Wig.pcap next) = r := by rw [pk, hye, hr, Wig.snum, if_pos F.out, HS.out]
        have yl : y < 18446744073709551616 := by
          have h1 := val_seven (xs := Wig.spart xs) (fun x hx => by rw [hpart] at hx; exact HX.out x (List.mem_of_mem_drop (List.mem_of_mem_take hx))) (k := 7) (by omega)
          rw [List.take_of_length_le (by rw [hpart, List.length_take]; omega), ← hye] at h1
          omega
        have CW := Lib.hid (fun w' => rwhole_gives y (s : Int) next r w' hrr yl HF.out.2.2.2.2.2.1)
        have HRr := Lib.hid hr
        obtain ⟨l, hl⟩ : ∃ l, l = m - f := ⟨_, rfl⟩
        have hpay : Wig.spay xs = (xs.drop f).take l := by
          unfold Wig.spay
          rw [if_pos F.out, ← HS.out, ← HN.out.1, ← HF.out.2.1, ← HF.out.1, hl, List.drop_take]
        have hlen : (Wig.spay xs).length = l := by rw [hpay, List.length_take, List.length_drop]; have := HF.out; have := HN.out.1; omega
        obtain ⟨ps, hps⟩ : ∃ ps, ps = Wig.spay xs := ⟨_, rfl⟩
        rw [← hps] at hpay hlen
        have O1 := Lib.hid (show OwnN .u8 5 ((w2.alloc (.cells #[] 5)).drew) w2.heap.size (.slice (some ⟨w2.heap.size, 0, none⟩) 0 0) [] from own_none w2)
        have E1 := Lib.hid (show Below w2.heap.size w2 ((w2.alloc (.cells #[] 5)).drew) from ((Below.refl _ _).alloc (Nat.le_refl _) _).drew)
        have RP := Lib.hid (show RdN .u8 ((w2.alloc (.cells #[] 5)).drew) w.heap.size (some ⟨b, off + f, none⟩) ps by rw [hpay]; exact (R2.out.part f l).keeps fun p hp => (E1.out.cell (by have := B2.out.size; omega)))
        have HP := Lib.hid (And.intro hps (And.intro hlen (show 0 < l ∧ l ≤ 1200 by have := HF.out; have := HN.out.1; omega)))
        have e7 : IntKind.i64.wrap (1 + (s : Int)) = (f : Int) := by have := HF.out.1; rw [IntKind.wrap_i64]; omega
        have e8 : IntKind.i64.wrap (f : Int) = (f : Int) := by have := HF.out.1; rw [IntKind.wrap_i64]; omega
        have f0 : (0 : Int) ≤ (f : Int) := by omega
        have f1 : f ≤ m := by have := HF.out; have := HN.out.1; omega
        have f1i : (f : Int) ≤ (m : Int) := by omega
        have f2 : (m : Int) ≤ (c : Int) := by omega
        have f3 : ¬ c = f := by have := HF.out; have := HN.out.1; omega
        have f4 : m - f = l := hl.symm
        clear hye hpart hr pk hrr yl hl hpay hps hlen hj1 hj2 hlt
        go_wp2_with fail
        go_region_held3 (fun w' => True)
          (exact trivial)
          (first
            | (go_at_call 30; refine (CW.out _).mono ?_; rintro e w' ⟨rfl, rfl⟩)
            | (refine step_append_u8 (by rfl) _ _ (by rfl) w2.heap.size _ [] ps (by rfl) O1.out _ (some ⟨b, off + f, none⟩) _ l HP.out.2.1 (by rfl) RP.out ?_ ?_ ?_; (have := HP.out; simp; omega); (exact E1.out.size); intro v4 w4 hown4 hg4; have KW := Lib.hid (And.intro hown4 (E1.out.grown hg4 E1.out.size (fun q hq => (O1.out.block q hq).1))))
            | fail)
        all_goals
          obtain ⟨hown4, hb4⟩ := KW.out
          obtain ⟨A4, c4, rfl, h1, h2, r4, -⟩ := hown4.rd
          simp only [List.nil_append] at h1 r4 ⊢
          have G := Lib.hid (show OpensAt xs next w (.returned (.tuple #[.int .u64 (r : Int), .slice A4 ps.length c4, .int .i64 0])) w4 from by
            have e0 : Wig.sopenErr xs = 0 := by unfold Wig.sopenErr; rw [if_pos F.out]
            have e9 := HP.out.1
            refine ⟨A4, ps.length, c4, by rw [e0, ← HRr.out]; rfl, by rw [← e9], h1, h2, by rw [← e9]; exact r4, fun hz => ?_, B2.out.trans (hb4.mono B2.out.size)⟩
            rw [← e9] at hz
            have := HP.out.2
            rw [hz] at this
            simp at this
            omega)
          clear hown4 hb4 h1 h2 r4
          go_wp2_with fail
          go_ret3
          exact G.out

theorem ropen_any (A : Option Addr) (n c : Nat) (xs : List Nat) (next : Nat) (w : World) (hx : Wig.Bytes xs) (hn : n = xs.length) (hl : n ≤ 100000) (hc : n ≤ c) (hcm : c ≤ maxLen) (hr : RdN .u8 w w.heap.size A xs) (hnext : next < 18446744073709551616) :
    Calls Try.prog 17 #[.slice A n c, .int .u64 (next : Int)] w (OpensAt xs next w) := by
  rcases Nat.eq_zero_or_pos (Wig.ssize xs) with h | h
  · exact ropen_no A n c xs next w hx hn hl hr h
  · exact ropen_yes A n c xs next w hx hn hc hcm hr h hnext
theorem ropen_gives (A : Option Addr) (n c : Nat) (xs ys : List Nat) (next v r : Nat) (w : World) (hv : Wig.snum xs next = v) (hp : Wig.spay xs = ys) (he : Wig.sopenErr xs = r) (hx : Wig.Bytes xs) (hn : n = xs.length) (hl : n ≤ 100000) (hc : n ≤ c) (hcm : c ≤ maxLen) (hr : RdN .u8 w w.heap.size A xs) (hnext : next < 18446744073709551616) :
    Calls Try.prog 17 #[.slice A n c, .int .u64 (next : Int)] w fun e w' => ∃ A n c, e = .returned (.tuple #[.int .u64 (v : Int), .slice A n c, .int .i64 (r : Int)]) ∧ n = ys.length ∧ n ≤ c ∧ c ≤ maxLen ∧ RdN .u8 w' w'.heap.size A ys ∧ (ys = [] → A = none) ∧ Below w.heap.size w w' := by
  subst hv hp he
  exact ropen_any A n c xs next w hx hn hl hc hcm hr hnext
end Go.Proofs.Ytmodafmnokiceaa
