/-
  What the document's joined returns: a row of the call's own with one span more. Condition: the row is the call's own.
-/
import Derived.Test.YtfibbohccaknjaaSpH
namespace Go.Proofs.Ytfibbohccaknjaa
open Go.ChangeShapes Go.WideShapes Go.ChangeAt Go.RowKit Go.Deep
set_option linter.unusedVariables false

theorem own_lit (X : World) (b base : Nat) (hb : b = X.heap.size) (hB : base ≤ b) : OwnS (X.alloc (.cells #[] 25)).drew base (.slice (some ⟨b, 0, none⟩) 0 0) [] := by
  subst hb
  exact (own_lit0 X).base_le hB
theorem one_rd {W : World} {b s0 s1 : Nat} (hb : b < W.heap.size) (h0 : W.cell? ⟨b, 0, none⟩ = some (.int .u64 (s0 : Int))) (h1 : W.cell? ⟨b, 1, none⟩ = some (.int .u64 (s1 : Int))) : RdS W W.heap.size (some ⟨b, 0, none⟩) [(s0, s1)] :=
  fun _ => ⟨b, 0, rfl, hb, fun j p hj => by
    cases j with
    | zero => simp at hj; subst hj; exact ⟨h0, h1⟩
    | succ j => simp at hj⟩
theorem two_rd (X : World) (o : Obj) (s0 s1 : Nat) : ((X.alloc (.cells #[.int .u64 (s0 : Int), .int .u64 (s1 : Int)] 25)).alloc o).drew.cell? ⟨X.heap.size, 0, none⟩ = some (.int .u64 (s0 : Int)) ∧
    ((X.alloc (.cells #[.int .u64 (s0 : Int), .int .u64 (s1 : Int)] 25)).alloc o).drew.cell? ⟨X.heap.size, 1, none⟩ = some (.int .u64 (s1 : Int)) := by
  constructor
  · show ((X.alloc _).alloc o).cell? _ = _
    rw [World.cell?_alloc_past _ _ _ (by simp)]; exact (new_sp X s0 s1).1
  · show ((X.alloc _).alloc o).cell? _ = _
    rw [World.cell?_alloc_past _ _ _ (by simp)]; exact (new_sp X s0 s1).2
theorem two_rd' (X : World) (o : Obj) (s0 s1 : Nat) : ((X.alloc o).alloc (.cells #[.int .u64 (s0 : Int), .int .u64 (s1 : Int)] 25)).drew.cell? ⟨X.heap.size + 1, 0, none⟩ = some (.int .u64 (s0 : Int)) ∧
    ((X.alloc o).alloc (.cells #[.int .u64 (s0 : Int), .int .u64 (s1 : Int)] 25)).drew.cell? ⟨X.heap.size + 1, 1, none⟩ = some (.int .u64 (s1 : Int)) := by
  have h := new_sp (X.alloc o) s0 s1 (t := 25)
  have e : (X.alloc o).heap.size = X.heap.size + 1 := by simp
  rw [e] at h
  exact h
theorem below_two (X : World) (o o' : Obj) : Below (X.alloc o).drew.heap.size (X.alloc o).drew ((X.alloc o).alloc o').drew := by
  have h := (Below.refl (X.alloc o).heap.size (X.alloc o)).alloc (Nat.le_refl _) o'
  exact ⟨h.os, h.tape, h.output, h.size, h.block⟩
theorem flat_set (l : List Wig.Spn) (p : Wig.Spn) (x : Nat) : (flat (l ++ [p])).set (l.length * 2 + 1) (.int .u64 (x : Int)) = flat (l ++ [(p.1, x)]) := by
  rw [flat_app, flat_app, flat_one, flat_one, List.set_append_right _ _ (by rw [flat_length]; omega), flat_length]
  rw [show l.length * 2 + 1 - l.length * 2 = 1 by omega]
  rfl

set_option maxHeartbeats 8000000 in
theorem joined_any (v : Value) (l : List Wig.Spn) (s0 s1 base : Nat) (w : World) (hm : l.length ≤ 100000) (ho : OwnS w base v l) (hb : base ≤ w.heap.size) :
    Calls Try.prog 33 #[v, .agg #[.int .u64 (s0 : Int), .int .u64 (s1 : Int)]] w fun e w' => ∃ v', e = .returned v' ∧ OwnS w' base v' (Wig.rjoin l (s0, s1)) ∧ Below w.heap.size w w' := by
  obtain ⟨w1, hw1⟩ : ∃ w1, w1 = w.alloc (.cells #[.int .u64 (s0 : Int), .int .u64 (s1 : Int)] 25) := ⟨_, rfl⟩
  have hsz : w1.heap.size = w.heap.size + 1 := by rw [hw1]; simp
  have k0 : w1.cell? ⟨w.heap.size, 0, none⟩ = some (.int .u64 (s0 : Int)) := by rw [hw1]; exact (new_sp w s0 s1).1
  have k1 : w1.cell? ⟨w.heap.size, 1, none⟩ = some (.int .u64 (s1 : Int)) := by rw [hw1]; exact (new_sp w s0 s1).2
  have hB1 : Below w.heap.size w w1 := by rw [hw1]; exact (Below.refl _ _).alloc (Nat.le_refl _) _
  have ho1 := ho.below hB1 (Nat.le_refl _)
  have HO := Lib.hid ho1
  have HB1 := Lib.hid hB1
  have HS := Lib.hid hsz
  have HB := Lib.hid hb
  have HK0 := Lib.hid k0
  have HK1 := Lib.hid k1
  obtain ⟨n, hn⟩ : ∃ n, n = l.length := ⟨_, rfl⟩
  have HN := Lib.hid hn
  have HM := Lib.hid (show n ≤ 100000 by omega)
  by_cases he : s1 ≤ s0
  · have R := Lib.hid (show Wig.rjoin l (s0, s1) = l by unfold Wig.rjoin; rw [if_pos he])
    have de : decide (s1 ≤ s0) = true := decide_eq_true he
    obtain ⟨A, c, hv, -, -, -⟩ := ho.rd
    rw [← hn] at hv
    subst hv
    clear ho ho1 hm hb he hsz hB1 hn
    go_enter Try.func33, Try.ntmps33
    go_wp2_with fail
    rw [← hw1]
    go_ret
    exact ⟨_, rfl, by rw [R.out]; exact HO.out, HB1.out⟩
  · have de : decide (s1 ≤ s0) = false := decide_eq_false he
    by_cases h0 : l = []
    · have R := Lib.hid (show Wig.rjoin l (s0, s1) = l ++ [(s0, s1)] by unfold Wig.rjoin; rw [if_neg (by simp only; omega), h0]; rfl)
      have dn : ((n : Int) == 0) = true := by rw [hn, h0]; rfl
      obtain ⟨A, c, hv, -, hrl, -⟩ := ho1.rd
      rw [← hn] at hv
      subst hv
      have HRL1 := Lib.hid hrl
      clear ho ho1 hm hb he hsz hB1 hn h0 hrl
      go_enter Try.func33, Try.ntmps33
      go_wp2_with fail
      rw [← hw1]
      clear hw1
      go_wp2_with fail
      clear k0 k1
      go_quiet (fail)
      go_wp2_with fail
      generalize hw2 : w1.drewN _ = w2
      have WB := Lib.hid (show Below w.heap.size w w2 from by rw [← hw2]; exact below_drewN' HB1.out _)
      have SZ := Lib.hid (show w.heap.size ≤ w2.heap.size from WB.out.size)
      have KL := Lib.hid (show w.heap.size < w2.heap.size from by rw [← hw2]; show w.heap.size < w1.heap.size; have := HS.out; omega)
      have K0 := Lib.hid (show w2.cell? ⟨w.heap.size, 0, none⟩ = some (.int .u64 (s0 : Int)) from by rw [← hw2]; exact HK0.out)
      have K1 := Lib.hid (show w2.cell? ⟨w.heap.size, 1, none⟩ = some (.int .u64 (s1 : Int)) from by rw [← hw2]; exact HK1.out)
      have HRL := Lib.hid (show RdS w2 w2.heap.size A l from by rw [← hw2]; exact HRL1.out)
      have RL := Lib.hid (fun W (h : Below w2.heap.size w2 W) => (show RdS W W.heap.size A l from (HRL.out.below h).wide h.size))
      have B1 := Lib.hid (fun o => (show Below w2.heap.size w2 (w2.alloc o).drew from ((Below.refl _ _).alloc (Nat.le_refl _) o).drew))
      have B2 := Lib.hid (fun o o' => (show Below w2.heap.size w2 ((w2.alloc o).alloc o').drew from (((Below.refl _ _).alloc (Nat.le_refl _) o).alloc (by simp) o').drew))
      have B4 := Lib.hid (fun o o' => below_two w2 o o')
      have D0 := Lib.hid (fun o => (show ((w2.alloc (.cells #[.int .u64 (s0 : Int), .int .u64 (s1 : Int)] 25)).alloc o).drew.cell? ⟨w2.heap.size, 0, none⟩ = some (.int .u64 (s0 : Int)) ∧ ((w2.alloc (.cells #[.int .u64 (s0 : Int), .int .u64 (s1 : Int)] 25)).alloc o).drew.cell? ⟨w2.heap.size, 1, none⟩ = some (.int .u64 (s1 : Int)) from two_rd w2 o s0 s1))
      have D1 := Lib.hid (fun o (_ : Unit) => (show ((w2.alloc o).alloc (.cells #[.int .u64 (s0 : Int), .int .u64 (s1 : Int)] 25)).drew.cell? ⟨w2.heap.size + 1, 0, none⟩ = some (.int .u64 (s0 : Int)) ∧ ((w2.alloc o).alloc (.cells #[.int .u64 (s0 : Int), .int .u64 (s1 : Int)] 25)).drew.cell? ⟨w2.heap.size + 1, 1, none⟩ = some (.int .u64 (s1 : Int)) from two_rd' w2 o s0 s1))
      clear hw2
      refine wp_region_held_drew (S := fun w' => Below w2.heap.size w2 w') (by kernel_rfl) ?_ (fun hHeld => ?_)
      · exact (Below.refl _ _).drew
      refine held_take (v := ?vv901) 1 rfl (by kernel_rfl) (by kernel_rfl) (by kernel_rfl) (fun _ _ _ h => h) (by rfl) ?yy901 (by assumption) ?nn901
      case yy901 =>
        intro w hSw
        (try dsimp only at hSw)
        go_simp
        try with_reducible rfl
      try simp only [Act.put, List.setIfInBounds_toArray, List.set_cons_zero, List.set_cons_succ]
      refine held_take (v := .agg #[.int .u64 (s0 : Int), .int .u64 (s1 : Int)]) 3 rfl (by kernel_rfl) (by kernel_rfl) (by kernel_rfl) (fun _ _ _ h => h) (by rfl) (fun wx hSw => by have c0 := (Below.cell hSw (p := ⟨w.heap.size, 0, none⟩) KL.out).trans K0.out; have c1 := (Below.cell hSw (p := ⟨w.heap.size, 1, none⟩) KL.out).trans K1.out; clear hSw; go_simp) (by assumption) ?_
      try simp only [Act.put, List.setIfInBounds_toArray, List.set_cons_zero, List.set_cons_succ]
      refine held_two 0 4 rfl rfl (by kernel_rfl) (by rfl) (by rfl) (fun K hK => ?_) (fun K hK => ?_)
      · go_simp
        refine hK.out _ _ ?_ (fun hHeld => ?_)
        · exact B1.out (.cells #[] 25)
        clear hK K
        try simp only [Act.put, List.setIfInBounds_toArray, List.set_cons_zero, List.set_cons_succ]
        refine held_two 2 4 rfl rfl (by kernel_rfl) (by rfl) (by rfl) (fun K hK => ?_) (fun K hK => ?_)
        · refine step_append_spans _ _ rfl w2.heap.size (.slice (some ⟨w2.heap.size, 0, none⟩) 0 0) [] l rfl (own_lit w2 w2.heap.size w2.heap.size rfl (Nat.le_refl _)) _ A c n HN.out.symm rfl (RL.out (w2.alloc (.cells #[] 25)).drew (B1.out (.cells #[] 25))) (by have := HM.out; simp; omega) (B1.out (.cells #[] 25)).size ?_
          intro v3 w3 hown3 hg3
          have R3 := Lib.hid (show OwnS w3 w2.heap.size v3 l ∧ Below w2.heap.size w2 w3 from ⟨hown3, Below.grown (B1.out (.cells #[] 25)) hg3 (B1.out (.cells #[] 25)).size (fun q hq => by cases hq; exact Nat.le_refl _)⟩)
          clear hown3 hg3
          refine hK.out _ _ ?_ (fun hHeld => ?_)
          · exact R3.out.2
          clear hK K
          try simp only [Act.put, List.setIfInBounds_toArray, List.set_cons_zero, List.set_cons_succ]
          refine held_do 4 rfl (by kernel_rfl) (by rfl) (fun K hK => ?_)
          go_simp
          refine hK.out _ _ ?_ (fun hHeld => ?_)
          · exact R3.out.2.alloc R3.out.2.size _
          clear hK K
          try simp only [Act.put, List.setIfInBounds_toArray, List.set_cons_zero, List.set_cons_succ]
          refine held_do 5 rfl (by kernel_rfl) (by rfl) (fun K hK => ?_)
          refine step_append_spans _ _ rfl w2.heap.size v3 l [(s0, s1)] rfl (World.ownsRow.alloc (w := w3) R3.out.1 _) _ _ 1 1 rfl rfl (one_rd (by simp) (new_sp w3 s0 s1).1 (new_sp w3 s0 s1).2) (by have := HM.out; have := HN.out; omega) (R3.out.2.alloc R3.out.2.size (.cells #[.int .u64 (s0 : Int), .int .u64 (s1 : Int)] 25)).size ?_
          intro v5 w5 hown5 hg5
          have R5 := Lib.hid (show OwnS w5 w2.heap.size v5 (l ++ [(s0, s1)]) ∧ Below w2.heap.size w2 w5 from ⟨hown5, Below.grown (R3.out.2.alloc R3.out.2.size (.cells #[.int .u64 (s0 : Int), .int .u64 (s1 : Int)] 25)) hg5 (R3.out.2.alloc R3.out.2.size (.cells #[.int .u64 (s0 : Int), .int .u64 (s1 : Int)] 25)).size (fun q hq => (R3.out.1.block q hq).1)⟩)
          clear hown5 hg5
          refine hK.out _ _ ?_ (fun hHeld => ?_)
          · exact R5.out.2
          clear hK K
          try simp only [Act.put, List.setIfInBounds_toArray, List.set_cons_zero, List.set_cons_succ]
          refine held_take (v := ?vv903) 6 rfl (by kernel_rfl) (by kernel_rfl) (by kernel_rfl) (fun _ _ _ h => h) (by rfl) ?yy903 (by assumption) ?nn903
          case yy903 =>
            intro w hSw
            (try dsimp only at hSw)
            go_simp
            try with_reducible rfl
          try simp only [Act.put, List.setIfInBounds_toArray, List.set_cons_zero, List.set_cons_succ]
          refine wpAnyH_done (by kernel_rfl) ?_ _
          go_wp2_with fail
          go_ret
          exact ⟨_, rfl, by rw [R.out]; exact R5.out.1.base_le (Nat.le_trans HB.out SZ.out), WB.out.trans (R5.out.2.mono SZ.out)⟩
        · go_simp
          refine hK.out _ _ ?_ (fun hHeld => ?_)
          · exact B2.out (.cells #[] 25) (.cells #[.int .u64 (s0 : Int), .int .u64 (s1 : Int)] 25)
          clear hK K
          try simp only [Act.put, List.setIfInBounds_toArray, List.set_cons_zero, List.set_cons_succ]
          refine held_do 2 rfl (by kernel_rfl) (by rfl) (fun K hK => ?_)
          refine step_append_spans _ _ rfl w2.heap.size (.slice (some ⟨w2.heap.size, 0, none⟩) 0 0) [] l rfl ((own_lit w2 w2.heap.size w2.heap.size rfl (Nat.le_refl _)).below (B4.out (.cells #[] 25) (.cells #[.int .u64 (s0 : Int), .int .u64 (s1 : Int)] 25)) (Nat.le_refl _)) _ A c n HN.out.symm rfl (RL.out ((w2.alloc (.cells #[] 25)).alloc (.cells #[.int .u64 (s0 : Int), .int .u64 (s1 : Int)] 25)).drew (B2.out (.cells #[] 25) (.cells #[.int .u64 (s0 : Int), .int .u64 (s1 : Int)] 25))) (by have := HM.out; simp; omega) (B2.out (.cells #[] 25) (.cells #[.int .u64 (s0 : Int), .int .u64 (s1 : Int)] 25)).size ?_
          intro v3 w3 hown3 hg3
          have R3 := Lib.hid (show OwnS w3 w2.heap.size v3 l ∧ Below w2.heap.size w2 w3 from ⟨hown3, Below.grown (B2.out (.cells #[] 25) (.cells #[.int .u64 (s0 : Int), .int .u64 (s1 : Int)] 25)) hg3 (B2.out (.cells #[] 25) (.cells #[.int .u64 (s0 : Int), .int .u64 (s1 : Int)] 25)).size (fun q hq => by cases hq; exact Nat.le_refl _)⟩)
          have S3 := Lib.hid (show RdS w3 w3.heap.size (some ⟨w2.heap.size + 1, 0, none⟩) [(s0, s1)] from one_rd (by have := hg3.size; simp at this; omega) (((Kept.grown hg3).cell (by simp) (by simp [Value.ownBlock])).trans (D1.out _ ()).1) (((Kept.grown hg3).cell (by simp) (by simp [Value.ownBlock])).trans (D1.out _ ()).2))
          clear hown3 hg3
          refine hK.out _ _ ?_ (fun hHeld => ?_)
          · exact R3.out.2
          clear hK K
          try simp only [Act.put, List.setIfInBounds_toArray, List.set_cons_zero, List.set_cons_succ]
          refine held_do 5 rfl (by kernel_rfl) (by rfl) (fun K hK => ?_)
          refine step_append_spans _ _ rfl w2.heap.size v3 l [(s0, s1)] rfl (R3.out.1) _ _ 1 1 rfl rfl (S3.out) (by have := HM.out; have := HN.out; omega) (R3.out.2).size ?_
          intro v5 w5 hown5 hg5
          have R5 := Lib.hid (show OwnS w5 w2.heap.size v5 (l ++ [(s0, s1)]) ∧ Below w2.heap.size w2 w5 from ⟨hown5, Below.grown (R3.out.2) hg5 (R3.out.2).size (fun q hq => (R3.out.1.block q hq).1)⟩)
          clear hown5 hg5
          refine hK.out _ _ ?_ (fun hHeld => ?_)
          · exact R5.out.2
          clear hK K
          try simp only [Act.put, List.setIfInBounds_toArray, List.set_cons_zero, List.set_cons_succ]
          refine held_take (v := ?vv905) 6 rfl (by kernel_rfl) (by kernel_rfl) (by kernel_rfl) (fun _ _ _ h => h) (by rfl) ?yy905 (by assumption) ?nn905
          case yy905 =>
            intro w hSw
            (try dsimp only at hSw)
            go_simp
            try with_reducible rfl
          try simp only [Act.put, List.setIfInBounds_toArray, List.set_cons_zero, List.set_cons_succ]
          refine wpAnyH_done (by kernel_rfl) ?_ _
          go_wp2_with fail
          go_ret
          exact ⟨_, rfl, by rw [R.out]; exact R5.out.1.base_le (Nat.le_trans HB.out SZ.out), WB.out.trans (R5.out.2.mono SZ.out)⟩
      · go_simp
        refine hK.out _ _ ?_ (fun hHeld => ?_)
        · exact B1.out (.cells #[.int .u64 (s0 : Int), .int .u64 (s1 : Int)] 25)
        clear hK K
        try simp only [Act.put, List.setIfInBounds_toArray, List.set_cons_zero, List.set_cons_succ]
        refine held_do 0 rfl (by kernel_rfl) (by rfl) (fun K hK => ?_)
        go_simp
        refine hK.out _ _ ?_ (fun hHeld => ?_)
        · exact B2.out (.cells #[.int .u64 (s0 : Int), .int .u64 (s1 : Int)] 25) (.cells #[] 25)
        clear hK K
        try simp only [Act.put, List.setIfInBounds_toArray, List.set_cons_zero, List.set_cons_succ]
        refine held_do 2 rfl (by kernel_rfl) (by rfl) (fun K hK => ?_)
        refine step_append_spans _ _ rfl w2.heap.size (.slice (some ⟨w2.heap.size + 1, 0, none⟩) 0 0) [] l rfl (own_lit (w2.alloc (.cells #[.int .u64 (s0 : Int), .int .u64 (s1 : Int)] 25)) (w2.heap.size + 1) w2.heap.size (by simp) (by omega)) _ A c n HN.out.symm rfl (RL.out ((w2.alloc (.cells #[.int .u64 (s0 : Int), .int .u64 (s1 : Int)] 25)).alloc (.cells #[] 25)).drew (B2.out (.cells #[.int .u64 (s0 : Int), .int .u64 (s1 : Int)] 25) (.cells #[] 25))) (by have := HM.out; simp; omega) (B2.out (.cells #[.int .u64 (s0 : Int), .int .u64 (s1 : Int)] 25) (.cells #[] 25)).size ?_
        intro v3 w3 hown3 hg3
        have R3 := Lib.hid (show OwnS w3 w2.heap.size v3 l ∧ Below w2.heap.size w2 w3 from ⟨hown3, Below.grown (B2.out (.cells #[.int .u64 (s0 : Int), .int .u64 (s1 : Int)] 25) (.cells #[] 25)) hg3 (B2.out (.cells #[.int .u64 (s0 : Int), .int .u64 (s1 : Int)] 25) (.cells #[] 25)).size (fun q hq => by cases hq; exact Nat.le_succ _)⟩)
        have S3 := Lib.hid (show RdS w3 w3.heap.size (some ⟨w2.heap.size, 0, none⟩) [(s0, s1)] from one_rd (by have := hg3.size; simp at this; omega) (((Kept.grown hg3).cell (by simp; omega) (by simp [Value.ownBlock])).trans (D0.out _).1) (((Kept.grown hg3).cell (by simp; omega) (by simp [Value.ownBlock])).trans (D0.out _).2))
        clear hown3 hg3
        refine hK.out _ _ ?_ (fun hHeld => ?_)
        · exact R3.out.2
        clear hK K
        try simp only [Act.put, List.setIfInBounds_toArray, List.set_cons_zero, List.set_cons_succ]
        refine held_do 5 rfl (by kernel_rfl) (by rfl) (fun K hK => ?_)
        refine step_append_spans _ _ rfl w2.heap.size v3 l [(s0, s1)] rfl (R3.out.1) _ _ 1 1 rfl rfl (S3.out) (by have := HM.out; have := HN.out; omega) (R3.out.2).size ?_
        intro v5 w5 hown5 hg5
        have R5 := Lib.hid (show OwnS w5 w2.heap.size v5 (l ++ [(s0, s1)]) ∧ Below w2.heap.size w2 w5 from ⟨hown5, Below.grown (R3.out.2) hg5 (R3.out.2).size (fun q hq => (R3.out.1.block q hq).1)⟩)
        clear hown5 hg5
        refine hK.out _ _ ?_ (fun hHeld => ?_)
        · exact R5.out.2
        clear hK K
        try simp only [Act.put, List.setIfInBounds_toArray, List.set_cons_zero, List.set_cons_succ]
        refine held_take (v := ?vv907) 6 rfl (by kernel_rfl) (by kernel_rfl) (by kernel_rfl) (fun _ _ _ h => h) (by rfl) ?yy907 (by assumption) ?nn907
        case yy907 =>
          intro w hSw
          (try dsimp only at hSw)
          go_simp
          try with_reducible rfl
        try simp only [Act.put, List.setIfInBounds_toArray, List.set_cons_zero, List.set_cons_succ]
        refine wpAnyH_done (by kernel_rfl) ?_ _
        go_wp2_with fail
        go_ret
        exact ⟨_, rfl, by rw [R.out]; exact R5.out.1.base_le (Nat.le_trans HB.out SZ.out), WB.out.trans (R5.out.2.mono SZ.out)⟩
    · obtain ⟨⟨p0, p1⟩, hp⟩ : ∃ p, l.getLast? = some p := by
        cases hh : l.getLast? with
        | none => exact absurd (by simpa using hh) h0
        | some p => exact ⟨p, rfl⟩
      have hsp := Wig.last_split hp
      obtain ⟨l', hl'⟩ : ∃ l', l' = l.dropLast := ⟨_, rfl⟩
      rw [← hl'] at hsp
      obtain ⟨j, hj⟩ : ∃ j, j = l'.length := ⟨_, rfl⟩
      have hnj : n = j + 1 := by rw [hn, hsp, List.length_append, hj]; rfl
      have hpj : l[j]? = some (p0, p1) := by rw [hsp, hj]; simp
      obtain ⟨gg, c, hv, hgb, hgl, hgc, hgz⟩ := ho1.form h0
      obtain ⟨-, m1⟩ := hgc j _ hpj
      simp only at m1
      rw [← hn] at hv
      have dn : ((n : Int) == 0) = false := by rw [hnj]; simp; omega
      have fj : IntKind.i64.wrap ((n : Int) - 1) = (j : Int) := by rw [IntKind.wrap_i64]; omega
      have fj2 : (n : Int) - 1 = (j : Int) := by omega
      have fj3 : IntKind.i64.wrap (j : Int) = (j : Int) := by rw [IntKind.wrap_i64]; omega
      have j0 : (0 : Int) ≤ (j : Int) := by omega
      have j1 : (j : Int) < (n : Int) := by omega
      have HRL1 := Lib.hid (show RdS w1 w1.heap.size (some ⟨gg, 0, none⟩) l from by
        obtain ⟨A', c', hv', -, hrl, -⟩ := ho1.rd
        rw [hv] at hv'
        injection hv' with e1 e2 e3
        rw [e1]; exact hrl)
      have HSP := Lib.hid (And.intro hsp (And.intro hj hnj))
      by_cases h2 : p1 < s0
      · have R := Lib.hid (show Wig.rjoin l (s0, s1) = l ++ [(s0, s1)] by unfold Wig.rjoin; rw [if_neg (by simp only; omega), hp]; simp only; rw [if_pos h2])
        have d2 : decide (p1 < s0) = true := decide_eq_true h2
        subst hv
        clear ho ho1 hm hb he hsz hB1 hn h0 hp hsp hl' hj hnj hpj hgb hgl hgc hgz h2
        go_enter Try.func33, Try.ntmps33
        go_wp2_with fail
        rw [← hw1]
        clear hw1
        go_wp2_with fail
        go_quiet (fail)
        clear k0 k1 m1
        go_wp2_with fail
        generalize hw2 : w1.drewN _ = w2
        have WB := Lib.hid (show Below w.heap.size w w2 from by rw [← hw2]; exact below_drewN' HB1.out _)
        have SZ := Lib.hid (show w.heap.size ≤ w2.heap.size from WB.out.size)
        have KL := Lib.hid (show w.heap.size < w2.heap.size from by rw [← hw2]; show w.heap.size < w1.heap.size; have := HS.out; omega)
        have K0 := Lib.hid (show w2.cell? ⟨w.heap.size, 0, none⟩ = some (.int .u64 (s0 : Int)) from by rw [← hw2]; exact HK0.out)
        have K1 := Lib.hid (show w2.cell? ⟨w.heap.size, 1, none⟩ = some (.int .u64 (s1 : Int)) from by rw [← hw2]; exact HK1.out)
        have HRL := Lib.hid (show RdS w2 w2.heap.size (some ⟨gg, 0, none⟩) l from by rw [← hw2]; exact HRL1.out)
        have RL := Lib.hid (fun W (h : Below w2.heap.size w2 W) => (show RdS W W.heap.size (some ⟨gg, 0, none⟩) l from (HRL.out.below h).wide h.size))
        have B1 := Lib.hid (fun o => (show Below w2.heap.size w2 (w2.alloc o).drew from ((Below.refl _ _).alloc (Nat.le_refl _) o).drew))
        have B2 := Lib.hid (fun o o' => (show Below w2.heap.size w2 ((w2.alloc o).alloc o').drew from (((Below.refl _ _).alloc (Nat.le_refl _) o).alloc (by simp) o').drew))
        have B4 := Lib.hid (fun o o' => below_two w2 o o')
        have D0 := Lib.hid (fun o => (show ((w2.alloc (.cells #[.int .u64 (s0 : Int), .int .u64 (s1 : Int)] 25)).alloc o).drew.cell? ⟨w2.heap.size, 0, none⟩ = some (.int .u64 (s0 : Int)) ∧ ((w2.alloc (.cells #[.int .u64 (s0 : Int), .int .u64 (s1 : Int)] 25)).alloc o).drew.cell? ⟨w2.heap.size, 1, none⟩ = some (.int .u64 (s1 : Int)) from two_rd w2 o s0 s1))
        have D1 := Lib.hid (fun o (_ : Unit) => (show ((w2.alloc o).alloc (.cells #[.int .u64 (s0 : Int), .int .u64 (s1 : Int)] 25)).drew.cell? ⟨w2.heap.size + 1, 0, none⟩ = some (.int .u64 (s0 : Int)) ∧ ((w2.alloc o).alloc (.cells #[.int .u64 (s0 : Int), .int .u64 (s1 : Int)] 25)).drew.cell? ⟨w2.heap.size + 1, 1, none⟩ = some (.int .u64 (s1 : Int)) from two_rd' w2 o s0 s1))
        clear hw2
        refine wp_region_held_drew (S := fun w' => Below w2.heap.size w2 w') (by kernel_rfl) ?_ (fun hHeld => ?_)
        · exact (Below.refl _ _).drew
        refine held_take (v := ?vv909) 1 rfl (by kernel_rfl) (by kernel_rfl) (by kernel_rfl) (fun _ _ _ h => h) (by rfl) ?yy909 (by assumption) ?nn909
        case yy909 =>
          intro w hSw
          (try dsimp only at hSw)
          go_simp
          try with_reducible rfl
        try simp only [Act.put, List.setIfInBounds_toArray, List.set_cons_zero, List.set_cons_succ]
        refine held_take (v := .agg #[.int .u64 (s0 : Int), .int .u64 (s1 : Int)]) 3 rfl (by kernel_rfl) (by kernel_rfl) (by kernel_rfl) (fun _ _ _ h => h) (by rfl) (fun wx hSw => by have c0 := (Below.cell hSw (p := ⟨w.heap.size, 0, none⟩) KL.out).trans K0.out; have c1 := (Below.cell hSw (p := ⟨w.heap.size, 1, none⟩) KL.out).trans K1.out; clear hSw; go_simp) (by assumption) ?_
        try simp only [Act.put, List.setIfInBounds_toArray, List.set_cons_zero, List.set_cons_succ]
        refine held_two 0 4 rfl rfl (by kernel_rfl) (by rfl) (by rfl) (fun K hK => ?_) (fun K hK => ?_)
        · go_simp
          refine hK.out _ _ ?_ (fun hHeld => ?_)
          · exact B1.out (.cells #[] 25)
          clear hK K
          try simp only [Act.put, List.setIfInBounds_toArray, List.set_cons_zero, List.set_cons_succ]
          refine held_two 2 4 rfl rfl (by kernel_rfl) (by rfl) (by rfl) (fun K hK => ?_) (fun K hK => ?_)
          · refine step_append_spans _ _ rfl w2.heap.size (.slice (some ⟨w2.heap.size, 0, none⟩) 0 0) [] l rfl (own_lit w2 w2.heap.size w2.heap.size rfl (Nat.le_refl _)) _ (some ⟨gg, 0, none⟩) c n HN.out.symm rfl (RL.out (w2.alloc (.cells #[] 25)).drew (B1.out (.cells #[] 25))) (by have := HM.out; simp; omega) (B1.out (.cells #[] 25)).size ?_
            intro v3 w3 hown3 hg3
            have R3 := Lib.hid (show OwnS w3 w2.heap.size v3 l ∧ Below w2.heap.size w2 w3 from ⟨hown3, Below.grown (B1.out (.cells #[] 25)) hg3 (B1.out (.cells #[] 25)).size (fun q hq => by cases hq; exact Nat.le_refl _)⟩)
            clear hown3 hg3
            refine hK.out _ _ ?_ (fun hHeld => ?_)
            · exact R3.out.2
            clear hK K
            try simp only [Act.put, List.setIfInBounds_toArray, List.set_cons_zero, List.set_cons_succ]
            refine held_do 4 rfl (by kernel_rfl) (by rfl) (fun K hK => ?_)
            go_simp
            refine hK.out _ _ ?_ (fun hHeld => ?_)
            · exact R3.out.2.alloc R3.out.2.size _
            clear hK K
            try simp only [Act.put, List.setIfInBounds_toArray, List.set_cons_zero, List.set_cons_succ]
            refine held_do 5 rfl (by kernel_rfl) (by rfl) (fun K hK => ?_)
            refine step_append_spans _ _ rfl w2.heap.size v3 l [(s0, s1)] rfl (World.ownsRow.alloc (w := w3) R3.out.1 _) _ _ 1 1 rfl rfl (one_rd (by simp) (new_sp w3 s0 s1).1 (new_sp w3 s0 s1).2) (by have := HM.out; have := HN.out; omega) (R3.out.2.alloc R3.out.2.size (.cells #[.int .u64 (s0 : Int), .int .u64 (s1 : Int)] 25)).size ?_
            intro v5 w5 hown5 hg5
            have R5 := Lib.hid (show OwnS w5 w2.heap.size v5 (l ++ [(s0, s1)]) ∧ Below w2.heap.size w2 w5 from ⟨hown5, Below.grown (R3.out.2.alloc R3.out.2.size (.cells #[.int .u64 (s0 : Int), .int .u64 (s1 : Int)] 25)) hg5 (R3.out.2.alloc R3.out.2.size (.cells #[.int .u64 (s0 : Int), .int .u64 (s1 : Int)] 25)).size (fun q hq => (R3.out.1.block q hq).1)⟩)
            clear hown5 hg5
            refine hK.out _ _ ?_ (fun hHeld => ?_)
            · exact R5.out.2
            clear hK K
            try simp only [Act.put, List.setIfInBounds_toArray, List.set_cons_zero, List.set_cons_succ]
            refine held_take (v := ?vv911) 6 rfl (by kernel_rfl) (by kernel_rfl) (by kernel_rfl) (fun _ _ _ h => h) (by rfl) ?yy911 (by assumption) ?nn911
            case yy911 =>
              intro w hSw
              (try dsimp only at hSw)
              go_simp
              try with_reducible rfl
            try simp only [Act.put, List.setIfInBounds_toArray, List.set_cons_zero, List.set_cons_succ]
            refine wpAnyH_done (by kernel_rfl) ?_ _
            go_wp2_with fail
            go_ret
            exact ⟨_, rfl, by rw [R.out]; exact R5.out.1.base_le (Nat.le_trans HB.out SZ.out), WB.out.trans (R5.out.2.mono SZ.out)⟩
          · go_simp
            refine hK.out _ _ ?_ (fun hHeld => ?_)
            · exact B2.out (.cells #[] 25) (.cells #[.int .u64 (s0 : Int), .int .u64 (s1 : Int)] 25)
            clear hK K
            try simp only [Act.put, List.setIfInBounds_toArray, List.set_cons_zero, List.set_cons_succ]
            refine held_do 2 rfl (by kernel_rfl) (by rfl) (fun K hK => ?_)
            refine step_append_spans _ _ rfl w2.heap.size (.slice (some ⟨w2.heap.size, 0, none⟩) 0 0) [] l rfl ((own_lit w2 w2.heap.size w2.heap.size rfl (Nat.le_refl _)).below (B4.out (.cells #[] 25) (.cells #[.int .u64 (s0 : Int), .int .u64 (s1 : Int)] 25)) (Nat.le_refl _)) _ (some ⟨gg, 0, none⟩) c n HN.out.symm rfl (RL.out ((w2.alloc (.cells #[] 25)).alloc (.cells #[.int .u64 (s0 : Int), .int .u64 (s1 : Int)] 25)).drew (B2.out (.cells #[] 25) (.cells #[.int .u64 (s0 : Int), .int .u64 (s1 : Int)] 25))) (by have := HM.out; simp; omega) (B2.out (.cells #[] 25) (.cells #[.int .u64 (s0 : Int), .int .u64 (s1 : Int)] 25)).size ?_
            intro v3 w3 hown3 hg3
            have R3 := Lib.hid (show OwnS w3 w2.heap.size v3 l ∧ Below w2.heap.size w2 w3 from ⟨hown3, Below.grown (B2.out (.cells #[] 25) (.cells #[.int .u64 (s0 : Int), .int .u64 (s1 : Int)] 25)) hg3 (B2.out (.cells #[] 25) (.cells #[.int .u64 (s0 : Int), .int .u64 (s1 : Int)] 25)).size (fun q hq => by cases hq; exact Nat.le_refl _)⟩)
            have S3 := Lib.hid (show RdS w3 w3.heap.size (some ⟨w2.heap.size + 1, 0, none⟩) [(s0, s1)] from one_rd (by have := hg3.size; simp at this; omega) (((Kept.grown hg3).cell (by simp) (by simp [Value.ownBlock])).trans (D1.out _ ()).1) (((Kept.grown hg3).cell (by simp) (by simp [Value.ownBlock])).trans (D1.out _ ()).2))
            clear hown3 hg3
            refine hK.out _ _ ?_ (fun hHeld => ?_)
            · exact R3.out.2
            clear hK K
            try simp only [Act.put, List.setIfInBounds_toArray, List.set_cons_zero, List.set_cons_succ]
            refine held_do 5 rfl (by kernel_rfl) (by rfl) (fun K hK => ?_)
            refine step_append_spans _ _ rfl w2.heap.size v3 l [(s0, s1)] rfl (R3.out.1) _ _ 1 1 rfl rfl (S3.out) (by have := HM.out; have := HN.out; omega) (R3.out.2).size ?_
            intro v5 w5 hown5 hg5
            have R5 := Lib.hid (show OwnS w5 w2.heap.size v5 (l ++ [(s0, s1)]) ∧ Below w2.heap.size w2 w5 from ⟨hown5, Below.grown (R3.out.2) hg5 (R3.out.2).size (fun q hq => (R3.out.1.block q hq).1)⟩)
            clear hown5 hg5
            refine hK.out _ _ ?_ (fun hHeld => ?_)
            · exact R5.out.2
            clear hK K
            try simp only [Act.put, List.setIfInBounds_toArray, List.set_cons_zero, List.set_cons_succ]
            refine held_take (v := ?vv913) 6 rfl (by kernel_rfl) (by kernel_rfl) (by kernel_rfl) (fun _ _ _ h => h) (by rfl) ?yy913 (by assumption) ?nn913
            case yy913 =>
              intro w hSw
              (try dsimp only at hSw)
              go_simp
              try with_reducible rfl
            try simp only [Act.put, List.setIfInBounds_toArray, List.set_cons_zero, List.set_cons_succ]
            refine wpAnyH_done (by kernel_rfl) ?_ _
            go_wp2_with fail
            go_ret
            exact ⟨_, rfl, by rw [R.out]; exact R5.out.1.base_le (Nat.le_trans HB.out SZ.out), WB.out.trans (R5.out.2.mono SZ.out)⟩
        · go_simp
          refine hK.out _ _ ?_ (fun hHeld => ?_)
          · exact B1.out (.cells #[.int .u64 (s0 : Int), .int .u64 (s1 : Int)] 25)
          clear hK K
          try simp only [Act.put, List.setIfInBounds_toArray, List.set_cons_zero, List.set_cons_succ]
          refine held_do 0 rfl (by kernel_rfl) (by rfl) (fun K hK => ?_)
          go_simp
          refine hK.out _ _ ?_ (fun hHeld => ?_)
          · exact B2.out (.cells #[.int .u64 (s0 : Int), .int .u64 (s1 : Int)] 25) (.cells #[] 25)
          clear hK K
          try simp only [Act.put, List.setIfInBounds_toArray, List.set_cons_zero, List.set_cons_succ]
          refine held_do 2 rfl (by kernel_rfl) (by rfl) (fun K hK => ?_)
          refine step_append_spans _ _ rfl w2.heap.size (.slice (some ⟨w2.heap.size + 1, 0, none⟩) 0 0) [] l rfl (own_lit (w2.alloc (.cells #[.int .u64 (s0 : Int), .int .u64 (s1 : Int)] 25)) (w2.heap.size + 1) w2.heap.size (by simp) (by omega)) _ (some ⟨gg, 0, none⟩) c n HN.out.symm rfl (RL.out ((w2.alloc (.cells #[.int .u64 (s0 : Int), .int .u64 (s1 : Int)] 25)).alloc (.cells #[] 25)).drew (B2.out (.cells #[.int .u64 (s0 : Int), .int .u64 (s1 : Int)] 25) (.cells #[] 25))) (by have := HM.out; simp; omega) (B2.out (.cells #[.int .u64 (s0 : Int), .int .u64 (s1 : Int)] 25) (.cells #[] 25)).size ?_
          intro v3 w3 hown3 hg3
          have R3 := Lib.hid (show OwnS w3 w2.heap.size v3 l ∧ Below w2.heap.size w2 w3 from ⟨hown3, Below.grown (B2.out (.cells #[.int .u64 (s0 : Int), .int .u64 (s1 : Int)] 25) (.cells #[] 25)) hg3 (B2.out (.cells #[.int .u64 (s0 : Int), .int .u64 (s1 : Int)] 25) (.cells #[] 25)).size (fun q hq => by cases hq; exact Nat.le_succ _)⟩)
          have S3 := Lib.hid (show RdS w3 w3.heap.size (some ⟨w2.heap.size, 0, none⟩) [(s0, s1)] from one_rd (by have := hg3.size; simp at this; omega) (((Kept.grown hg3).cell (by simp; omega) (by simp [Value.ownBlock])).trans (D0.out _).1) (((Kept.grown hg3).cell (by simp; omega) (by simp [Value.ownBlock])).trans (D0.out _).2))
          clear hown3 hg3
          refine hK.out _ _ ?_ (fun hHeld => ?_)
          · exact R3.out.2
          clear hK K
          try simp only [Act.put, List.setIfInBounds_toArray, List.set_cons_zero, List.set_cons_succ]
          refine held_do 5 rfl (by kernel_rfl) (by rfl) (fun K hK => ?_)
          refine step_append_spans _ _ rfl w2.heap.size v3 l [(s0, s1)] rfl (R3.out.1) _ _ 1 1 rfl rfl (S3.out) (by have := HM.out; have := HN.out; omega) (R3.out.2).size ?_
          intro v5 w5 hown5 hg5
          have R5 := Lib.hid (show OwnS w5 w2.heap.size v5 (l ++ [(s0, s1)]) ∧ Below w2.heap.size w2 w5 from ⟨hown5, Below.grown (R3.out.2) hg5 (R3.out.2).size (fun q hq => (R3.out.1.block q hq).1)⟩)
          clear hown5 hg5
          refine hK.out _ _ ?_ (fun hHeld => ?_)
          · exact R5.out.2
          clear hK K
          try simp only [Act.put, List.setIfInBounds_toArray, List.set_cons_zero, List.set_cons_succ]
          refine held_take (v := ?vv915) 6 rfl (by kernel_rfl) (by kernel_rfl) (by kernel_rfl) (fun _ _ _ h => h) (by rfl) ?yy915 (by assumption) ?nn915
          case yy915 =>
            intro w hSw
            (try dsimp only at hSw)
            go_simp
            try with_reducible rfl
          try simp only [Act.put, List.setIfInBounds_toArray, List.set_cons_zero, List.set_cons_succ]
          refine wpAnyH_done (by kernel_rfl) ?_ _
          go_wp2_with fail
          go_ret
          exact ⟨_, rfl, by rw [R.out]; exact R5.out.1.base_le (Nat.le_trans HB.out SZ.out), WB.out.trans (R5.out.2.mono SZ.out)⟩
      · have d2 : decide (p1 < s0) = false := decide_eq_false h2
        have R := Lib.hid (show Wig.rjoin l (s0, s1) = l' ++ [(p0, max p1 s1)] by unfold Wig.rjoin; rw [if_neg (by simp only; omega), hp]; simp only; rw [if_neg h2, ← hl'])
        have H0 := Lib.hid h0
        have HPJ := Lib.hid hpj
        subst hv
        clear ho ho1 hm hb he hsz hB1 hn h0 hp hsp hl' hj hnj hpj hgb hgl hgc hgz h2
        go_enter Try.func33, Try.ntmps33
        go_wp2_with fail
        rw [← hw1]
        clear hw1
        go_wp2_with fail
        go_quiet (fail)
        clear k0 k1 m1
        generalize hw2 : w1.drewN _ = w2
        have WB := Lib.hid (show Below w.heap.size w w2 from by rw [← hw2]; exact below_drewN' HB1.out _)
        have SZ := Lib.hid (show w.heap.size ≤ w2.heap.size from WB.out.size)
        have KL := Lib.hid (show w.heap.size < w2.heap.size from by rw [← hw2]; show w.heap.size < w1.heap.size; have := HS.out; omega)
        have K0 := Lib.hid (show w2.cell? ⟨w.heap.size, 0, none⟩ = some (.int .u64 (s0 : Int)) from by rw [← hw2]; exact HK0.out)
        have K1 := Lib.hid (show w2.cell? ⟨w.heap.size, 1, none⟩ = some (.int .u64 (s1 : Int)) from by rw [← hw2]; exact HK1.out)
        have HRL := Lib.hid (show RdS w2 w2.heap.size (some ⟨gg, 0, none⟩) l from by rw [← hw2]; exact HRL1.out)
        have BE := Lib.hid (show Below w2.heap.size w2 (w2.alloc (.cells #[] 25)) from (Below.refl _ _).alloc (Nat.le_refl _) _)
        clear hw2
        go_wp2_with (at_builtin; refine wpList_append_spans rfl _ _ rfl w2.heap.size _ [] l rfl (own_lit0 w2) _ (some ⟨gg, 0, none⟩) c n HN.out.symm rfl ((HRL.out.below BE.out).wide BE.out.size) (by have := HM.out; simp; omega) BE.out.size ?_)
        intro v3 w3 hown3 hg3
        have hb3 : Below w2.heap.size w2 w3 := BE.out.grown hg3 BE.out.size (fun q hq => by simp [Value.ownBlock] at hq; omega)
        have hb3' := hb3
        have hown3 : OwnS w3 w2.heap.size v3 l := hown3
        obtain ⟨g3, c3, hv3, hgb, hgl, hgc, hgz⟩ := hown3.form H0.out
        rw [← HN.out] at hv3
        subst hv3
        obtain ⟨-, m1⟩ := hgc j _ HPJ.out
        simp only [] at m1
        have m2 := hgz (j * 2 + 1)
        have R3 := Lib.hid (And.intro hown3 hb3)
        have k1 := (hb3.cell (p := ⟨w.heap.size, 1, none⟩) KL.out).trans K1.out
        have HGB := Lib.hid hgb
        clear hown3 hg3 hb3 hb3' hgb hgl hgc hgz
        by_cases h3 : p1 < s1
        · have d3 : decide (p1 < s1) = true := decide_eq_true h3
          have RR := Lib.hid (show Wig.rjoin l (s0, s1) = l' ++ [(p0, s1)] by rw [R.out, show max p1 s1 = s1 by omega])
          clear h3
          go_wp2_with fail
          go_quiet (fail)
          generalize hw4 : w3.drewN _ = w4
          have O4 := Lib.hid (show OwnS w4 w2.heap.size (.slice (some ⟨g3, 0, none⟩) n c3) l from by rw [← hw4]; exact R3.out.1)
          have B4 := Lib.hid (show Below w2.heap.size w2 w4 from by rw [← hw4]; exact below_drewN' R3.out.2 _)
          have n1 : w4.cell? ⟨g3, j * 2 + 1, none⟩ = some (.int .u64 (p1 : Int)) := by rw [← hw4]; exact m1
          have n2 : w4.frozen? ⟨g3, j * 2 + 1, none⟩ = false := by rw [← hw4]; exact m2
          have n3 : w4.cell? ⟨w.heap.size, 1, none⟩ = some (.int .u64 (s1 : Int)) := by rw [← hw4]; exact k1
          have R5 := Lib.hid (show OwnS (w4.setCell ⟨g3, j * 2 + 1, none⟩ (.int .u64 (s1 : Int))) w2.heap.size (.slice (some ⟨g3, 0, none⟩) n c3) (Wig.rjoin l (s0, s1)) from by
            have h := O4.out
            rw [HN.out] at h ⊢
            have h2 := (World.ownsRow.stored h (j * 2 + 1) (.int .u64 (s1 : Int))).1
            have hl2 : l.length = (l' ++ [(p0, s1)]).length := by rw [HSP.out.1]; simp
            rw [RR.out]
            unfold OwnS
            have e : (flat l).set (j * 2 + 1) (.int .u64 (s1 : Int)) = flat (l' ++ [(p0, s1)]) := by
              rw [HSP.out.2.1]
              have := flat_set l' (p0, p1) s1
              rw [← HSP.out.1] at this
              exact this
            rw [← e, ← hl2]
            exact h2)
          have B5 := Lib.hid (show Below w.heap.size w (w4.setCell ⟨g3, j * 2 + 1, none⟩ (.int .u64 (s1 : Int))) from WB.out.trans ((B4.out.setCell HGB.out _).mono SZ.out))
          clear hw4 m1 m2 k1
          go_wp2_with fail
          go_ret
          exact ⟨_, rfl, R5.out.base_le (Nat.le_trans HB.out SZ.out), B5.out⟩
        · have d3 : decide (p1 < s1) = false := decide_eq_false h3
          have RR := Lib.hid (show Wig.rjoin l (s0, s1) = l by rw [R.out, show max p1 s1 = p1 by omega, HSP.out.1])
          clear h3
          go_wp2_with fail
          go_quiet (fail)
          go_wp2_with fail
          go_ret
          exact ⟨_, rfl, by rw [RR.out]; exact OwnS.base_le (show OwnS (w3.drewN _) _ _ _ from R3.out.1) (Nat.le_trans HB.out SZ.out), below_drewN' (WB.out.trans (R3.out.2.mono SZ.out)) _⟩
end Go.Proofs.Ytfibbohccaknjaa
