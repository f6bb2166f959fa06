/-
  What package ledger's few, end, the closures of Take and Lost, and part return. Conditions: the lists read as packets of 64 bits, as spans.
-/
import Derived.Test.YthdhcppgpnnccaaSnA
namespace Go.Proofs.Ythdhcppgpnnccaa
open Go.ChangeShapes Go.WideShapes Go.ChangeAt Go.RowKit Go.Deep
set_option linter.unusedVariables false

theorem few_any (A : Option Addr) (n c : Nat) (r : Bool) (w : World) (hr : decide (n ≤ 50) = r) :
    Calls Try.prog 11 #[.slice A n c] w fun e w' => e = .returned (.bool r) ∧ w = w' := by
  have h1 : decide ((n : Int) ≤ 50) = r := by rw [← hr]; exact decide_eq_decide.2 (by omega)
  have H := Lib.hid hr
  clear hr
  go_enter Try.func11, Try.ntmps11
  go_wp2_with fail
  go_ret
  exact ⟨ret_bool (by first | rfl | exact h1 | exact H.out), rfl⟩

theorem end_any (pn pa pz late r : Nat) (pb : Bool) (w : World) (ha : pa < 18446744073709551616) (hl : late < 18446744073709551616) (hr : Wig.fadd pa late = r) :
    Calls Try.prog 31 #[(.agg #[.int .u64 (pn : Int), .int .u64 (pa : Int), .int .u64 (pz : Int), .bool pb]), .int .u64 (late : Int)] w fun e w' => e = .returned (.int .u64 (r : Int)) ∧ Below w.heap.size w w' := by
  have C := Lib.hid (fun w => add_any pa late w ha hl)
  rw [hr] at C
  have B := Lib.hid ((Below.refl w.heap.size w).alloc (Nat.le_refl _) (.cells #[.int .u64 (pn : Int), .int .u64 (pa : Int), .int .u64 (pz : Int), .bool pb] 37))
  clear ha hl hr
  go_enter Try.func31, Try.ntmps31
  go_wp2_with fail
  refine (C.out _).mono ?_
  rintro e _ ⟨rfl, rfl⟩
  go_wp2_with fail
  go_ret
  exact ⟨rfl, B.out⟩

/-- A cell below the heap's size, behind a packet's box. -/
theorem cell_box {w : World} {b i : Nat} {u : Value} (h : w.cell? ⟨b, i, none⟩ = some u) (o : Obj) : (w.alloc o).cell? ⟨b, i, none⟩ = some u := by
  have lb := World.block_lt_of_cell? w _ h
  simp only at lb
  rw [World.cell?_alloc_past _ _ _ lb]
  exact h

theorem takep_any (s : List Wig.Spn) (A : Option Addr) (m c b pn pa pz : Nat) (pb : Bool) (w : World) (hm : m = s.length) (hle : m ≤ 100000) (hr : RdS w w.heap.size A s) (hk : w.cell? ⟨b, 0, none⟩ = some (.slice A m c)) :
    Calls Try.prog 25 #[(.agg #[.int .u64 (pn : Int), .int .u64 (pa : Int), .int .u64 (pz : Int), .bool pb]), .pointer (some ⟨b, 0, none⟩)] w fun e w' => e = .returned (.bool (Wig.tin s ⟨pn, pa, pz, pb⟩)) ∧ Below w.heap.size w w' := by
  have hb1 : Below w.heap.size w (w.alloc (.cells #[.int .u64 (pn : Int), .int .u64 (pa : Int), .int .u64 (pz : Int), .bool pb] 37)) := (Below.refl _ _).alloc (Nat.le_refl _) _
  have B1 := Lib.hid hb1
  have k : (w.alloc (.cells #[.int .u64 (pn : Int), .int .u64 (pa : Int), .int .u64 (pz : Int), .bool pb] 37)).cell? ⟨b, 0, none⟩ = some (.slice A m c) := cell_box hk _
  have C := Lib.hid (has_any s pn (Wig.shas s pn) A m c (w.alloc (.cells #[.int .u64 (pn : Int), .int .u64 (pa : Int), .int .u64 (pz : Int), .bool pb] 37)) hm hle ((hr.below hb1).wide hb1.size) rfl)
  clear hb1 hk hr hm hle
  show Calls _ _ _ _ fun e w' => e = .returned (.bool (Wig.shas s pn)) ∧ _
  go_enter Try.func25, Try.ntmps25
  go_wp2_with fail
  refine (C.out).mono ?_
  rintro e w2 ⟨rfl, hb⟩
  have B2 := Lib.hid (B1.out.trans (hb.mono B1.out.size))
  clear hb k
  go_wp2_with fail
  go_ret
  exact ⟨rfl, B2.out⟩

theorem behind_any (next b pn pa pz : Nat) (pb : Bool) (w : World) (hp : pn < 18446744073709551616) (hk : w.cell? ⟨b, 0, none⟩ = some (.int .u64 (next : Int))) :
    Calls Try.prog 29 #[(.agg #[.int .u64 (pn : Int), .int .u64 (pa : Int), .int .u64 (pz : Int), .bool pb]), .pointer (some ⟨b, 0, none⟩)] w fun e w' => e = .returned (.bool (Wig.tback next ⟨pn, pa, pz, pb⟩)) ∧ Below w.heap.size w w' := by
  obtain ⟨w1, hw1⟩ : ∃ w1, w1 = w.alloc (.cells #[.int .u64 (pn : Int), .int .u64 (pa : Int), .int .u64 (pz : Int), .bool pb] 37) := ⟨_, rfl⟩
  have hb1 : Below w.heap.size w w1 := by rw [hw1]; exact (Below.refl _ _).alloc (Nat.le_refl _) _
  have B1 := Lib.hid (fun q => below_drewN' hb1 q)
  have X1 := Lib.hid (show BxT w.heap.size pn pa pz pb w1 by rw [hw1]; exact BxT.new w _ _ _ _)
  have k : w1.cell? ⟨b, 0, none⟩ = some (.int .u64 (next : Int)) := by rw [hw1]; exact cell_box hk _
  obtain ⟨z, hz⟩ : ∃ z, Wig.fadd pn 1 = z := ⟨_, rfl⟩
  have C := Lib.hid (fun w => show Calls Try.prog 28 #[.int .u64 (pn : Int), .int .u64 1] w (fun e w' => e = .returned (.int .u64 (z : Int)) ∧ w = w') by rw [← hz]; exact add_any pn 1 w hp (by omega))
  obtain ⟨k0, k1, k2, k3⟩ := X1.out
  obtain ⟨r, hr⟩ : ∃ r, r = Wig.tback next ⟨pn, pa, pz, pb⟩ := ⟨_, rfl⟩
  rw [← hr]
  have D : decide (z < next) = r := by rw [hr, ← hz]; rfl
  have HD := Lib.hid D
  clear hb1 hk hp hz hr
  go_enter Try.func29, Try.ntmps29
  go_wp2_with fail
  rw [← hw1]
  clear hw1
  go_quiet (first | (go_at_call 28; exact quiet_eq (C.out _)) | fail)
  go_wp2_with fail
  go_ret
  exact ⟨ret_bool (by first | rfl | exact HD.out), B1.out _⟩

/-- What the closure of Lost holds on to: the closure behind, next, late, now. -/
structure Caps (bf bn bl bo next late now : Nat) (w : World) : Prop where
  f : w.cell? ⟨bf, 0, none⟩ = some (.func (.func 29) #[] #[.pointer (some ⟨bn, 0, none⟩)])
  n : w.cell? ⟨bn, 0, none⟩ = some (.int .u64 (next : Int))
  l : w.cell? ⟨bl, 0, none⟩ = some (.int .u64 (late : Int))
  o : w.cell? ⟨bo, 0, none⟩ = some (.int .u64 (now : Int))
theorem Caps.keeps {bf bn bl bo next late now B : Nat} {w w' : World} (h : Caps bf bn bl bo next late now w) (hb : Below B w w') (h1 : bf < B) (h2 : bn < B) (h3 : bl < B) (h4 : bo < B) : Caps bf bn bl bo next late now w' :=
  ⟨(hb.cell h1).trans h.f, (hb.cell h2).trans h.n, (hb.cell h3).trans h.l, (hb.cell h4).trans h.o⟩
theorem Caps.below {bf bn bl bo next late now : Nat} {w w' : World} (h : Caps bf bn bl bo next late now w) (hb : Below w.heap.size w w') : Caps bf bn bl bo next late now w' :=
  h.keeps hb (World.block_lt_of_cell? w _ h.f) (World.block_lt_of_cell? w _ h.n) (World.block_lt_of_cell? w _ h.l) (World.block_lt_of_cell? w _ h.o)
theorem Caps.drew {bf bn bl bo next late now : Nat} {w : World} (h : Caps bf bn bl bo next late now w) : Caps bf bn bl bo next late now w.drew := ⟨h.f, h.n, h.l, h.o⟩

/-- At a drawn region's start, and behind each call: the box, what is held on to, the world below. -/
def HeldL (q pn pa pz : Nat) (pb : Bool) (bf bn bl bo next late now : Nat) (w1 w' : World) : Prop := BxT q pn pa pz pb w' ∧ Caps bf bn bl bo next late now w' ∧ Below w1.heap.size w1 w'
theorem held_l {q pn pa pz bf bn bl bo next late now : Nat} {pb : Bool} {w1 w' : World} (x : BxT q pn pa pz pb w1) (hq : q < w1.heap.size) (h : Caps bf bn bl bo next late now w1) (k : Below w1.heap.size w1 w') : HeldL q pn pa pz pb bf bn bl bo next late now w1 w' := ⟨x.below k hq, h.below k, k⟩

set_option maxHeartbeats 4000000 in
theorem lostp_any (next late now bf bn bl bo pn pa pz : Nat) (pb : Bool) (w : World) (hok : Wig.Snt.Ok ⟨pn, pa, pz, pb⟩) (hl : late < 18446744073709551616) (hc : Caps bf bn bl bo next late now w) :
    Calls Try.prog 30 #[(.agg #[.int .u64 (pn : Int), .int .u64 (pa : Int), .int .u64 (pz : Int), .bool pb]), .pointer (some ⟨bf, 0, none⟩), .pointer (some ⟨bn, 0, none⟩), .pointer (some ⟨bl, 0, none⟩), .pointer (some ⟨bo, 0, none⟩)] w fun e w' => e = .returned (.bool (Wig.tlost next now late ⟨pn, pa, pz, pb⟩)) ∧ Below w.heap.size w w' := by
  obtain ⟨w1, hw1⟩ : ∃ w1, w1 = w.alloc (.cells #[.int .u64 (pn : Int), .int .u64 (pa : Int), .int .u64 (pz : Int), .bool pb] 37) := ⟨_, rfl⟩
  have hb1 : Below w.heap.size w w1 := by rw [hw1]; exact (Below.refl _ _).alloc (Nat.le_refl _) _
  have B1 := Lib.hid hb1
  have X1 := Lib.hid (show BxT w.heap.size pn pa pz pb w1 by rw [hw1]; exact BxT.new w _ _ _ _)
  have S1 := Lib.hid (show w.heap.size < w1.heap.size by rw [hw1]; simp)
  have K1 := Lib.hid (hc.below hb1)
  obtain ⟨hp, ha, -⟩ := hok
  simp only at hp ha
  obtain ⟨r1, hr1⟩ : ∃ r1, Wig.tback next ⟨pn, pa, pz, pb⟩ = r1 := ⟨_, rfl⟩
  obtain ⟨z, hz⟩ : ∃ z, Wig.fadd pn 4 = z := ⟨_, rfl⟩
  obtain ⟨y, hy⟩ : ∃ y, Wig.fadd pa late = y := ⟨_, rfl⟩
  have CB := Lib.hid (fun w (h : w.cell? ⟨bn, 0, none⟩ = some (.int .u64 (next : Int))) => behind_any next bn pn pa pz pb w hp h)
  rw [hr1] at CB
  have CA := Lib.hid (fun w => show Calls Try.prog 28 #[.int .u64 (pn : Int), .int .u64 4] w (fun e w' => e = .returned (.int .u64 (z : Int)) ∧ w = w') by rw [← hz]; exact add_any pn 4 w hp (by omega))
  have CE := Lib.hid (fun w => end_any pn pa pz late y pb w ha hl hy)
  have RES : Wig.tlost next now late ⟨pn, pa, pz, pb⟩ = (r1 && (decide (z ≤ next) || decide (y ≤ now))) := by rw [← hr1, ← hz, ← hy]; rfl
  rw [RES]
  clear hb1 hc hp ha hl hr1 hz hy RES
  cases r1 with
  | false =>
    go_enter Try.func30, Try.ntmps30
    go_wp2_with fail
    rw [← hw1]
    clear hw1
    refine wp_region_held_drew (S := fun w' => HeldL w.heap.size pn pa pz pb bf bn bl bo next late now w1 w') (by kernel_rfl) ?_ (fun hHeld => ?_)
    · exact held_l X1.out S1.out K1.out (Below.refl _ _).drew
    refine held_take (v := .func (.func 29) #[] #[.pointer (some ⟨bn, 0, none⟩)]) 0 rfl (by kernel_rfl) (by kernel_rfl) (by kernel_rfl) (fun _ _ _ h => h) (by rfl) (fun wx hSw => by obtain ⟨-, ⟨f, n, l, o⟩, -⟩ := hSw; go_simp) (by assumption) ?_
    try simp only [Act.put, List.setIfInBounds_toArray, List.set_cons_zero, List.set_cons_succ]
    refine held_take (v := .agg #[.int .u64 (pn : Int), .int .u64 (pa : Int), .int .u64 (pz : Int), .bool pb]) 1 rfl (by kernel_rfl) (by kernel_rfl) (by kernel_rfl) (fun _ _ _ h => h) (by rfl) (fun wx hSw => by obtain ⟨⟨c0, c1, c2, c3⟩, -, -⟩ := hSw; go_simp) (by assumption) ?_
    try simp only [Act.put, List.setIfInBounds_toArray, List.set_cons_zero, List.set_cons_succ]
    refine held_do 2 rfl (by kernel_rfl) (by rfl) (fun K hK => ?_)
    go_wp2_with (go_at_call 29; refine (CB.out _ hHeld.2.1.n).mono ?_; rintro e w2 ⟨rfl, hb2⟩; have K2 := Lib.hid (Below.trans hHeld.2.2 (hb2.mono hHeld.2.2.size)); clear hb2)
    refine hK.out _ _ ?_ (fun hHeld => ?_)
    · exact held_l X1.out S1.out K1.out K2.out
    clear hK K
    try simp only [Act.put, List.setIfInBounds_toArray, List.set_cons_zero, List.set_cons_succ]
    refine held_take (v := ?vv504) 3 rfl (by kernel_rfl) (by kernel_rfl) (by kernel_rfl) (fun _ _ _ h => h) (by rfl) ?yy504 (by assumption) ?nn504
    case yy504 =>
      intro w hSw
      (try dsimp only at hSw)
      go_simp
      try with_reducible rfl
    try simp only [Act.put, List.setIfInBounds_toArray, List.set_cons_zero, List.set_cons_succ]
    refine held_skip 4 rfl (by kernel_rfl) (by kernel_rfl) (by kernel_rfl) (fun _ _ _ h => h) (by rfl) (by assumption) ?_
    try simp only [Act.put, List.setIfInBounds_toArray, List.set_cons_zero, List.set_cons_succ]
    refine held_skip 5 rfl (by kernel_rfl) (by kernel_rfl) (by kernel_rfl) (fun _ _ _ h => h) (by rfl) (by assumption) ?_
    try simp only [Act.put, List.setIfInBounds_toArray, List.set_cons_zero, List.set_cons_succ]
    refine held_skip 6 rfl (by kernel_rfl) (by kernel_rfl) (by kernel_rfl) (fun _ _ _ h => h) (by rfl) (by assumption) ?_
    try simp only [Act.put, List.setIfInBounds_toArray, List.set_cons_zero, List.set_cons_succ]
    refine held_skip 7 rfl (by kernel_rfl) (by kernel_rfl) (by kernel_rfl) (fun _ _ _ h => h) (by rfl) (by assumption) ?_
    try simp only [Act.put, List.setIfInBounds_toArray, List.set_cons_zero, List.set_cons_succ]
    refine held_skip 8 rfl (by kernel_rfl) (by kernel_rfl) (by kernel_rfl) (fun _ _ _ h => h) (by rfl) (by assumption) ?_
    try simp only [Act.put, List.setIfInBounds_toArray, List.set_cons_zero, List.set_cons_succ]
    refine held_skip 9 rfl (by kernel_rfl) (by kernel_rfl) (by kernel_rfl) (fun _ _ _ h => h) (by rfl) (by assumption) ?_
    try simp only [Act.put, List.setIfInBounds_toArray, List.set_cons_zero, List.set_cons_succ]
    refine held_skip 10 rfl (by kernel_rfl) (by kernel_rfl) (by kernel_rfl) (fun _ _ _ h => h) (by rfl) (by assumption) ?_
    try simp only [Act.put, List.setIfInBounds_toArray, List.set_cons_zero, List.set_cons_succ]
    refine held_skip 11 rfl (by kernel_rfl) (by kernel_rfl) (by kernel_rfl) (fun _ _ _ h => h) (by rfl) (by assumption) ?_
    try simp only [Act.put, List.setIfInBounds_toArray, List.set_cons_zero, List.set_cons_succ]
    refine held_skip 12 rfl (by kernel_rfl) (by kernel_rfl) (by kernel_rfl) (fun _ _ _ h => h) (by rfl) (by assumption) ?_
    try simp only [Act.put, List.setIfInBounds_toArray, List.set_cons_zero, List.set_cons_succ]
    refine held_skip 13 rfl (by kernel_rfl) (by kernel_rfl) (by kernel_rfl) (fun _ _ _ h => h) (by rfl) (by assumption) ?_
    try simp only [Act.put, List.setIfInBounds_toArray, List.set_cons_zero, List.set_cons_succ]
    refine held_skip 14 rfl (by kernel_rfl) (by kernel_rfl) (by kernel_rfl) (fun _ _ _ h => h) (by rfl) (by assumption) ?_
    try simp only [Act.put, List.setIfInBounds_toArray, List.set_cons_zero, List.set_cons_succ]
    refine held_skip 15 rfl (by kernel_rfl) (by kernel_rfl) (by kernel_rfl) (fun _ _ _ h => h) (by rfl) (by assumption) ?_
    try simp only [Act.put, List.setIfInBounds_toArray, List.set_cons_zero, List.set_cons_succ]
    refine held_take (v := ?vv517) 16 rfl (by kernel_rfl) (by kernel_rfl) (by kernel_rfl) (fun _ _ _ h => h) (by rfl) ?yy517 (by assumption) ?nn517
    case yy517 =>
      intro w hSw
      (try dsimp only at hSw)
      go_simp
      try with_reducible rfl
    try simp only [Act.put, List.setIfInBounds_toArray, List.set_cons_zero, List.set_cons_succ]
    refine held_take (v := ?vv518) 17 rfl (by kernel_rfl) (by kernel_rfl) (by kernel_rfl) (fun _ _ _ h => h) (by rfl) ?yy518 (by assumption) ?nn518
    case yy518 =>
      intro w hSw
      (try dsimp only at hSw)
      go_simp
      try with_reducible rfl
    try simp only [Act.put, List.setIfInBounds_toArray, List.set_cons_zero, List.set_cons_succ]
    refine wpAnyH_done (by kernel_rfl) ?_ _
    have BZ := Lib.hid (B1.out.trans (hHeld.2.2.mono B1.out.size))
    clear hHeld
    go_wp2_with fail
    go_ret
    exact ⟨ret_bool (by simp), BZ.out⟩
  | true =>
    by_cases h4 : z ≤ next
    · have d4 : decide (z ≤ next) = true := decide_eq_true h4
      rw [d4]
      clear h4
      go_enter Try.func30, Try.ntmps30
      go_wp2_with fail
      rw [← hw1]
      clear hw1
      refine wp_region_held_drew (S := fun w' => HeldL w.heap.size pn pa pz pb bf bn bl bo next late now w1 w') (by kernel_rfl) ?_ (fun hHeld => ?_)
      · exact held_l X1.out S1.out K1.out (Below.refl _ _).drew
      refine held_take (v := .func (.func 29) #[] #[.pointer (some ⟨bn, 0, none⟩)]) 0 rfl (by kernel_rfl) (by kernel_rfl) (by kernel_rfl) (fun _ _ _ h => h) (by rfl) (fun wx hSw => by obtain ⟨-, ⟨f, n, l, o⟩, -⟩ := hSw; go_simp) (by assumption) ?_
      try simp only [Act.put, List.setIfInBounds_toArray, List.set_cons_zero, List.set_cons_succ]
      refine held_take (v := .agg #[.int .u64 (pn : Int), .int .u64 (pa : Int), .int .u64 (pz : Int), .bool pb]) 1 rfl (by kernel_rfl) (by kernel_rfl) (by kernel_rfl) (fun _ _ _ h => h) (by rfl) (fun wx hSw => by obtain ⟨⟨c0, c1, c2, c3⟩, -, -⟩ := hSw; go_simp) (by assumption) ?_
      try simp only [Act.put, List.setIfInBounds_toArray, List.set_cons_zero, List.set_cons_succ]
      refine held_do 2 rfl (by kernel_rfl) (by rfl) (fun K hK => ?_)
      go_wp2_with (go_at_call 29; refine (CB.out _ hHeld.2.1.n).mono ?_; rintro e w2 ⟨rfl, hb2⟩; have K2 := Lib.hid (Below.trans hHeld.2.2 (hb2.mono hHeld.2.2.size)); clear hb2)
      refine hK.out _ _ ?_ (fun hHeld => ?_)
      · exact held_l X1.out S1.out K1.out K2.out
      clear hK K
      try simp only [Act.put, List.setIfInBounds_toArray, List.set_cons_zero, List.set_cons_succ]
      refine held_take (v := ?vv523) 3 rfl (by kernel_rfl) (by kernel_rfl) (by kernel_rfl) (fun _ _ _ h => h) (by rfl) ?yy523 (by assumption) ?nn523
      case yy523 =>
        intro w hSw
        (try dsimp only at hSw)
        go_simp
        try with_reducible rfl
      try simp only [Act.put, List.setIfInBounds_toArray, List.set_cons_zero, List.set_cons_succ]
      refine held_take (v := ?vv524) 4 rfl (by kernel_rfl) (by kernel_rfl) (by kernel_rfl) (fun _ _ _ h => h) (by rfl) ?yy524 (by assumption) ?nn524
      case yy524 =>
        intro w hSw
        (try dsimp only at hSw)
        go_simp
        try with_reducible rfl
      try simp only [Act.put, List.setIfInBounds_toArray, List.set_cons_zero, List.set_cons_succ]
      refine held_take (v := .int .u64 (pn : Int)) 5 rfl (by kernel_rfl) (by kernel_rfl) (by kernel_rfl) (fun _ _ _ h => h) (by rfl) (fun wx hSw => by obtain ⟨⟨c0, c1, c2, c3⟩, -, -⟩ := hSw; go_simp) (by assumption) ?_
      try simp only [Act.put, List.setIfInBounds_toArray, List.set_cons_zero, List.set_cons_succ]
      refine held_take (v := .int .u64 (next : Int)) 7 rfl (by kernel_rfl) (by kernel_rfl) (by kernel_rfl) (fun _ _ _ h => h) (by rfl) (fun wx hSw => by obtain ⟨-, ⟨f, n, l, o⟩, -⟩ := hSw; go_simp) (by assumption) ?_
      try simp only [Act.put, List.setIfInBounds_toArray, List.set_cons_zero, List.set_cons_succ]
      refine held_do 6 rfl (by kernel_rfl) (by rfl) (fun K hK => ?_)
      go_wp2_with (go_at_call 28; refine (CA.out _).mono ?_; rintro e _ ⟨rfl, rfl⟩)
      refine hK.out _ _ ?_ (fun hHeld => ?_)
      · exact hHeld
      clear hK K
      try simp only [Act.put, List.setIfInBounds_toArray, List.set_cons_zero, List.set_cons_succ]
      refine held_take (v := ?vv528) 8 rfl (by kernel_rfl) (by kernel_rfl) (by kernel_rfl) (fun _ _ _ h => h) (by rfl) ?yy528 (by assumption) ?nn528
      case yy528 =>
        intro w hSw
        (try dsimp only at hSw)
        go_simp
        try with_reducible rfl
      try simp only [Act.put, List.setIfInBounds_toArray, List.set_cons_zero, List.set_cons_succ]
      refine held_take (v := ?vv529) 9 rfl (by kernel_rfl) (by kernel_rfl) (by kernel_rfl) (fun _ _ _ h => h) (by rfl) ?yy529 (by assumption) ?nn529
      case yy529 =>
        intro w hSw
        (try dsimp only at hSw)
        go_simp
        try with_reducible rfl
      try simp only [Act.put, List.setIfInBounds_toArray, List.set_cons_zero, List.set_cons_succ]
      refine held_skip 10 rfl (by kernel_rfl) (by kernel_rfl) (by kernel_rfl) (fun _ _ _ h => h) (by rfl) (by assumption) ?_
      try simp only [Act.put, List.setIfInBounds_toArray, List.set_cons_zero, List.set_cons_succ]
      refine held_skip 11 rfl (by kernel_rfl) (by kernel_rfl) (by kernel_rfl) (fun _ _ _ h => h) (by rfl) (by assumption) ?_
      try simp only [Act.put, List.setIfInBounds_toArray, List.set_cons_zero, List.set_cons_succ]
      refine held_skip 12 rfl (by kernel_rfl) (by kernel_rfl) (by kernel_rfl) (fun _ _ _ h => h) (by rfl) (by assumption) ?_
      try simp only [Act.put, List.setIfInBounds_toArray, List.set_cons_zero, List.set_cons_succ]
      refine held_skip 13 rfl (by kernel_rfl) (by kernel_rfl) (by kernel_rfl) (fun _ _ _ h => h) (by rfl) (by assumption) ?_
      try simp only [Act.put, List.setIfInBounds_toArray, List.set_cons_zero, List.set_cons_succ]
      refine held_skip 14 rfl (by kernel_rfl) (by kernel_rfl) (by kernel_rfl) (fun _ _ _ h => h) (by rfl) (by assumption) ?_
      try simp only [Act.put, List.setIfInBounds_toArray, List.set_cons_zero, List.set_cons_succ]
      refine held_take (v := ?vv535) 15 rfl (by kernel_rfl) (by kernel_rfl) (by kernel_rfl) (fun _ _ _ h => h) (by rfl) ?yy535 (by assumption) ?nn535
      case yy535 =>
        intro w hSw
        (try dsimp only at hSw)
        go_simp
        try with_reducible rfl
      try simp only [Act.put, List.setIfInBounds_toArray, List.set_cons_zero, List.set_cons_succ]
      refine held_take (v := ?vv536) 16 rfl (by kernel_rfl) (by kernel_rfl) (by kernel_rfl) (fun _ _ _ h => h) (by rfl) ?yy536 (by assumption) ?nn536
      case yy536 =>
        intro w hSw
        (try dsimp only at hSw)
        go_simp
        try with_reducible rfl
      try simp only [Act.put, List.setIfInBounds_toArray, List.set_cons_zero, List.set_cons_succ]
      refine held_take (v := ?vv537) 17 rfl (by kernel_rfl) (by kernel_rfl) (by kernel_rfl) (fun _ _ _ h => h) (by rfl) ?yy537 (by assumption) ?nn537
      case yy537 =>
        intro w hSw
        (try dsimp only at hSw)
        go_simp
        try with_reducible rfl
      try simp only [Act.put, List.setIfInBounds_toArray, List.set_cons_zero, List.set_cons_succ]
      refine wpAnyH_done (by kernel_rfl) ?_ _
      have BZ := Lib.hid (B1.out.trans (hHeld.2.2.mono B1.out.size))
      clear hHeld
      go_wp2_with fail
      go_ret
      exact ⟨ret_bool (by simp), BZ.out⟩
    · have d4 : decide (z ≤ next) = false := decide_eq_false h4
      rw [d4]
      clear h4
      go_enter Try.func30, Try.ntmps30
      go_wp2_with fail
      rw [← hw1]
      clear hw1
      refine wp_region_held_drew (S := fun w' => HeldL w.heap.size pn pa pz pb bf bn bl bo next late now w1 w') (by kernel_rfl) ?_ (fun hHeld => ?_)
      · exact held_l X1.out S1.out K1.out (Below.refl _ _).drew
      refine held_take (v := .func (.func 29) #[] #[.pointer (some ⟨bn, 0, none⟩)]) 0 rfl (by kernel_rfl) (by kernel_rfl) (by kernel_rfl) (fun _ _ _ h => h) (by rfl) (fun wx hSw => by obtain ⟨-, ⟨f, n, l, o⟩, -⟩ := hSw; go_simp) (by assumption) ?_
      try simp only [Act.put, List.setIfInBounds_toArray, List.set_cons_zero, List.set_cons_succ]
      refine held_take (v := .agg #[.int .u64 (pn : Int), .int .u64 (pa : Int), .int .u64 (pz : Int), .bool pb]) 1 rfl (by kernel_rfl) (by kernel_rfl) (by kernel_rfl) (fun _ _ _ h => h) (by rfl) (fun wx hSw => by obtain ⟨⟨c0, c1, c2, c3⟩, -, -⟩ := hSw; go_simp) (by assumption) ?_
      try simp only [Act.put, List.setIfInBounds_toArray, List.set_cons_zero, List.set_cons_succ]
      refine held_do 2 rfl (by kernel_rfl) (by rfl) (fun K hK => ?_)
      go_wp2_with (go_at_call 29; refine (CB.out _ hHeld.2.1.n).mono ?_; rintro e w2 ⟨rfl, hb2⟩; have K2 := Lib.hid (Below.trans hHeld.2.2 (hb2.mono hHeld.2.2.size)); clear hb2)
      refine hK.out _ _ ?_ (fun hHeld => ?_)
      · exact held_l X1.out S1.out K1.out K2.out
      clear hK K
      try simp only [Act.put, List.setIfInBounds_toArray, List.set_cons_zero, List.set_cons_succ]
      refine held_take (v := ?vv542) 3 rfl (by kernel_rfl) (by kernel_rfl) (by kernel_rfl) (fun _ _ _ h => h) (by rfl) ?yy542 (by assumption) ?nn542
      case yy542 =>
        intro w hSw
        (try dsimp only at hSw)
        go_simp
        try with_reducible rfl
      try simp only [Act.put, List.setIfInBounds_toArray, List.set_cons_zero, List.set_cons_succ]
      refine held_take (v := ?vv543) 4 rfl (by kernel_rfl) (by kernel_rfl) (by kernel_rfl) (fun _ _ _ h => h) (by rfl) ?yy543 (by assumption) ?nn543
      case yy543 =>
        intro w hSw
        (try dsimp only at hSw)
        go_simp
        try with_reducible rfl
      try simp only [Act.put, List.setIfInBounds_toArray, List.set_cons_zero, List.set_cons_succ]
      refine held_take (v := .int .u64 (pn : Int)) 5 rfl (by kernel_rfl) (by kernel_rfl) (by kernel_rfl) (fun _ _ _ h => h) (by rfl) (fun wx hSw => by obtain ⟨⟨c0, c1, c2, c3⟩, -, -⟩ := hSw; go_simp) (by assumption) ?_
      try simp only [Act.put, List.setIfInBounds_toArray, List.set_cons_zero, List.set_cons_succ]
      refine held_take (v := .int .u64 (next : Int)) 7 rfl (by kernel_rfl) (by kernel_rfl) (by kernel_rfl) (fun _ _ _ h => h) (by rfl) (fun wx hSw => by obtain ⟨-, ⟨f, n, l, o⟩, -⟩ := hSw; go_simp) (by assumption) ?_
      try simp only [Act.put, List.setIfInBounds_toArray, List.set_cons_zero, List.set_cons_succ]
      refine held_do 6 rfl (by kernel_rfl) (by rfl) (fun K hK => ?_)
      go_wp2_with (go_at_call 28; refine (CA.out _).mono ?_; rintro e _ ⟨rfl, rfl⟩)
      refine hK.out _ _ ?_ (fun hHeld => ?_)
      · exact hHeld
      clear hK K
      try simp only [Act.put, List.setIfInBounds_toArray, List.set_cons_zero, List.set_cons_succ]
      refine held_take (v := ?vv547) 8 rfl (by kernel_rfl) (by kernel_rfl) (by kernel_rfl) (fun _ _ _ h => h) (by rfl) ?yy547 (by assumption) ?nn547
      case yy547 =>
        intro w hSw
        (try dsimp only at hSw)
        go_simp
        try with_reducible rfl
      try simp only [Act.put, List.setIfInBounds_toArray, List.set_cons_zero, List.set_cons_succ]
      refine held_take (v := ?vv548) 9 rfl (by kernel_rfl) (by kernel_rfl) (by kernel_rfl) (fun _ _ _ h => h) (by rfl) ?yy548 (by assumption) ?nn548
      case yy548 =>
        intro w hSw
        (try dsimp only at hSw)
        go_simp
        try with_reducible rfl
      try simp only [Act.put, List.setIfInBounds_toArray, List.set_cons_zero, List.set_cons_succ]
      refine held_take (v := .agg #[.int .u64 (pn : Int), .int .u64 (pa : Int), .int .u64 (pz : Int), .bool pb]) 10 rfl (by kernel_rfl) (by kernel_rfl) (by kernel_rfl) (fun _ _ _ h => h) (by rfl) (fun wx hSw => by obtain ⟨⟨c0, c1, c2, c3⟩, -, -⟩ := hSw; go_simp) (by assumption) ?_
      try simp only [Act.put, List.setIfInBounds_toArray, List.set_cons_zero, List.set_cons_succ]
      refine held_take (v := .int .u64 (late : Int)) 11 rfl (by kernel_rfl) (by kernel_rfl) (by kernel_rfl) (fun _ _ _ h => h) (by rfl) (fun wx hSw => by obtain ⟨-, ⟨f, n, l, o⟩, -⟩ := hSw; go_simp) (by assumption) ?_
      try simp only [Act.put, List.setIfInBounds_toArray, List.set_cons_zero, List.set_cons_succ]
      refine held_take (v := .int .u64 (now : Int)) 13 rfl (by kernel_rfl) (by kernel_rfl) (by kernel_rfl) (fun _ _ _ h => h) (by rfl) (fun wx hSw => by obtain ⟨-, ⟨f, n, l, o⟩, -⟩ := hSw; go_simp) (by assumption) ?_
      try simp only [Act.put, List.setIfInBounds_toArray, List.set_cons_zero, List.set_cons_succ]
      refine held_do 12 rfl (by kernel_rfl) (by rfl) (fun K hK => ?_)
      go_wp2_with (go_at_call 31; refine (CE.out _).mono ?_; rintro e w4 ⟨rfl, hb4⟩; have K4 := Lib.hid (Below.trans hHeld.2.2 (hb4.mono hHeld.2.2.size)); clear hb4)
      refine hK.out _ _ ?_ (fun hHeld => ?_)
      · exact held_l X1.out S1.out K1.out K4.out
      clear hK K
      try simp only [Act.put, List.setIfInBounds_toArray, List.set_cons_zero, List.set_cons_succ]
      refine held_take (v := ?vv553) 14 rfl (by kernel_rfl) (by kernel_rfl) (by kernel_rfl) (fun _ _ _ h => h) (by rfl) ?yy553 (by assumption) ?nn553
      case yy553 =>
        intro w hSw
        (try dsimp only at hSw)
        go_simp
        try with_reducible rfl
      try simp only [Act.put, List.setIfInBounds_toArray, List.set_cons_zero, List.set_cons_succ]
      refine held_take (v := ?vv554) 15 rfl (by kernel_rfl) (by kernel_rfl) (by kernel_rfl) (fun _ _ _ h => h) (by rfl) ?yy554 (by assumption) ?nn554
      case yy554 =>
        intro w hSw
        (try dsimp only at hSw)
        go_simp
        try with_reducible rfl
      try simp only [Act.put, List.setIfInBounds_toArray, List.set_cons_zero, List.set_cons_succ]
      refine held_take (v := ?vv555) 16 rfl (by kernel_rfl) (by kernel_rfl) (by kernel_rfl) (fun _ _ _ h => h) (by rfl) ?yy555 (by assumption) ?nn555
      case yy555 =>
        intro w hSw
        (try dsimp only at hSw)
        go_simp
        try with_reducible rfl
      try simp only [Act.put, List.setIfInBounds_toArray, List.set_cons_zero, List.set_cons_succ]
      refine held_take (v := ?vv556) 17 rfl (by kernel_rfl) (by kernel_rfl) (by kernel_rfl) (fun _ _ _ h => h) (by rfl) ?yy556 (by assumption) ?nn556
      case yy556 =>
        intro w hSw
        (try dsimp only at hSw)
        go_simp
        try with_reducible rfl
      try simp only [Act.put, List.setIfInBounds_toArray, List.set_cons_zero, List.set_cons_succ]
      refine wpAnyH_done (by kernel_rfl) ?_ _
      have BZ := Lib.hid (B1.out.trans (hHeld.2.2.mono B1.out.size))
      clear hHeld
      go_wp2_with fail
      go_ret
      exact ⟨ret_bool (by simp), BZ.out⟩

/-- A test of one packet as part is handed it: at any world where below block B nothing has turned since w it returns g of the packet. -/
def TestsT (w : World) (B : Nat) (F : FuncId) (C : Array Value) (g : Wig.Snt → Bool) : Prop :=
  ∀ (w' : World) (pn pa pz : Nat) (pb : Bool), Wig.Snt.Ok ⟨pn, pa, pz, pb⟩ → Below B w w' → B ≤ w'.heap.size →
    Calls Try.prog F (#[(.agg #[.int .u64 (pn : Int), .int .u64 (pa : Int), .int .u64 (pz : Int), .bool pb])] ++ C) w' fun e w'' => e = .returned (.bool (g ⟨pn, pa, pz, pb⟩)) ∧ Below w'.heap.size w' w''
def PaRel (g : Wig.Snt → Bool) (l : List Wig.Snt) (w : World) (v u i : Value) (wr : World) : Prop :=
  ∃ k : Nat, k ≤ l.length ∧ i = .int .i64 (k : Int) ∧ Two wr w.heap.size v u ((l.take k).filter g) ((l.take k).filter fun x => !g x) ∧ Below w.heap.size w wr
end Go.Proofs.Ythdhcppgpnnccaa
