/-
  Frames in the program's memory; what package frame's numbersFit, spansFit and dataFits return. Condition: the table of fields that are numbers holds what its text lays.
-/
import Derived.Test.YtogioabdijgglaaDoorFld
import Derived.Test.YtogioabdijgglaaDoorSpn
import Derived.Test.YtogioabdijgglaaDoorVarA
import Derived.BigQuiet
import Derived.Deep.QuietTactic
namespace Go.Proofs.YtogioabdijgglaaDoor
open Go.ChangeShapes Go.WideShapes Go.ChangeAt Go.RowKit Go.Deep
set_option linter.unusedVariables false

/-- The table of fields that are numbers. -/
structure NTab (w : World) : Prop where
  c0 : w.cell? ⟨0, 0, none⟩ = some (.int .i64 0)
  c1 : w.cell? ⟨0, 1, none⟩ = some (.int .i64 1)
  c2 : w.cell? ⟨0, 2, none⟩ = some (.int .i64 2)
  c3 : w.cell? ⟨0, 3, none⟩ = some (.int .i64 3)
  c4 : w.cell? ⟨0, 4, none⟩ = some (.int .i64 4)
  c5 : w.cell? ⟨0, 5, none⟩ = some (.int .i64 5)
theorem NTab.keeps {w w' : World} (h : NTab w) (k : ∀ j, w'.cell? ⟨0, j, none⟩ = w.cell? ⟨0, j, none⟩) : NTab w' :=
  ⟨(k 0).trans h.c0, (k 1).trans h.c1, (k 2).trans h.c2, (k 3).trans h.c3, (k 4).trans h.c4, (k 5).trans h.c5⟩
theorem NTab.below {w w' : World} (h : NTab w) (hb : Below w.heap.size w w') : NTab w' := h.keeps fun j => hb.cell (World.block_lt_of_cell? w _ h.c0 : 0 < _)
theorem nindex_0 : ∀ w : World, (Instr.index 76 (.agg #[.int .i64 0, .int .i64 1, .int .i64 2, .int .i64 3, .int .i64 4, .int .i64 5]) (.int .i64 0)).run Tryd.prog w = .ok (.int .i64 0) w := fun _ => by kernel_rfl
theorem nindex_1 : ∀ w : World, (Instr.index 76 (.agg #[.int .i64 0, .int .i64 1, .int .i64 2, .int .i64 3, .int .i64 4, .int .i64 5]) (.int .i64 1)).run Tryd.prog w = .ok (.int .i64 1) w := fun _ => by kernel_rfl
theorem nindex_2 : ∀ w : World, (Instr.index 76 (.agg #[.int .i64 0, .int .i64 1, .int .i64 2, .int .i64 3, .int .i64 4, .int .i64 5]) (.int .i64 2)).run Tryd.prog w = .ok (.int .i64 2) w := fun _ => by kernel_rfl
theorem nindex_3 : ∀ w : World, (Instr.index 76 (.agg #[.int .i64 0, .int .i64 1, .int .i64 2, .int .i64 3, .int .i64 4, .int .i64 5]) (.int .i64 3)).run Tryd.prog w = .ok (.int .i64 3) w := fun _ => by kernel_rfl
theorem nindex_4 : ∀ w : World, (Instr.index 76 (.agg #[.int .i64 0, .int .i64 1, .int .i64 2, .int .i64 3, .int .i64 4, .int .i64 5]) (.int .i64 4)).run Tryd.prog w = .ok (.int .i64 4) w := fun _ => by kernel_rfl
theorem nindex_5 : ∀ w : World, (Instr.index 76 (.agg #[.int .i64 0, .int .i64 1, .int .i64 2, .int .i64 3, .int .i64 4, .int .i64 5]) (.int .i64 5)).run Tryd.prog w = .ok (.int .i64 5) w := fun _ => by kernel_rfl
theorem nindex_at (w : World) (k : Nat) (hk : k < 6) : (Instr.index 76 (.agg #[.int .i64 0, .int .i64 1, .int .i64 2, .int .i64 3, .int .i64 4, .int .i64 5]) (.int .i64 (k : Int))).run Tryd.prog w = .ok (.int .i64 (k : Int)) w := by
  have : k = 0 ∨ k = 1 ∨ k = 2 ∨ k = 3 ∨ k = 4 ∨ k = 5 := by omega
  rcases this with rfl | rfl | rfl | rfl | rfl | rfl
  · exact nindex_0 w
  · exact nindex_1 w
  · exact nindex_2 w
  · exact nindex_3 w
  · exact nindex_4 w
  · exact nindex_5 w

/-- A frame's ten cells: its slices lie at D and S, with room dc and sc. -/
def farr (f : Wig.Fr) (D : Option Addr) (dc : Nat) (S : Option Addr) (sc : Nat) : Array Value :=
  #[.int .i64 f.kind, .int .u64 (f.id : Int), .int .u64 (f.off : Int), .int .u64 (f.max : Int), .int .u64 (f.code : Int), .int .u64 (f.delay : Int), .int .u64 (f.ce : Int), .bool f.fin, .slice D f.data.length dc, .slice S f.spans.length sc]
/-- What a frame's slices read as. -/
structure Lies (w : World) (B : Nat) (f : Wig.Fr) (D : Option Addr) (dc : Nat) (S : Option Addr) (sc : Nat) : Prop where
  dl : f.data.length ≤ dc
  dm : dc ≤ maxLen
  dr : RdN .u8 w B D f.data
  sl : f.spans.length ≤ sc
  sm : sc ≤ maxLen
  sr : RdS w B S f.spans
section
variable {w w' : World} {B B' : Nat} {f : Wig.Fr} {D S : Option Addr} {dc sc : Nat}
theorem Lies.below (h : Lies w B f D dc S sc) (hb : Below B w w') : Lies w' B f D dc S sc := ⟨h.dl, h.dm, h.dr.below hb, h.sl, h.sm, h.sr.below hb⟩
theorem Lies.wide (h : Lies w B f D dc S sc) (hB : B ≤ B') : Lies w B' f D dc S sc := ⟨h.dl, h.dm, h.dr.wide hB, h.sl, h.sm, h.sr.wide hB⟩
theorem Lies.step (h : Lies w w.heap.size f D dc S sc) (hb : Below w.heap.size w w') : Lies w' w'.heap.size f D dc S sc := (h.below hb).wide hb.size
end
/-- The value is a frame. -/
def Fv (w : World) (B : Nat) (v : Value) (f : Wig.Fr) : Prop := ∃ D dc S sc, v = .agg (farr f D dc S sc) ∧ Lies w B f D dc S sc
theorem Fv.step {w w' : World} {v : Value} {f : Wig.Fr} (h : Fv w w.heap.size v f) (hb : Below w.heap.size w w') : Fv w' w'.heap.size v f := by
  obtain ⟨D, dc, S, sc, e, hl⟩ := h
  exact ⟨D, dc, S, sc, e, hl.step hb⟩
theorem Fv.wide {w : World} {B B' : Nat} {v : Value} {f : Wig.Fr} (h : Fv w B v f) (hB : B ≤ B') : Fv w B' v f := by
  obtain ⟨D, dc, S, sc, e, hl⟩ := h
  exact ⟨D, dc, S, sc, e, hl.wide hB⟩
theorem Fv.below {w w' : World} {B : Nat} {v : Value} {f : Wig.Fr} (h : Fv w B v f) (hb : Below B w w') : Fv w' B v f := by
  obtain ⟨D, dc, S, sc, e, hl⟩ := h
  exact ⟨D, dc, S, sc, e, hl.below hb⟩
/-- The ten cells of a frame at block b from o on. -/
structure At (w : World) (b o : Nat) (f : Wig.Fr) (D : Option Addr) (dc : Nat) (S : Option Addr) (sc : Nat) : Prop where
  c0 : w.cell? ⟨b, o, none⟩ = some (.int .i64 f.kind)
  c1 : w.cell? ⟨b, o + 1, none⟩ = some (.int .u64 (f.id : Int))
  c2 : w.cell? ⟨b, o + 2, none⟩ = some (.int .u64 (f.off : Int))
  c3 : w.cell? ⟨b, o + 3, none⟩ = some (.int .u64 (f.max : Int))
  c4 : w.cell? ⟨b, o + 4, none⟩ = some (.int .u64 (f.code : Int))
  c5 : w.cell? ⟨b, o + 5, none⟩ = some (.int .u64 (f.delay : Int))
  c6 : w.cell? ⟨b, o + 6, none⟩ = some (.int .u64 (f.ce : Int))
  c7 : w.cell? ⟨b, o + 7, none⟩ = some (.bool f.fin)
  c8 : w.cell? ⟨b, o + 8, none⟩ = some (.slice D f.data.length dc)
  c9 : w.cell? ⟨b, o + 9, none⟩ = some (.slice S f.spans.length sc)
section
variable {w w' : World} {b o : Nat} {f : Wig.Fr} {D S : Option Addr} {dc sc : Nat}
theorem At.keeps (h : At w b o f D dc S sc) (k : ∀ j, w'.cell? ⟨b, j, none⟩ = w.cell? ⟨b, j, none⟩) : At w' b o f D dc S sc :=
  ⟨(k _).trans h.c0, (k _).trans h.c1, (k _).trans h.c2, (k _).trans h.c3, (k _).trans h.c4, (k _).trans h.c5, (k _).trans h.c6, (k _).trans h.c7, (k _).trans h.c8, (k _).trans h.c9⟩
theorem At.num (h : At w b o f D dc S sc) (k : Nat) (hk : k < 6) : w.cell? ⟨b, o + (k + 1), none⟩ = some (.int .u64 ((f.get k : Nat) : Int)) := by
  have : k = 0 ∨ k = 1 ∨ k = 2 ∨ k = 3 ∨ k = 4 ∨ k = 5 := by omega
  rcases this with rfl | rfl | rfl | rfl | rfl | rfl
  · exact h.c1
  · exact h.c2
  · exact h.c3
  · exact h.c4
  · exact h.c5
  · exact h.c6
end
/-- A box of a frame. -/
theorem at_box (w : World) (f : Wig.Fr) (D : Option Addr) (dc : Nat) (S : Option Addr) (sc : Nat) (t : TypeId) : At (w.alloc (.cells (farr f D dc S sc) t)) w.heap.size 0 f D dc S sc := by
  constructor <;> (rw [World.cell?_alloc_at _ _ _ _ rfl]; rfl)

theorem numsFit_false {f : Wig.Fr} {has : List Nat} {k : Nat} (hk : k < 6) (h : Wig.numFit f has k = false) : Wig.numsFit f has = false := by
  refine Bool.eq_false_iff.2 fun hc => ?_
  have := List.all_eq_true.1 hc k (List.mem_range.2 hk)
  rw [h] at this
  cases this
theorem numsFit_true {f : Wig.Fr} {has : List Nat} (h : ∀ j : Nat, j < 6 → Wig.numFit f has j = true) : Wig.numsFit f has = true := List.all_eq_true.2 fun j hj => h j (List.mem_range.1 hj)
/-- At a round's head: those ahead fit. -/
def NumRel (f : Wig.Fr) (has : List Nat) (i : Value) : Prop := ∃ k : Nat, k ≤ 6 ∧ i = .int .i64 (k : Int) ∧ ∀ j : Nat, j < k → Wig.numFit f has j = true
theorem num_step {f : Wig.Fr} {has : List Nat} {k : Nat} (hk : k < 6) (h : ∀ j : Nat, j < k → Wig.numFit f has j = true) (hf : Wig.numFit f has k = true) : NumRel f has (.int .i64 ((k : Int) + 1)) :=
  ⟨k + 1, hk, rfl, fun j hj => by
    rcases Nat.lt_or_ge j k with h' | h'
    · exact h j h'
    · obtain rfl : j = k := by omega
      exact hf⟩

set_option maxHeartbeats 2000000 in
theorem numbersFit_any (v : Value) (f : Wig.Fr) (A : Option Addr) (n c : Nat) (has : List Nat) (B : Nat) (w : World) (hv : Fv w w.heap.size v f) (hn : n = has.length) (h8 : n ≤ 8) (hr : RdN .i64 w B A has) (hB : B ≤ w.heap.size) (hT : NTab w) :
    Calls Tryd.prog 23 #[v, .slice A n c] w fun e w' => e = .returned (.bool (Wig.numsFit f has)) ∧ Below w.heap.size w w' := by
  obtain ⟨D, dc, S, sc, rfl, hl⟩ := hv
  have hat := at_box w f D dc S sc 26
  have hbel : Below w.heap.size w (w.alloc (.cells (farr f D dc S sc) 26)) := (Below.refl _ _).alloc (Nat.le_refl _) _
  obtain ⟨wn, hwn⟩ : ∃ wn, wn = w.alloc (.cells (farr f D dc S sc) 26) := ⟨_, rfl⟩
  rw [← hwn] at hat hbel
  have hT' := hT.below hbel
  have n0 := hT'.c0
  have n1 := hT'.c1
  have n2 := hT'.c2
  have n3 := hT'.c3
  have n4 := hT'.c4
  have n5 := hT'.c5
  have HB := Lib.hid hbel
  have HA := Lib.hid hat
  have CC := Lib.hid fun (x : Nat) => contains_any A n c x has B wn hn h8 (hr.below (hbel.mono hB))
  have CN := Lib.hid fun (k : Nat) (hk : k < 6) => numberOf_any w.heap.size 0 k wn hk
  obtain ⟨res, hres⟩ : ∃ res, res = Wig.numsFit f has := ⟨_, rfl⟩
  rw [← hres]
  have HR := Lib.hid hres
  clear hat hbel hT hT' hr hn h8 hl hres hB
  simp only [farr] at hwn
  have kx : ∀ k, k < 6 → wn.cell? ⟨w.heap.size, k + 1, none⟩ = some (.int .u64 ((f.get k : Nat) : Int)) := fun k hk => by
    have := HA.out.num k hk
    rwa [Nat.zero_add] at this
  have KX := Lib.hid kx
  clear kx
  subst hwn
  simp only [farr]
  go_enter Tryd.func23, Tryd.ntmps23
  go_wp2_with fail
  obtain ⟨wb, hwb⟩ : ∃ wb, wb = w.alloc (.cells #[.int .i64 f.kind, .int .u64 (f.id : Int), .int .u64 (f.off : Int), .int .u64 (f.max : Int), .int .u64 (f.code : Int), .int .u64 (f.delay : Int), .int .u64 (f.ce : Int), .bool f.fin, .slice D f.data.length dc, .slice S f.spans.length sc] 26) := ⟨_, rfl⟩
  rw [← hwb] at HB CC CN KX ⊢
  clear n0 n1 n2 n3 n4 n5 HA hwb
  go_loop [9] (fun i => NumRel f has i) (fun i => 6 - (intOf i).toNat)
  case atStart => exact ⟨0, by omega, rfl, fun j hj => absurd hj (Nat.not_lt_zero _)⟩
  case round =>
    obtain ⟨k, hk, rfl, hall⟩ := hrel
    have HAll := Lib.hid hall
    clear hall
    by_cases hlt : k < 6
    · have i0 : (0 : Int) ≤ (k : Int) := by omega
      have i1 : (k : Int) < 6 := by omega
      have ix := nindex_at wb k hlt
      have hc := KX.out k hlt
      have C1 := Lib.hid (CN.out k hlt)
      simp only [Nat.zero_add] at C1
      have C2 := Lib.hid (CC.out k)
      have HST := Lib.hid fun h => num_step hlt HAll.out h
      have HNO := Lib.hid fun h => numsFit_false (f := f) (has := has) hlt h
      have hnf : Wig.numFit f has k = (decide (f.get k ≤ 4611686018427387903) && (decide (f.get k = 0) || has.contains k)) := rfl
      obtain ⟨x, hx⟩ : ∃ x, x = f.get k := ⟨_, rfl⟩
      rw [← hx] at hc hnf
      clear KX CN CC hx hk HAll
      by_cases hgt : 4611686018427387903 < x
      · have t1 : decide ((4611686018427387903 : Int) < (x : Int)) = true := decide_eq_true (by omega)
        rw [decide_eq_false (by omega), Bool.false_and] at hnf
        have R := Lib.hid (HNO.out hnf)
        clear hgt hnf HST HNO
        go_wp2_with fail
        refine (C1.out).mono ?_
        rintro e w' ⟨rfl, rfl⟩
        go_wp2_with fail
        go_ret
        exact ⟨by rw [HR.out, R.out]; rfl, HB.out⟩
      · have t1 : decide ((4611686018427387903 : Int) < (x : Int)) = false := decide_eq_false (by omega)
        rw [decide_eq_true (by omega), Bool.true_and] at hnf
        by_cases h0 : x = 0
        · have t2 : ((x : Int) != 0) = false := by simp; omega
          rw [decide_eq_true h0, Bool.true_or] at hnf
          have R := Lib.hid (HST.out hnf)
          clear hgt hnf HST HNO h0
          go_wp2_with fail
          refine (C1.out).mono ?_
          rintro e w' ⟨rfl, rfl⟩
          go_wp2_with fail
          go_round
          case rel => exact R.out
          case measure => simp [intOf]; omega
        · have t2 : ((x : Int) != 0) = true := by simp; omega
          rw [decide_eq_false h0, Bool.false_or] at hnf
          cases hc2 : has.contains k with
          | true =>
            rw [hc2] at hnf C2
            have R := Lib.hid (HST.out hnf)
            clear hgt hnf HST HNO h0 hc2
            go_wp2_with fail
            refine (C1.out).mono ?_
            rintro e w' ⟨rfl, rfl⟩
            go_wp2_with fail
            refine (C2.out).mono ?_
            rintro e w' ⟨rfl, rfl⟩
            go_wp2_with fail
            go_round
            case rel => exact R.out
            case measure => simp [intOf]; omega
          | false =>
            rw [hc2] at hnf C2
            have R := Lib.hid (HNO.out hnf)
            clear hgt hnf HST HNO h0 hc2
            go_wp2_with fail
            refine (C1.out).mono ?_
            rintro e w' ⟨rfl, rfl⟩
            go_wp2_with fail
            refine (C2.out).mono ?_
            rintro e w' ⟨rfl, rfl⟩
            go_wp2_with fail
            go_ret
            exact ⟨by rw [HR.out, R.out]; rfl, HB.out⟩
    · have t : decide ((k : Int) < 6) = false := decide_eq_false (by omega)
      have R := Lib.hid (numsFit_true (f := f) (has := has) fun j hj => HAll.out j (by omega))
      clear hk hlt
      go_wp2_with fail
      go_ret
      exact ⟨by rw [HR.out, R.out]; rfl, HB.out⟩

/-- What is known of spans at a round's head: those ahead may be. -/
def SfRel (l : List Wig.Spn) (w : World) (i : Value) (wr : World) : Prop := ∃ k : Nat, k ≤ l.length ∧ i = .int .i64 (k : Int) ∧ Wig.spOk (l.take k) = true ∧ Below w.heap.size w wr
theorem sf_more {l : List Wig.Spn} {k : Nat} {s : Wig.Spn} (h : l[k]? = some s) : l.take (k + 1) = l.take k ++ [s] := by
  rw [List.take_add_one, h]
  rfl
theorem sf_first {l : List Wig.Spn} {s : Wig.Spn} (h : l[0]? = some s) : Wig.spOk (l.take (0 + 1)) = Wig.spOne s := by
  rw [sf_more h]
  rfl
theorem sf_next {l : List Wig.Spn} {k : Nat} {p s : Wig.Spn} (hp : l[k]? = some p) (h : l[k + 1]? = some s) (hk : Wig.spOk (l.take (k + 1)) = true) : Wig.spOk (l.take (k + 1 + 1)) = (decide (p.2 < s.1) && Wig.spOne s) := by
  rw [sf_more h]
  have e := sf_more hp
  rw [e] at hk ⊢
  rw [List.append_assoc, List.cons_append, List.nil_append, Wig.spOk_snoc, hk, Bool.true_and]
theorem sf_false {l : List Wig.Spn} {k : Nat} (h : Wig.spOk (l.take k) = false) : Wig.spOk l = false := by
  refine Bool.eq_false_iff.2 fun hc => ?_
  have := Wig.spOk_prefix (l.take k) (l.drop k) (by rw [List.take_append_drop]; exact hc)
  rw [h] at this
  cases this
theorem sf_all {l : List Wig.Spn} {k : Nat} (hk : l.length ≤ k) (h : Wig.spOk (l.take k) = true) : Wig.spOk l = true := by
  rwa [List.take_of_length_le hk] at h

set_option maxHeartbeats 2000000 in
theorem spansFit_any (A : Option Addr) (n c : Nat) (l : List Wig.Spn) (has : Bool) (w : World) (hn : n = l.length) (hm : n ≤ maxLen) (hr : RdS w w.heap.size A l) :
    Calls Tryd.prog 24 #[.slice A n c, .bool has] w fun e w' => e = .returned (.bool (Wig.spansFit l has)) ∧ Below w.heap.size w w' := by
  obtain ⟨res, hres⟩ : ∃ res, res = Wig.spansFit l has := ⟨_, rfl⟩
  rw [← hres]
  unfold Wig.spansFit at hres
  cases has with
  | false =>
    have HR := Lib.hid (show res = decide (n = 0) by rw [hres, hn]; rfl)
    clear hres hr hn hm
    by_cases h0 : n = 0
    · have e := HR.out
      rw [decide_eq_true h0] at e
      have E := Lib.hid e
      have t : ((n : Int) == 0) = true := by simp; omega
      clear e h0
      go_enter Tryd.func24, Tryd.ntmps24
      go_wp2_with fail
      go_ret
      exact ⟨by rw [E.out]; rfl, Below.refl _ _⟩
    · have e := HR.out
      rw [decide_eq_false h0] at e
      have E := Lib.hid e
      have t : ((n : Int) == 0) = false := by simp; omega
      clear e h0
      go_enter Tryd.func24, Tryd.ntmps24
      go_wp2_with fail
      go_ret
      exact ⟨by rw [E.out]; rfl, Below.refl _ _⟩
  | true =>
    simp only [if_true, Wig.spFit] at hres
    rw [← hn] at hres
    by_cases h1 : n < 1
    · rw [decide_eq_false (by omega), Bool.false_and, Bool.false_and] at hres
      have E := Lib.hid hres
      obtain rfl : n = 0 := by omega
      clear hres hr hn hm h1
      go_enter Tryd.func24, Tryd.ntmps24
      go_wp2_with fail
      go_ret
      exact ⟨by rw [E.out]; rfl, Below.refl _ _⟩
    · rw [decide_eq_true (by omega), Bool.true_and] at hres
      have t1 : decide ((n : Int) < 1) = false := decide_eq_false (by omega)
      by_cases h2 : 32 < n
      · rw [decide_eq_false (by omega), Bool.false_and] at hres
        have E := Lib.hid hres
        have t2 : decide ((32 : Int) < (n : Int)) = true := decide_eq_true (by omega)
        clear hres hr hn hm h1 h2
        go_enter Tryd.func24, Tryd.ntmps24
        go_wp2_with fail
        go_ret
        exact ⟨by rw [E.out]; rfl, Below.refl _ _⟩
      · rw [decide_eq_true (by omega), Bool.true_and] at hres
        have E := Lib.hid hres
        have t2 : decide ((32 : Int) < (n : Int)) = false := decide_eq_false (by omega)
        have HN := Lib.hid hn
        have HS := Lib.hid hr
        have H32 := Lib.hid (show n ≤ 32 by omega)
        clear hres hr hn h1 h2
        go_enter Tryd.func24, Tryd.ntmps24
        go_wp2_with fail
        go_loopw [22] (fun i wr => SfRel l w i wr) (fun i _ => n - (intOf i).toNat)
        case atStart => exact ⟨0, Nat.zero_le _, rfl, rfl, Below.refl _ _⟩
        case round =>
          obtain ⟨k, hk, rfl, hok, hbel⟩ := hrel
          rw [← HN.out] at hk
          by_cases hlt : k < n
          · obtain ⟨⟨s0, s1⟩, hs⟩ : ∃ s, l[k]? = some s := ⟨_, List.getElem?_eq_getElem (by have := HN.out; omega)⟩
            obtain ⟨b, off, rfl, hb, hc0, hc1⟩ := (HS.out.below hbel).at_ hs
            simp only [] at hc0 hc1
            have i0 : (0 : Int) ≤ (k : Int) := by omega
            have i1 : (k : Int) < (n : Int) := by omega
            have nb1 : Below w.heap.size w (wr.alloc (.cells #[.int .u64 (s0 : Int), .int .u64 (s1 : Int)] 42)) := hbel.alloc hbel.size _
            obtain ⟨q, hq⟩ : ∃ q, q = decide (s0 < s1) := ⟨_, rfl⟩
            obtain ⟨q2, hq2⟩ : ∃ q2, q2 = decide (s1 ≤ 4611686018427387904) := ⟨_, rfl⟩
            have hone : Wig.spOne (s0, s1) = (q && q2) := by rw [hq, hq2]; rfl
            have NB := Lib.hid nb1
            cases hqc : q with
            | false =>
              have R : res = false := by
                rw [E.out]
                refine sf_false (k := k + 1) (Bool.eq_false_iff.2 fun hc => ?_)
                have h1 : Wig.spOne (s0, s1) = false := by rw [hone, hqc]; rfl
                cases k with
                | zero => rw [sf_first hs, h1] at hc; cases hc
                | succ j =>
                  obtain ⟨p, hp⟩ : ∃ p, l[j]? = some p := ⟨_, List.getElem?_eq_getElem (by have := HN.out; omega)⟩
                  rw [sf_next hp hs hok, h1, Bool.and_false] at hc
                  cases hc
              have R' := Lib.hid R
              have t3 : decide (s1 ≤ s0) = true := decide_eq_true (by have := of_decide_eq_false (hq.symm.trans hqc); omega)
              clear hok hbel hs hb hq hq2 hone hqc R hlt hk nb1 hm
              go_wp2_with fail
              go_ret
              exact ⟨by rw [R'.out]; rfl, NB.out⟩
            | true =>
              have t3 : decide (s1 ≤ s0) = false := decide_eq_false (by have := of_decide_eq_true (hq.symm.trans hqc); omega)
              cases hqc2 : q2 with
              | false =>
                have R : res = false := by
                  rw [E.out]
                  refine sf_false (k := k + 1) (Bool.eq_false_iff.2 fun hc => ?_)
                  have h1 : Wig.spOne (s0, s1) = false := by rw [hone, hqc, hqc2]; rfl
                  cases k with
                  | zero => rw [sf_first hs, h1] at hc; cases hc
                  | succ j =>
                    obtain ⟨p, hp⟩ : ∃ p, l[j]? = some p := ⟨_, List.getElem?_eq_getElem (by have := HN.out; omega)⟩
                    rw [sf_next hp hs hok, h1, Bool.and_false] at hc
                    cases hc
                have R' := Lib.hid R
                have t4 : decide ((4611686018427387904 : Int) < (s1 : Int)) = true := decide_eq_true (by have := of_decide_eq_false (hq2.symm.trans hqc2); omega)
                clear hok hbel hs hb hq hq2 hone hqc hqc2 R hlt hk nb1 hm
                go_wp2_with fail
                go_ret
                exact ⟨by rw [R'.out]; rfl, NB.out⟩
              | true =>
                have t4 : decide ((4611686018427387904 : Int) < (s1 : Int)) = false := decide_eq_false (by have := of_decide_eq_true (hq2.symm.trans hqc2); omega)
                have h1 : Wig.spOne (s0, s1) = true := by rw [hone, hqc, hqc2]; rfl
                rcases Nat.eq_zero_or_pos k with hk0 | hk0
                · subst hk0
                  have R : ∀ nq : Nat, SfRel l w (.int .i64 ((0 : Int) + 1)) ((wr.alloc (.cells #[.int .u64 (s0 : Int), .int .u64 (s1 : Int)] 42)).drewN nq) := fun nq => ⟨1, by have := HN.out; omega, rfl, by rw [sf_first hs, h1], below_drewN' NB.out nq⟩
                  have R' := Lib.hid R
                  simp only [Nat.zero_mul, Nat.add_zero, Int.natCast_zero] at hc0 hc1 i0 i1 ⊢
                  clear hok hbel hs hb hq hq2 hone hqc hqc2 R hlt hk nb1 h1 hm
                  go_wp2_with fail
                  go_quiet (fail)
                  go_wp2_with fail
                  go_roundw
                  case rel => exact R'.out _
                  case measure => simp [intOf]; omega
                · obtain ⟨j, hj⟩ : ∃ j, k = j + 1 := ⟨k - 1, by omega⟩
                  obtain ⟨⟨p0, p1⟩, hp⟩ : ∃ p, l[j]? = some p := ⟨_, List.getElem?_eq_getElem (by have := HN.out; omega)⟩
                  obtain ⟨b', off', e', hb', hp0, hp1⟩ := (HS.out.below nb1).at_ hp
                  injection e' with e'
                  injection e' with e1 e2
                  subst e1 e2
                  simp only [] at hp0 hp1
                  have g1 : decide ((0 : Int) < (k : Int)) = true := decide_eq_true (by omega)
                  have g2 : (k : Int) - 1 = (j : Int) := by omega
                  have g0 : decide (0 < k) = true := decide_eq_true hk0
                  have hs' : l[j + 1]? = some (s0, s1) := by rw [← hj]; exact hs
                  have hok' : Wig.spOk (l.take (j + 1)) = true := by rw [← hj]; exact hok
                  have g3 : (0 : Int) ≤ (j : Int) := by omega
                  have g4 : (j : Int) < (n : Int) := by omega
                  have g5 : IntKind.i64.wrap (j : Int) = (j : Int) := by have := H32.out; rw [IntKind.wrap_i64]; omega
                  by_cases hle : s0 ≤ p1
                  · have t5 : decide (s0 ≤ p1) = true := decide_eq_true hle
                    have R : res = false := by
                      rw [E.out]
                      refine sf_false (k := j + 1 + 1) ?_
                      rw [sf_next hp hs' hok', decide_eq_false (by simp only []; omega), Bool.false_and]
                    have R' := Lib.hid R
                    clear hok hok' hbel hs hs' hj hk0 hb hb' hp hq hq2 hone hqc hqc2 R hlt hk nb1 h1 hm hle
                    go_wp2_with fail
                    go_quiet (fail)
                    go_wp2_with fail
                    go_ret
                    exact ⟨by rw [R'.out]; rfl, below_drewN' NB.out _⟩
                  · have t5 : decide (s0 ≤ p1) = false := decide_eq_false hle
                    have h32 := H32.out
                    have R : ∀ nq : Nat, SfRel l w (.int .i64 ((k : Int) + 1)) ((wr.alloc (.cells #[.int .u64 (s0 : Int), .int .u64 (s1 : Int)] 42)).drewN nq) := fun nq => ⟨k + 1, by have := HN.out; omega, rfl, by rw [hj, sf_next hp hs' hok', decide_eq_true (by simp only []; omega), h1]; rfl, below_drewN' NB.out nq⟩
                    have R' := Lib.hid R
                    clear hok hok' hbel hs hs' hj hk0 hb hb' hp hq hq2 hone hqc hqc2 R hlt hk nb1 h1 hm hle
                    go_wp2_with fail
                    go_quiet (fail)
                    go_wp2_with fail
                    go_roundw
                    case rel => exact R'.out _
                    case measure => simp [intOf]; omega
          · have R : res = true := by rw [E.out]; exact sf_all (by rw [← HN.out]; omega) hok
            have R' := Lib.hid (And.intro R hbel)
            have t3 : decide (k < n) = false := decide_eq_false hlt
            clear hok hbel R hlt hk hm
            go_wp2_with fail
            go_ret
            exact ⟨by rw [R'.out.1]; rfl, R'.out.2⟩

set_option maxHeartbeats 1000000 in
theorem dataFits_any (v : Value) (f : Wig.Fr) (has : Bool) (w : World) (hv : Fv w w.heap.size v f) (ho : f.off < 18446744073709551616) :
    Calls Tryd.prog 26 #[v, .bool has] w fun e w' => e = .returned (.bool (Wig.dataFit f has)) ∧ Below w.heap.size w w' := by
  obtain ⟨D, dc, S, sc, rfl, hl⟩ := hv
  have hbel : Below w.heap.size w (w.alloc (.cells (farr f D dc S sc) 26)) := (Below.refl _ _).alloc (Nat.le_refl _) _
  obtain ⟨res, hres⟩ : ∃ res, res = Wig.dataFit f has := ⟨_, rfl⟩
  rw [← hres]
  unfold Wig.dataFit at hres
  have hm := Nat.le_trans hl.dl hl.dm
  unfold farr at hbel ⊢
  generalize f.data.length = n at *
  generalize f.off = o at *
  generalize f.fin = fin at *
  have HB := Lib.hid hbel
  have wn : IntKind.u64.wrap (n : Int) = (n : Int) := by rw [IntKind.wrap_u64]; simp only [maxLen] at hm; omega
  cases has with
  | false =>
    simp only [Bool.false_eq_true, if_false] at hres
    by_cases h0 : n = 0
    · have t : ((n : Int) == 0) = true := by simp; omega
      rw [decide_eq_true h0, Bool.true_and] at hres
      have E := Lib.hid hres
      clear hbel hres hl hm ho h0
      go_enter Tryd.func26, Tryd.ntmps26
      go_wp2_with fail
      go_ret
      exact ⟨by rw [E.out]; rfl, HB.out⟩
    · have t : ((n : Int) == 0) = false := by simp; omega
      rw [decide_eq_false h0, Bool.false_and] at hres
      have E := Lib.hid hres
      clear hbel hres hl hm ho h0
      go_enter Tryd.func26, Tryd.ntmps26
      go_wp2_with fail
      go_ret
      exact ⟨by rw [E.out]; rfl, HB.out⟩
  | true =>
    simp only [if_true] at hres
    by_cases h1 : n ≤ 1200
    · have t : decide ((n : Int) ≤ 1200) = true := decide_eq_true (by omega)
      rw [decide_eq_true h1, Bool.true_and] at hres
      have ws : IntKind.u64.wrap (4611686018427387903 - (n : Int)) = ((4611686018427387903 - n : Nat) : Int) := by rw [IntKind.wrap_u64]; omega
      obtain ⟨q, hq⟩ : ∃ q, q = 4611686018427387903 - n := ⟨_, rfl⟩
      have hres2 : res = decide (o ≤ q) := by
        rw [hres]
        by_cases h : o ≤ q
        · rw [decide_eq_true h, decide_eq_true (by omega)]
        · rw [decide_eq_false h, decide_eq_false (by omega)]
      rw [← hq] at ws
      have E := Lib.hid hres2
      clear hbel hres hres2 hl hm ho h1 hq
      go_enter Tryd.func26, Tryd.ntmps26
      go_wp2_with fail
      go_ret
      exact ⟨by rw [E.out]; rfl, HB.out⟩
    · have t : decide ((n : Int) ≤ 1200) = false := decide_eq_false (by omega)
      rw [decide_eq_false h1, Bool.false_and] at hres
      have E := Lib.hid hres
      clear hbel hres hl hm ho h1
      go_enter Tryd.func26, Tryd.ntmps26
      go_wp2_with fail
      go_ret
      exact ⟨by rw [E.out]; rfl, HB.out⟩
end Go.Proofs.YtogioabdijgglaaDoor
