/-
  What package frame's Parse returns: the frame that bytes begin with and how many they are, or the error behind a panic that is recovered. Condition: the tables hold what their texts lay; at most 100000 bytes.
-/
import Derived.Test.YtogioabdijgglaaDoorRdG
import Derived.Recover
import Derived.Laws.Pointers
import Derived.Laws.IdiomCopy
namespace Go.Proofs.YtogioabdijgglaaDoor
open Go.ChangeShapes Go.WideShapes Go.ChangeAt Go.RowKit Go.Deep
set_option linter.unusedVariables false

theorem assert_nil : ∀ w : World, (Instr.typeAssert .nilIface 20 29 true).run Tryd.prog w = .ok (.tuple #[.int .i64 0, .bool false]) w := fun _ => by kernel_rfl
theorem assert_errno : ∀ w : World, (Instr.typeAssert (.iface 29 (.int .i64 50)) 20 29 true).run Tryd.prog w = .ok (.tuple #[.int .i64 50, .bool true]) w := fun _ => by kernel_rfl
theorem nil_is : ∀ w : World, (binOp BinOp.neq 20 .nilIface .nilIface).run Tryd.prog w = .ok (.bool false) w := fun _ => by kernel_rfl

theorem catch_idle (p q r : Addr) (w : World) :
    CallsD Tryd.prog 29 #[.pointer (some p), .pointer (some q), .pointer (some r)] .returning w fun e u' w' => e = .returned (.tuple #[]) ∧ u' = .returning ∧ w' = w := by
  have h1 := assert_nil
  have h2 := nil_is
  refine callsD_of_wpS Tryd.func29 rfl fun c₀ cs hu => ?_
  apply wpS_seq
  apply wpS_region
  simp [wpOpsS, go_sem, recoverD, hu, Tryd.ntmps29, Exit.thenS]
  refine wpS_of_wp ?_
  change Code.wp _ _ _ { tmps := #[.pointer (some p), .pointer (some q), .pointer (some r), .nilIface, undef, undef, .nilIface, undef, undef, undef, undef, undef, undef, undef, undef, undef, undef, undef], defers := [] } _
  go_wp2_with fail
  cases c₀
  simp_all [bodyPostS, results, Tryd.results29]

/-- A frame is stored whole. -/
theorem at_set {w : World} {p o : Nat} {f' f : Wig.Fr} {D' S' D S : Option Addr} {dc' sc' dc sc : Nat} (h : At w p o f' D' dc' S' sc') : At (w.setCells p o (farr f D dc S sc).toList) p o f D dc S sc := by
  have hall : ∀ j, j < (farr f D dc S sc).toList.length → (w.cell? ⟨p, o + j, none⟩).isSome = true := by
    intro j hj
    have hj : j < 10 := hj
    have : j = 0 ∨ j = 1 ∨ j = 2 ∨ j = 3 ∨ j = 4 ∨ j = 5 ∨ j = 6 ∨ j = 7 ∨ j = 8 ∨ j = 9 := by omega
    rcases this with rfl | rfl | rfl | rfl | rfl | rfl | rfl | rfl | rfl | rfl
    · rw [Nat.add_zero, h.c0]; rfl
    · rw [h.c1]; rfl
    · rw [h.c2]; rfl
    · rw [h.c3]; rfl
    · rw [h.c4]; rfl
    · rw [h.c5]; rfl
    · rw [h.c6]; rfl
    · rw [h.c7]; rfl
    · rw [h.c8]; rfl
    · rw [h.c9]; rfl
  have k := fun j hj => World.cell?_setCells_in p (farr f D dc S sc).toList o w hall j hj
  exact ⟨k 0 (show 0 < 10 by omega), k 1 (show 1 < 10 by omega), k 2 (show 2 < 10 by omega), k 3 (show 3 < 10 by omega), k 4 (show 4 < 10 by omega), k 5 (show 5 < 10 by omega), k 6 (show 6 < 10 by omega), k 7 (show 7 < 10 by omega), k 8 (show 8 < 10 by omega), k 9 (show 9 < 10 by omega)⟩
theorem below_sets (b : Nat) : ∀ (vs : List Value) (o : Nat) (w : World), Below b w (w.setCells b o vs)
  | [], _, _ => Below.refl _ _
  | v :: r, o, w => ((Below.refl b w).setCell (p := ⟨b, o, none⟩) (Nat.le_refl _) v).trans (below_sets b r (o + 1) _)
theorem block_sets {b c : Nat} (h : c ≠ b) : ∀ (vs : List Value) (o : Nat) (w : World) (j : Nat), (w.setCells b o vs).cell? ⟨c, j, none⟩ = w.cell? ⟨c, j, none⟩ :=
  fun vs o w j => World.cell?_setCells_out b vs o w _ (fun e => absurd e h)

theorem catch_gaveUp (p q r : Nat) (older : List PanicEntry) (w : World) {f : Wig.Fr} {D S : Option Addr} {dc sc : Nat} {x y : Value} (hp : At w p 0 f D dc S sc) (hq : w.cell? ⟨q, 0, none⟩ = some x) (hr : w.cell? ⟨r, 0, none⟩ = some y)
    (hpq : p < q) (hqr : q < r) (zp : ∀ j, w.frozen? ⟨p, j, none⟩ = false) (zq : w.frozen? ⟨q, 0, none⟩ = false) (zr : w.frozen? ⟨r, 0, none⟩ = false) :
    CallsD Tryd.prog 29 #[.pointer (some ⟨p, 0, none⟩), .pointer (some ⟨q, 0, none⟩), .pointer (some ⟨r, 0, none⟩)] (.panicking ({ v := .iface 29 (.int .i64 50), recovered := false } :: older)) w fun e u' w' =>
      e = .returned (.tuple #[]) ∧ u' = .panicking ({ v := .iface 29 (.int .i64 50), recovered := true } :: older) ∧ At w' p 0 Wig.Fr.zero none 0 none 0 ∧ w'.cell? ⟨q, 0, none⟩ = some (.int .i64 0) ∧ w'.cell? ⟨r, 0, none⟩ = some (.int .i64 50) ∧ Below p w w' := by
  have h1 := assert_errno
  refine callsD_of_wpS Tryd.func29 rfl fun c₀ cs hu => ?_
  apply wpS_seq
  apply wpS_region
  simp [wpOpsS, go_sem, recoverD, hu, Tryd.ntmps29, Exit.thenS]
  refine wpS_of_wp ?_
  change Code.wp _ _ _ { tmps := #[.pointer (some ⟨p, 0, none⟩), .pointer (some ⟨q, 0, none⟩), .pointer (some ⟨r, 0, none⟩), .iface 29 (.int .i64 50), undef, undef, .iface 29 (.int .i64 50), undef, undef, undef, undef, undef, undef, undef, undef, undef, undef, undef], defers := [] } _
  have k0 := hp.c0
  have k1 := hp.c1
  have k2 := hp.c2
  have k3 := hp.c3
  have k4 := hp.c4
  have k5 := hp.c5
  have k6 := hp.c6
  have k7 := hp.c7
  have k8 := hp.c8
  have k9 := hp.c9
  have z0 := zp 0
  have z1 := zp 1
  have z2 := zp 2
  have z3 := zp 3
  have z4 := zp 4
  have z5 := zp 5
  have z6 := zp 6
  have z7 := zp 7
  have z8 := zp 8
  have z9 := zp 9
  have d1 : ¬ p = q := by omega
  have d2 : ¬ p = r := by omega
  have d3 : ¬ q = r := by omega
  simp only [Nat.zero_add] at k0 k1 k2 k3 k4 k5 k6 k7 k8 k9
  have HP := Lib.hid hp
  have HQ := Lib.hid (And.intro hq hr)
  have R : ∀ wz, wz = ((w.setCells p 0 (farr Wig.Fr.zero none 0 none 0).toList).setCell ⟨q, 0, none⟩ (.int .i64 0)).setCell ⟨r, 0, none⟩ (.int .i64 50) → At wz p 0 Wig.Fr.zero none 0 none 0 ∧ wz.cell? ⟨q, 0, none⟩ = some (.int .i64 0) ∧ wz.cell? ⟨r, 0, none⟩ = some (.int .i64 50) ∧ Below p w wz := by
    rintro wz rfl
    have a1 : At (w.setCells p 0 (farr Wig.Fr.zero none 0 none 0).toList) p 0 Wig.Fr.zero none 0 none 0 := at_set hp
    have nq : ∀ (x : World) (u : Value) (c j i : Nat), c ≠ j → (x.setCell ⟨c, i, none⟩ u).cell? ⟨j, 0, none⟩ = x.cell? ⟨j, 0, none⟩ := fun x u c j i hc => World.cell?_setCell_other _ _ _ _ (fun e => hc (by injection e))
    have n2 : ∀ (x : World) (u : Value) (c j i k : Nat), c ≠ j → (x.setCell ⟨c, i, none⟩ u).cell? ⟨j, k, none⟩ = x.cell? ⟨j, k, none⟩ := fun x u c j i k hc => World.cell?_setCell_other _ _ _ _ (fun e => hc (by injection e))
    refine ⟨a1.keeps fun j => ?_, ?_, ?_, ?_⟩
    · rw [n2 _ _ _ _ _ _ (by omega), n2 _ _ _ _ _ _ (by omega)]
    · rw [nq _ _ _ _ _ (by omega)]
      exact World.cell?_setCell_same _ _ _ ((block_sets (by omega) _ _ _ _).trans hq)
    · exact World.cell?_setCell_same _ _ _ ((nq _ _ _ _ _ (by omega)).trans ((block_sets (by omega) _ _ _ _).trans hr))
    · exact ((below_sets p _ _ _).setCell (p := ⟨q, 0, none⟩) (by simp only []; omega) _).setCell (p := ⟨r, 0, none⟩) (by simp only []; omega) _
  have R' := Lib.hid R
  clear hp zp R
  go_wp2_with fail
  cases c₀
  simp only [bodyPostS]
  refine ⟨trivial, _, rfl, .tuple #[], ?_, rfl, rfl, R'.out _ rfl⟩
  simp [results, Tryd.results29]

end Go.Proofs.YtogioabdijgglaaDoor
namespace Wig
/-- What Parse answers. -/
def pfr (xs : List Nat) : Fr := match rdFrame xs with
  | none => Fr.zero
  | some (f, _) => f
def plen (xs : List Nat) : Nat := match rdFrame xs with
  | none => 0
  | some (_, r) => xs.length - r.length
def perr (xs : List Nat) : Nat := match rdFrame xs with
  | none => 50
  | some _ => 0
end Wig
namespace Go.Proofs.YtogioabdijgglaaDoor
open Go.ChangeShapes Go.WideShapes Go.ChangeAt Go.RowKit Go.Deep
def ParseAt (xs : List Nat) (w : World) (e : Ending) (w' : World) : Prop :=
  ∃ D dc S sc, e = .returned (.tuple #[.agg (farr (Wig.pfr xs) D dc S sc), .int .i64 ((Wig.plen xs : Nat) : Int), .int .i64 ((Wig.perr xs : Nat) : Int)]) ∧ Lies w' w'.heap.size (Wig.pfr xs) D dc S sc ∧ Below w.heap.size w w' ∧
    (∀ b o s, D = some ⟨b, o, s⟩ → w.heap.size ≤ b) ∧ (∀ b o s, S = some ⟨b, o, s⟩ → w.heap.size ≤ b)
theorem lies_zero (w : World) (B : Nat) : Lies w B Wig.Fr.zero none 0 none 0 := ⟨Nat.le_refl _, Nat.zero_le _, RdN.empty, Nat.le_refl _, Nat.zero_le _, RdS.empty⟩
/-- The blocks that Parse makes. -/
theorem parse_begin (A : Option Addr) (n c : Nat) (xs : List Nat) (w w4 : World) (hn : n = xs.length) (hc : n ≤ c) (hm : c ≤ maxLen) (hr : RdN .u8 w w.heap.size A xs)
    (hw4 : w4 = (((w.alloc (.cells #[.int .i64 0, .int .u64 0, .int .u64 0, .int .u64 0, .int .u64 0, .int .u64 0, .int .u64 0, .bool false, .slice none 0 0, .slice none 0 0] 26)).alloc (.cells #[.int .i64 0] 3)).alloc (.cells #[.int .i64 0] 29)).alloc
      (.cells #[.slice A n c, .int .i64 0, .int .u64 0, .int .u64 0, .int .u64 0, .int .u64 0, .int .u64 0, .int .u64 0, .bool false, .slice none 0 0, .slice none 0 0] 65)) :
    Rdr w4 w.heap.size (w.heap.size + 1 + 1 + 1) xs Wig.Fr.zero ∧ At w4 w.heap.size 0 Wig.Fr.zero none 0 none 0 ∧ w4.cell? ⟨w.heap.size + 1, 0, none⟩ = some (.int .i64 0) ∧ w4.cell? ⟨w.heap.size + 1 + 1, 0, none⟩ = some (.int .i64 0) ∧
      (∀ b j, b < w.heap.size + 4 → w.heap.size ≤ b → w4.frozen? ⟨b, j, none⟩ = false) ∧ w4.heap.size = w.heap.size + 4 ∧ Below w.heap.size w w4 := by
  obtain ⟨w1, h1⟩ : ∃ w1, w1 = w.alloc (.cells #[.int .i64 0, .int .u64 0, .int .u64 0, .int .u64 0, .int .u64 0, .int .u64 0, .int .u64 0, .bool false, .slice none 0 0, .slice none 0 0] 26) := ⟨_, rfl⟩
  rw [← h1] at hw4
  obtain ⟨w2, h2⟩ : ∃ w2, w2 = w1.alloc (.cells #[.int .i64 0] 3) := ⟨_, rfl⟩
  rw [← h2] at hw4
  obtain ⟨w3, h3⟩ : ∃ w3, w3 = w2.alloc (.cells #[.int .i64 0] 29) := ⟨_, rfl⟩
  rw [← h3] at hw4
  have s1 : w1.heap.size = w.heap.size + 1 := by rw [h1]; simp
  have s2 : w2.heap.size = w.heap.size + 1 + 1 := by rw [h2]; simp [s1]
  have s3 : w3.heap.size = w.heap.size + 1 + 1 + 1 := by rw [h3]; simp [s2]
  have s4 : w4.heap.size = w.heap.size + 4 := by rw [hw4]; simp [s3]
  have b1 : Below w.heap.size w w1 := by rw [h1]; exact (Below.refl _ _).alloc (Nat.le_refl _) _
  have b2 : Below w1.heap.size w1 w2 := by rw [h2]; exact (Below.refl _ _).alloc (Nat.le_refl _) _
  have b3 : Below w2.heap.size w2 w3 := by rw [h3]; exact (Below.refl _ _).alloc (Nat.le_refl _) _
  have b4 : Below w3.heap.size w3 w4 := by rw [hw4]; exact (Below.refl _ _).alloc (Nat.le_refl _) _
  have b34 := below_trans' b3 b4
  have b24 := below_trans' b2 b34
  have b14 := below_trans' b1 b24
  have a1 : At w1 w.heap.size 0 Wig.Fr.zero none 0 none 0 := by rw [h1]; constructor <;> (rw [World.cell?_alloc_at _ _ _ _ rfl]; rfl)
  have a2 : w2.cell? ⟨w.heap.size + 1, 0, none⟩ = some (.int .i64 0) := by rw [h2, ← s1, World.cell?_alloc_at _ _ _ _ rfl]; rfl
  have a3 : w3.cell? ⟨w.heap.size + 1 + 1, 0, none⟩ = some (.int .i64 0) := by rw [h3, ← s2, World.cell?_alloc_at _ _ _ _ rfl]; rfl
  have a4 : At w4 (w.heap.size + 1 + 1 + 1) 1 Wig.Fr.zero none 0 none 0 := by rw [hw4, ← s3]; constructor <;> (rw [World.cell?_alloc_at _ _ _ _ rfl]; rfl)
  have a5 : w4.cell? ⟨w.heap.size + 1 + 1 + 1, 0, none⟩ = some (.slice A n c) := by rw [hw4, ← s3, World.cell?_alloc_at _ _ _ _ rfl]; rfl
  have fz : ∀ (x : World) (o : List Value) (t : TypeId) (j : Nat), (x.alloc (.cells o.toArray t)).frozen? ⟨x.heap.size, j, none⟩ = false := fun x o t j => World.frozen?_alloc_at _ _ _ _ rfl
  have z : ∀ b j, b < w.heap.size + 4 → w.heap.size ≤ b → w4.frozen? ⟨b, j, none⟩ = false := by
    intro b j hb hb2
    have : b = w.heap.size ∨ b = w.heap.size + 1 ∨ b = w.heap.size + 1 + 1 ∨ b = w.heap.size + 1 + 1 + 1 := by omega
    rcases this with rfl | rfl | rfl | rfl
    · rw [b24.frozen (p := ⟨w.heap.size, j, none⟩) (by simp only []; omega), h1]
      exact fz w [_, _, _, _, _, _, _, _, _, _] _ j
    · rw [b34.frozen (p := ⟨w.heap.size + 1, j, none⟩) (by simp only []; omega), h2, ← s1]
      exact fz w1 [_] _ j
    · rw [b4.frozen (p := ⟨w.heap.size + 1 + 1, j, none⟩) (by simp only []; omega), h3, ← s2]
      exact fz w2 [_] _ j
    · rw [hw4, ← s3]
      exact fz w3 [_, _, _, _, _, _, _, _, _, _, _] _ j
  exact ⟨⟨.slice A n c, none, 0, none, 0, a5, ⟨A, n, c, rfl, hn, hc, hm, hr.below b14⟩, a4, lies_zero _ _, (fun _ _ _ e => by cases e), (fun _ _ _ e => by cases e), fun j => z _ j (by omega) (by omega)⟩,
    a1.below b24, (b34.cell (p := ⟨w.heap.size + 1, 0, none⟩) (by simp only []; omega)).trans a2, (b4.cell (p := ⟨w.heap.size + 1 + 1, 0, none⟩) (by simp only []; omega)).trans a3, z, s4, b14⟩

theorem n_other (x : World) (u : Value) (c j i k : Nat) (hc : c ≠ j) : (x.setCell ⟨c, i, none⟩ u).cell? ⟨j, k, none⟩ = x.cell? ⟨j, k, none⟩ := World.cell?_setCell_other _ _ _ _ (fun e => hc (by injection e))
/-- What Parse leaves where the bytes begin with a frame. -/
theorem parse_end {w w5 : World} {f f' : Wig.Fr} {D S D' S' : Option Addr} {dc sc dc' sc' n : Nat} {x y : Value} (hp : At w5 w.heap.size 0 f' D' dc' S' sc') (hq : w5.cell? ⟨w.heap.size + 1, 0, none⟩ = some x) (he : w5.cell? ⟨w.heap.size + 1 + 1, 0, none⟩ = some y)
    (hb : Below w.heap.size w w5) (hl : Lies w5 w5.heap.size f D dc S sc) (hD : ∀ b o s, D = some ⟨b, o, s⟩ → w.heap.size + 1 + 1 + 1 < b) (hS : ∀ b o s, S = some ⟨b, o, s⟩ → w.heap.size + 1 + 1 + 1 < b) :
    ∀ wz, wz = ((((w5.setCells w.heap.size 0 (farr f D dc S sc).toList).setCell ⟨w.heap.size + 1, 0, none⟩ (.int .i64 ((n : Nat) : Int))).setCell ⟨w.heap.size + 1 + 1, 0, none⟩ (.int .i64 0)).drew) →
        At wz w.heap.size 0 f D dc S sc ∧ wz.cell? ⟨w.heap.size + 1, 0, none⟩ = some (.int .i64 ((n : Nat) : Int)) ∧ wz.cell? ⟨w.heap.size + 1 + 1, 0, none⟩ = some (.int .i64 0) ∧ Below w.heap.size w wz ∧ Lies wz wz.heap.size f D dc S sc := by
  intro wz hz
  obtain ⟨w6, h6⟩ : ∃ w6, w6 = w5.setCells w.heap.size 0 (farr f D dc S sc).toList := ⟨_, rfl⟩
  have a6 : At w6 w.heap.size 0 f D dc S sc := by rw [h6]; exact at_set hp
  have o6 : ∀ b j, b ≠ w.heap.size → w6.cell? ⟨b, j, none⟩ = w5.cell? ⟨b, j, none⟩ := fun b j h => by rw [h6]; exact block_sets h _ _ _ _
  have b6 : Below w.heap.size w5 w6 := by rw [h6]; exact below_sets _ _ _ _
  rw [← h6] at hz
  clear h6
  obtain ⟨w7, h7⟩ : ∃ w7, w7 = (w6.setCell ⟨w.heap.size + 1, 0, none⟩ (.int .i64 ((n : Nat) : Int))).setCell ⟨w.heap.size + 1 + 1, 0, none⟩ (.int .i64 0) := ⟨_, rfl⟩
  rw [← h7] at hz
  have o7 : ∀ b j, b ≠ w.heap.size + 1 → b ≠ w.heap.size + 1 + 1 → w7.cell? ⟨b, j, none⟩ = w6.cell? ⟨b, j, none⟩ := fun b j h h' => by
    rw [h7, n_other _ _ _ _ _ _ (fun e => h' e.symm), n_other _ _ _ _ _ _ (fun e => h e.symm)]
  have a7 : At w7 w.heap.size 0 f D dc S sc := a6.keeps fun j => o7 _ _ (by omega) (by omega)
  have q7 : w7.cell? ⟨w.heap.size + 1, 0, none⟩ = some (.int .i64 ((n : Nat) : Int)) := by
    rw [h7, n_other _ _ _ _ _ _ (by omega)]
    exact World.cell?_setCell_same _ _ _ ((o6 _ _ (by omega)).trans hq)
  have e7 : w7.cell? ⟨w.heap.size + 1 + 1, 0, none⟩ = some (.int .i64 0) := by
    rw [h7]
    exact World.cell?_setCell_same _ _ _ ((n_other _ _ _ _ _ _ (by omega)).trans ((o6 _ _ (by omega)).trans he))
  have b7 : Below w.heap.size w5 w7 := by
    rw [h7]
    exact (b6.setCell (p := ⟨w.heap.size + 1, 0, none⟩) (by simp only []; omega) _).setCell (p := ⟨w.heap.size + 1 + 1, 0, none⟩) (by simp only []; omega) _
  have l7 : Lies w7 w7.heap.size f D dc S sc := hl.above hD hS b7.size fun b j hb => (o7 _ _ (by omega) (by omega)).trans (o6 _ _ (by omega))
  clear h7 o7 o6 b6 a6
  subst hz
  exact ⟨a7.keeps fun j => rfl, q7, e7, (hb.trans b7).drew, l7.step (Below.refl _ _).drew⟩

set_option maxHeartbeats 4000000 in
theorem parse_any (A : Option Addr) (n c : Nat) (xs : List Nat) (w : World) (hx : Wig.Bytes xs) (hn : n = xs.length) (h5 : n ≤ 100000) (hc : n ≤ c) (hm : c ≤ maxLen) (hr : RdN .u8 w w.heap.size A xs) (h2 : 2 ≤ w.heap.size) (hT : Tab w ∧ NTab w) :
    Calls Tryd.prog 11 #[.slice A n c] w (ParseAt xs w) := by
  have hmf : ∀ (fn : Fn) (first cap : Array Value) (w : World), (Instr.makeFunc fn first cap).run Tryd.prog w = .ok (.func fn first cap) w := fun _ _ _ _ => rfl
  have BEG := Lib.hid fun (w4 : World) hw4 => parse_begin A n c xs w w4 hn hc hm hr hw4
  have HT := Lib.hid hT
  have HX := Lib.hid (And.intro hx (And.intro hn h5))
  have H2 := Lib.hid h2
  clear hx hn h5 hc hm hr hT h2
  go_enter_defers Tryd.func11, Tryd.ntmps11
  go_wp2_with fail
  obtain ⟨w4, hw4⟩ : ∃ w4, w4 = (((w.alloc (.cells #[.int .i64 0, .int .u64 0, .int .u64 0, .int .u64 0, .int .u64 0, .int .u64 0, .int .u64 0, .bool false, .slice none 0 0, .slice none 0 0] 26)).alloc (.cells #[.int .i64 0] 3)).alloc (.cells #[.int .i64 0] 29)).alloc
      (.cells #[.slice A n c, .int .i64 0, .int .u64 0, .int .u64 0, .int .u64 0, .int .u64 0, .int .u64 0, .int .u64 0, .bool false, .slice none 0 0, .slice none 0 0] 65) := ⟨_, rfl⟩
  rw [← hw4]
  obtain ⟨r4, p4, q4, e4, z4, s4, b4⟩ := BEG.out w4 hw4
  clear hw4 BEG
  have HT4 : Tab w4 ∧ NTab w4 := ⟨HT.out.1.below b4, HT.out.2.below b4⟩
  have C := Lib.hid (read_any (w.heap.size + 1 + 1 + 1) w.heap.size xs w4 r4 HX.out.1 (by have := HX.out; omega) (by omega) (by omega) (by omega) (by have := H2.out; omega) HT4)
  have K4 := Lib.hid (And.intro p4 (And.intro q4 (And.intro e4 (And.intro z4 (And.intro s4 b4)))))
  obtain ⟨pb, hpb⟩ : ∃ pb, pb = w.heap.size := ⟨_, rfl⟩
  unfold ReadRes at C
  cases hrd : Wig.rdFrame xs with
  | none =>
    rw [hrd] at C
    have R0 : Wig.pfr xs = Wig.Fr.zero ∧ Wig.plen xs = 0 ∧ Wig.perr xs = 50 := by unfold Wig.pfr Wig.plen Wig.perr; rw [hrd]; exact ⟨rfl, rfl, rfl⟩
    have R := Lib.hid R0
    clear r4 p4 q4 e4 z4 s4 b4 HT4 hrd R0
    refine (C.out).mono ?_
    rintro e w5 ⟨rfl, ho⟩
    unfold gaveUp
    have HO := Lib.hid ho
    clear ho
    go_wp2_with fail
    refine leaves_cons (f := 29) (args := #[.pointer (some ⟨w.heap.size, 0, none⟩), .pointer (some ⟨w.heap.size + 1, 0, none⟩), .pointer (some ⟨w.heap.size + 1 + 1, 0, none⟩)]) (by simp) (by simp [go_sem]) ?_
    have kk : ∀ b j, b < w.heap.size + 1 + 1 + 1 → w5.cell? ⟨b, j, none⟩ = w4.cell? ⟨b, j, none⟩ := fun b j hb => HO.out.cell (p := ⟨b, j, none⟩) (by have := K4.out.2.2.2.2.1; simp only []; omega) (by simp only []; omega)
    have zz : ∀ b j, b < w.heap.size + 1 + 1 + 1 → w5.frozen? ⟨b, j, none⟩ = w4.frozen? ⟨b, j, none⟩ := fun b j hb => World.frozen?_of_block (w := w4) (HO.out.block b (by have := K4.out.2.2.2.2.1; omega) (by omega))
    refine (catch_gaveUp w.heap.size (w.heap.size + 1) (w.heap.size + 1 + 1) [] w5 (K4.out.1.keeps fun j => kk _ j (by omega)) ((kk _ _ (by omega)).trans K4.out.2.1) ((kk _ _ (by omega)).trans K4.out.2.2.1) (by omega) (by omega) (fun j => (zz _ j (by omega)).trans (K4.out.2.2.2.1 _ _ (by omega) (by omega))) ((zz _ _ (by omega)).trans (K4.out.2.2.2.1 _ _ (by omega) (by omega))) ((zz _ _ (by omega)).trans (K4.out.2.2.2.1 _ _ (by omega) (by omega)))).mono ?_
    rintro e u' w6 ⟨rfl, rfl, ha, hq, hr, hb⟩
    have B6 : Below w.heap.size w w6 := (K4.out.2.2.2.2.2.trans (HO.out.below (B := w.heap.size) (by omega) (by have := K4.out.2.2.2.2.1; omega))).trans hb
    have k0 := ha.c0
    have k1 := ha.c1
    have k2 := ha.c2
    have k3 := ha.c3
    have k4 := ha.c4
    have k5 := ha.c5
    have k6 := ha.c6
    have k7 := ha.c7
    have k8 := ha.c8
    have k9 := ha.c9
    simp [Leaves, settle, results, Tryd.results11, go_sem, k0, k1, k2, k3, k4, k5, k6, k7, k8, k9, hq, hr]
    have r := R.out
    unfold ParseAt
    rw [r.1, r.2.1, r.2.2]
    exact ⟨none, 0, none, 0, rfl, lies_zero _ _, B6, (fun _ _ _ e => by cases e), (fun _ _ _ e => by cases e)⟩
  | some q =>
    obtain ⟨f, r⟩ := q
    rw [hrd] at C
    have R0 : Wig.pfr xs = f ∧ Wig.plen xs = xs.length - r.length ∧ Wig.perr xs = 0 := by unfold Wig.pfr Wig.plen Wig.perr; rw [hrd]; exact ⟨rfl, rfl, rfl⟩
    have R := Lib.hid R0
    have hrl : r.length ≤ xs.length := by
      obtain ⟨p, hp, _⟩ := Wig.rdFrame_local xs f r HX.out.1 hrd
      rw [hp]; simp
    have HRL := Lib.hid hrl
    clear r4 p4 q4 e4 z4 s4 b4 HT4 hrd R0 hrl
    refine (C.out).mono ?_
    rintro e w5 ⟨rfl, ⟨u, D, dc, S, sc, hu0, ⟨A', m, c', rfl, hm', hmc, hcm, hrr⟩, hat, hl, hD, hS, hz⟩, ho⟩
    have HO := Lib.hid ho
    have kk : ∀ b j, b < w.heap.size + 1 + 1 + 1 → w5.cell? ⟨b, j, none⟩ = w4.cell? ⟨b, j, none⟩ := fun b j hb => HO.out.cell (p := ⟨b, j, none⟩) (by have := K4.out.2.2.2.2.1; simp only []; omega) (by simp only []; omega)
    have zz : ∀ b j, b < w.heap.size + 1 + 1 + 1 → w5.frozen? ⟨b, j, none⟩ = w4.frozen? ⟨b, j, none⟩ := fun b j hb => World.frozen?_of_block (w := w4) (HO.out.block b (by have := K4.out.2.2.2.2.1; omega) (by omega))
    have pz : At w5 w.heap.size 0 Wig.Fr.zero none 0 none 0 := K4.out.1.keeps fun j => kk _ j (by omega)
    have qz := (kk _ _ (by omega)).trans K4.out.2.1
    have ez := (kk _ _ (by omega)).trans K4.out.2.2.1
    have zp : ∀ j, w5.frozen? ⟨w.heap.size, j, none⟩ = false := fun j => (zz _ j (by omega)).trans (K4.out.2.2.2.1 _ _ (by omega) (by omega))
    have zq := (zz (w.heap.size + 1) 0 (by omega)).trans (K4.out.2.2.2.1 _ _ (by omega) (by omega))
    have ze := (zz (w.heap.size + 1 + 1) 0 (by omega)).trans (K4.out.2.2.2.1 _ _ (by omega) (by omega))
    have B5 := Lib.hid (K4.out.2.2.2.2.2.trans (HO.out.below (B := w.heap.size) (by omega) (by have := K4.out.2.2.2.2.1; omega)))
    have S5 := Lib.hid (show w.heap.size + 4 ≤ w5.heap.size by have := HO.out.size; have := K4.out.2.2.2.2.1; omega)
    have HL := Lib.hid hl
    have PZ := Lib.hid pz
    have k0 := hat.c0
    have k1 := hat.c1
    have k2 := hat.c2
    have k3 := hat.c3
    have k4 := hat.c4
    have k5 := hat.c5
    have k6 := hat.c6
    have k7 := hat.c7
    have k8 := hat.c8
    have k9 := hat.c9
    have p0 := pz.c0
    have p1 := pz.c1
    have p2 := pz.c2
    have p3 := pz.c3
    have p4 := pz.c4
    have p5 := pz.c5
    have p6 := pz.c6
    have p7 := pz.c7
    have p8 := pz.c8
    have p9 := pz.c9
    have y0 := zp 0
    have y1 := zp 1
    have y2 := zp 2
    have y3 := zp 3
    have y4 := zp 4
    have y5 := zp 5
    have y6 := zp 6
    have y7 := zp 7
    have y8 := zp 8
    have y9 := zp 9
    simp only [Nat.zero_add, Nat.reduceAdd] at k0 k1 k2 k3 k4 k5 k6 k7 k8 k9 p0 p1 p2 p3 p4 p5 p6 p7 p8 p9
    have HM := Lib.hid (And.intro hm' HX.out.2.1)
    have wl : IntKind.i64.wrap ((n : Int) - (m : Int)) = ((n - m : Nat) : Int) := by have := HX.out; have := HRL.out; rw [IntKind.wrap_i64]; omega
    have FIN := parse_end (n := n - m) PZ.out qz ez B5.out HL.out hD hS
    have F := Lib.hid FIN
    have HDS := Lib.hid (And.intro hD hS)
    clear ho hm' hmc hcm hrr hat hl hD hS hz kk zz pz zp hpb C FIN
    go_wp2_with fail
    go_region
    obtain ⟨wz, hwz⟩ : ∃ wz, wz = ((((w5.setCells w.heap.size 0 (farr f D dc S sc).toList).setCell ⟨w.heap.size + 1, 0, none⟩ (.int .i64 ((n - m : Nat) : Int))).setCell ⟨w.heap.size + 1 + 1, 0, none⟩ (.int .i64 0)).drew) := ⟨_, rfl⟩
    obtain ⟨fa, fq, fe, fb, fl⟩ := F.out wz hwz
    simp only [World.setCells, farr, Nat.zero_add, Nat.reduceAdd] at hwz
    rw [← hwz]
    clear hwz F k0 k1 k2 k3 k4 k5 k6 k7 k8 k9 p0 p1 p2 p3 p4 p5 p6 p7 p8 p9 y0 y1 y2 y3 y4 y5 y6 y7 y8 y9
    go_wp2_with fail
    refine leaves_cons (f := 29) (args := #[.pointer (some ⟨w.heap.size, 0, none⟩), .pointer (some ⟨w.heap.size + 1, 0, none⟩), .pointer (some ⟨w.heap.size + 1 + 1, 0, none⟩)]) (by simp) (by simp [go_sem]) ?_
    refine (catch_idle ⟨w.heap.size, 0, none⟩ ⟨w.heap.size + 1, 0, none⟩ ⟨w.heap.size + 1 + 1, 0, none⟩ wz).mono ?_
    rintro e u' w6 ⟨rfl, rfl, rfl⟩
    have k0 := fa.c0
    have k1 := fa.c1
    have k2 := fa.c2
    have k3 := fa.c3
    have k4 := fa.c4
    have k5 := fa.c5
    have k6 := fa.c6
    have k7 := fa.c7
    have k8 := fa.c8
    have k9 := fa.c9
    simp [Leaves, settle, results, Tryd.results11, go_sem, k0, k1, k2, k3, k4, k5, k6, k7, k8, k9, fq, fe]
    have r' := R.out
    unfold ParseAt
    rw [r'.1, r'.2.1, r'.2.2, ← HM.out.2, ← HM.out.1]
    exact ⟨D, dc, S, sc, rfl, fl, fb, (fun b o s e => by have := HDS.out.1 b o s e; omega), (fun b o s e => by have := HDS.out.2 b o s e; omega)⟩
end Go.Proofs.YtogioabdijgglaaDoor
