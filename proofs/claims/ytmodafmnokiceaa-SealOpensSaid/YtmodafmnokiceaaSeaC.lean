/-
  What package seal's Pack returns, for all numbers of 64 bits and at most two thousand bytes: the datagram in memory of its own, or the error. No condition.
-/
import Derived.Test.YtmodafmnokiceaaSeaN
import Derived.Test.YtmodafmnokiceaaSeaB
import Derived.Test.YtmodafmnokiceaaPnmG
namespace Go.Proofs.Ytmodafmnokiceaa
open Go.ChangeShapes Go.WideShapes Go.ChangeAt Go.RowKit Go.Deep
set_option linter.unusedVariables false

/-- What Pack and the document's Pack return. -/
def PacksAt (a b : Nat) (xs : List Nat) (w : World) (e : Ending) (w' : World) : Prop :=
  ∃ A n c, e = .returned (.tuple #[.slice A n c, .int .i64 ((Wig.spackErr a b xs : Nat) : Int)]) ∧ n = (Wig.spack a b xs).length ∧ n ≤ c ∧ c ≤ maxLen ∧ RdN .u8 w' w'.heap.size A (Wig.spack a b xs) ∧ (Wig.spack a b xs = [] → A = none) ∧ Below w.heap.size w w'
theorem packs_no {a b : Nat} {xs : List Nat} (h : Wig.sfits a b xs = false) {w w' : World} (hb : Below w.heap.size w w') : PacksAt a b xs w (.returned (.tuple #[.slice none 0 0, .int .i64 1])) w' := by
  have e1 : Wig.spackErr a b xs = 1 := by unfold Wig.spackErr; rw [if_neg (by simp [h])]
  have e2 : Wig.spack a b xs = [] := by unfold Wig.spack; rw [if_neg (by simp [h])]
  exact ⟨none, 0, 0, by rw [e1]; rfl, by rw [e2]; rfl, by omega, by simp only [maxLen]; omega, by rw [e2]; exact RdN.empty, fun _ => rfl, hb⟩
theorem packs_yes {a b : Nat} {xs : List Nat} (h : Wig.sfits a b xs = true) {w w' : World} {v : Value} {base : Nat} (ho : OwnN .u8 5 w' base v (Wig.sealed (Wig.sbody a b xs))) (hb : Below w.heap.size w w') : PacksAt a b xs w (.returned (.tuple #[v, .int .i64 0])) w' := by
  have e1 : Wig.spackErr a b xs = 0 := by unfold Wig.spackErr; rw [if_pos h]
  have e2 : Wig.spack a b xs = Wig.sealed (Wig.sbody a b xs) := by unfold Wig.spack; rw [if_pos h]
  obtain ⟨A, c, rfl, h1, h2, hr, _⟩ := ho.rd
  refine ⟨A, _, c, by rw [e1]; rfl, by rw [e2], h1, h2, by rw [e2]; exact hr, fun h0 => ?_, hb⟩
  have := Wig.sealed_length (Wig.sbody a b xs)
  rw [e2] at h0
  rw [h0] at this
  simp at this

set_option maxHeartbeats 1000000 in
theorem pack_no (a b : Nat) (A : Option Addr) (c n : Nat) (xs : List Nat) (w : World) (ha : a < 18446744073709551616) (hb : b < 18446744073709551616) (hn : n = xs.length) (hl : n ≤ 2000) (hf : Wig.sfits a b xs = false) :
    Calls Try.prog 12 #[.int .u64 (a : Int), .int .u64 (b : Int), .slice A n c] w (PacksAt a b xs w) := by
  obtain ⟨s, hs⟩ : ∃ s, s = Wig.psize a b := ⟨_, rfl⟩
  have s4 := Wig.psize_range a b
  rw [← hs] at s4
  obtain ⟨r, hr⟩ : ∃ r, r = 1195 - s := ⟨_, rfl⟩
  have e1 : (1199 : Int) - (s : Int) - 4 = (r : Int) := by omega
  have hc := of_decide_eq_false hf
  rw [← hs] at hc
  have F := Lib.hid hf
  have C := Lib.hid (fun w => size_gives a b s w hs.symm ha hb)
  have T : decide ((4611686018427387903 : Int) < (a : Int)) = true ∨ (decide ((4611686018427387903 : Int) < (a : Int)) = false ∧ (n = 0 ∨ (((n : Int) == 0) = false ∧ decide (r < n) = true))) := by
    by_cases h1 : a ≤ 4611686018427387903
    · refine .inr ⟨decide_eq_false (by omega), ?_⟩
      by_cases h2 : n = 0
      · exact .inl h2
      · exact .inr ⟨by simp; omega, decide_eq_true (by omega)⟩
    · exact .inl (decide_eq_true (by omega))
  clear ha hb hn hl hf hs s4 hr hc
  rcases T with t1 | ⟨t1, rfl | ⟨t2, t3⟩⟩
  all_goals
    go_enter Try.func12, Try.ntmps12
    go_wp2_with fail
    refine (C.out _).mono ?_
    rintro e w1 ⟨rfl, hb1⟩
    have B1 := Lib.hid hb1
    clear hb1
    go_wp2_with fail
    go_ret2
    exact packs_no F.out B1.out

theorem nil_own8 (w : World) (base : Nat) : OwnN .u8 5 w base (.slice none 0 0) [] := World.ownsRow_nil w base _ _

set_option maxHeartbeats 2000000 in
theorem pack_yes (a b : Nat) (A : Option Addr) (c n : Nat) (xs : List Nat) (w : World) (ha : a < 18446744073709551616) (hb : b < 18446744073709551616) (hx : Wig.Bytes xs) (hn : n = xs.length) (hl : n ≤ 2000) (hr : RdN .u8 w w.heap.size A xs) (hf : Wig.sfits a b xs = true) :
    Calls Try.prog 12 #[.int .u64 (a : Int), .int .u64 (b : Int), .slice A n c] w (PacksAt a b xs w) := by
  obtain ⟨i0, hi, hz0, hz1, hz2⟩ := info_parts bytes_info
  obtain ⟨s, hs⟩ : ∃ s, s = Wig.psize a b := ⟨_, rfl⟩
  have s4 := Wig.psize_range a b
  rw [← hs] at s4
  obtain ⟨r, hrr⟩ : ∃ r, r = 1195 - s := ⟨_, rfl⟩
  obtain ⟨q, hq⟩ : ∃ q, q = 1 + s + n + 4 := ⟨_, rfl⟩
  obtain ⟨h, hh⟩ : ∃ h, h = 63 + s := ⟨_, rfl⟩
  obtain ⟨p, hp⟩ : ∃ p, p = a % Wig.pwin (Wig.psize a b) := ⟨_, rfl⟩
  have hc := of_decide_eq_true hf
  rw [← hs] at hc
  have pk : Wig.pk (s : Int) = s := by have := Wig.pk_cases (s : Int); omega
  have e1 : (1199 : Int) - (s : Int) - 4 = (r : Int) := by omega
  have e2 : (1 : Int) + (s : Int) + (n : Int) + 4 = (q : Int) := by omega
  have e3 : (63 : Int) + (s : Int) = (h : Int) := by omega
  have e4 : IntKind.u8.wrap (h : Int) = (h : Int) := by rw [IntKind.wrap_u8]; omega
  have t1 : decide ((4611686018427387903 : Int) < (a : Int)) = false := decide_eq_false (by omega)
  have t2 : ((n : Int) == 0) = false := by simp; omega
  have t3 : decide (r < n) = false := decide_eq_false (by omega)
  have F := Lib.hid hf
  have C1 := Lib.hid (fun w => size_gives a b s w hs.symm ha hb)
  have C2 := Lib.hid (fun w => cut_gives a (s : Int) p w (by rw [pk, hp, hs]))
  have HBody := Lib.hid (show Wig.sbody a b xs = h :: (Wig.be s p ++ xs) by unfold Wig.sbody; rw [hh, hp, hs])
  have HX := Lib.hid hx
  have HR := Lib.hid hr
  have HN := Lib.hid hn
  have HL := Lib.hid (And.intro hl (And.intro s4 hq))
  have n2 : n ≤ 2000 := hl
  have s5 : s ≤ 4 := s4.2
  clear ha hb hx hn hl hr hf hs s4 hrr hq hh hp hc pk
  go_enter Try.func12, Try.ntmps12
  go_wp2_with fail
  refine (C1.out _).mono ?_
  rintro e w1 ⟨rfl, hb1⟩
  have B1 := Lib.hid hb1
  have R1 := Lib.hid (HR.out.step hb1)
  clear hb1
  go_wp2_with (at_make; refine wpList_make_own _ rfl _ _ 24 rfl w1.heap.size 5 i0 _ 1 Try.underlying24 hi hz0 hz1 _ _ _ q rfl rfl rfl (by rw [hz2]; have := HL.out; omega) (by have := HL.out; simp only [maxLen]; omega) (Nat.le_refl _) ?_)
  intro w2 hown2 hg2
  have hb2 : Below w1.heap.size w1 w2 := (Below.refl _ _).grown hg2 (Nat.le_refl _) (fun _ h => by cases h)
  have O2 := Lib.hid (show OwnN .u8 5 w2 w1.heap.size (.slice (some ⟨w1.heap.size, 0, none⟩) 0 q) [] from hown2)
  have B2 := Lib.hid hb2
  have R2 := Lib.hid (R1.out.step hb2)
  have Z2 := Lib.hid hb2.size
  have O2a := Lib.hid (O2.out.below ((Below.refl _ _).alloc (Nat.le_refl _) (.cells #[.int .u8 (h : Int)] 5)) (Nat.le_refl _))
  clear hown2 hg2 hb2
  go_wp2_with (at_builtin; refine wpList_append_bytes rfl _ _ rfl w1.heap.size _ _ [h] rfl O2a.out (w2.heap.size + 1) (some ⟨w2.heap.size, 0, none⟩) 1 1 rfl rfl (lit_u8 w2 h) (by simp) (by have := Z2.out; simp; omega) ?_)
  intro v3 w3 hown3 hg3
  have hb3 : Below w1.heap.size (w2.alloc (.cells #[.int .u8 (h : Int)] 5)) w3 := (Below.refl _ _).grown hg3 (by have := Z2.out; simp; omega) (fun q hq => (O2a.out.block q hq).1)
  have B3 := Lib.hid (((B2.out.alloc Z2.out (.cells #[.int .u8 (h : Int)] 5)).trans hb3))
  have O3 := Lib.hid hown3
  have R3 := Lib.hid (R1.out.step B3.out)
  have Z3 := Lib.hid B3.out.size
  clear hown3 hg3 hb3 O2a O2 R2 B2 Z2
  go_wp2_with fail
  refine (C2.out _).mono ?_
  rintro e w' ⟨rfl, rfl⟩
  have L := Lib.hid (layPart_any v3 [h] p s w3 w1.heap.size O3.out Z3.out s5 (by simp))
  go_wp2_with fail
  refine (L.out).mono ?_
  rintro e w4 ⟨v4, rfl, hown4, hb4⟩
  have O4 := Lib.hid hown4
  have B4 := Lib.hid (B3.out.trans hb4)
  have R4 := Lib.hid (R1.out.step B4.out)
  have Z4 := Lib.hid B4.out.size
  have LL := Lib.hid (show ([h] ++ Wig.be s p).length + n ≤ 1000000 by rw [List.length_append, Wig.be_length]; simp; omega)
  clear hown4 hb4 L O3 B3 R3 Z3
  go_wp2_with (at_builtin; refine wpList_append_bytes rfl _ _ rfl w1.heap.size _ _ xs rfl O4.out w4.heap.size A c n HN.out.symm rfl R4.out LL.out Z4.out ?_)
  intro v5 w5 hown5 hg5
  have hb5 : Below w1.heap.size w4 w5 := (Below.refl _ _).grown hg5 Z4.out (fun q hq => (O4.out.block q hq).1)
  have O5 : OwnN .u8 5 w5 w1.heap.size v5 (Wig.sbody a b xs) := by rw [HBody.out]; simpa using hown5
  have B5 := B4.out.trans hb5
  have L := Lib.hid (withSum_any v5 (Wig.sbody a b xs) w5 w1.heap.size (.inl O5) B5.size (Wig.sbody_bytes a b HX.out) (by rw [Wig.sbody_length]; have := HN.out; have := Wig.psize_range a b; omega))
  have B5' := Lib.hid B5
  clear hown5 hg5 hb5 O4 B4 R4 Z4 LL O5 B5
  go_wp2_with fail
  refine (L.out).mono ?_
  rintro e w6 ⟨v6, rfl, hown6, hb6⟩
  have R := Lib.hid (packs_yes F.out hown6 (below_trans' B1.out (B5'.out.trans hb6)))
  clear hown6 hb6 L
  go_wp2_with fail
  go_ret2
  exact R.out

theorem pack_any (a b : Nat) (A : Option Addr) (c n : Nat) (xs : List Nat) (w : World) (ha : a < 18446744073709551616) (hb : b < 18446744073709551616) (hx : Wig.Bytes xs) (hn : n = xs.length) (hl : n ≤ 2000) (hr : RdN .u8 w w.heap.size A xs) :
    Calls Try.prog 12 #[.int .u64 (a : Int), .int .u64 (b : Int), .slice A n c] w (PacksAt a b xs w) := by
  cases hf : Wig.sfits a b xs with
  | true => exact pack_yes a b A c n xs w ha hb hx hn hl hr hf
  | false => exact pack_no a b A c n xs w ha hb hn hl hf
end Go.Proofs.Ytmodafmnokiceaa
