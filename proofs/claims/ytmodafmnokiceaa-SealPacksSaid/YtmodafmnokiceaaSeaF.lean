/-
  What the document's Pack of layer 6 returns, for all numbers of 64 bits and at most two thousand bytes. No condition.
-/
import Derived.Test.YtmodafmnokiceaaSeaW
namespace Go.Proofs.Ytmodafmnokiceaa
open Go.ChangeShapes Go.WideShapes Go.ChangeAt Go.RowKit Go.Deep
set_option linter.unusedVariables false

theorem le_four (s : Nat) : Wig.le 4 s = [s % 256, s / 256 % 256, s / 65536 % 256, s / 16777216 % 256] := by
  simp only [Wig.le, Nat.div_div_eq_div_mul]

set_option maxHeartbeats 1000000 in
theorem rsummed_any (A : Option Addr) (n c : Nat) (xs : List Nat) (w : World) (hx : Wig.Bytes xs) (hn : n = xs.length) (hl : n ≤ 100000) (hr : RdN .u8 w w.heap.size A xs) :
    Calls Try.prog 24 #[.slice A n c] w fun e w' => ∃ v, e = .returned v ∧ OwnN .u8 5 w' w.heap.size v (Wig.sealed xs) ∧ Below w.heap.size w w' := by
  obtain ⟨s, hs⟩ : ∃ s, s = Wig.csum xs := ⟨_, rfl⟩
  have C := Lib.hid (rsum_gives A n c xs s w hs.symm hx hn (by omega) hr)
  obtain ⟨y0, h0⟩ : ∃ y, y = s % 256 := ⟨_, rfl⟩
  obtain ⟨y1, h1⟩ : ∃ y, y = s / 256 % 256 := ⟨_, rfl⟩
  obtain ⟨y2, h2⟩ : ∃ y, y = s / 65536 % 256 := ⟨_, rfl⟩
  obtain ⟨y3, h3⟩ : ∃ y, y = s / 16777216 % 256 := ⟨_, rfl⟩
  have e0 : (s : Int) % 256 = (y0 : Int) := by omega
  have e1 : (s : Int) / 256 % 256 = (y1 : Int) := by omega
  have e2 : (s : Int) / 65536 % 256 = (y2 : Int) := by omega
  have e3 : (s : Int) / 16777216 % 256 = (y3 : Int) := by omega
  have HS := Lib.hid (show Wig.sealed xs = xs ++ [y0, y1, y2, y3] by unfold Wig.sealed; rw [← hs, le_four, h0, h1, h2, h3])
  have HR := Lib.hid hr
  have HN := Lib.hid (And.intro hn hl)
  have O1 := Lib.hid (own_none w)
  have E1 := Lib.hid ((Below.refl w.heap.size w).alloc (Nat.le_refl _) (.cells #[] 5))
  clear hx hn hl hr hs h0 h1 h2 h3
  go_enter Try.func24, Try.ntmps24
  go_wp2_with fail
  refine (C.out).mono ?_
  rintro e w' ⟨rfl, rfl⟩
  go_wp2_with (at_builtin; refine wpList_append_bytes rfl _ _ rfl w.heap.size _ [] xs rfl O1.out w.heap.size A c n HN.out.1.symm rfl (HR.out.below E1.out) (by have := HN.out; simp; omega) (by simp) ?_)
  intro v2 w2 hown2 hg2
  have hb2 : Below w.heap.size w w2 := E1.out.grown hg2 (by simp) (fun q hq => (O1.out.block q hq).1)
  obtain ⟨w3, hw3⟩ : ∃ w3, w3 = w2.alloc (.cells #[.int .u8 (y0 : Int), .int .u8 (y1 : Int), .int .u8 (y2 : Int), .int .u8 (y3 : Int)] 5) := ⟨_, rfl⟩
  have O3 := Lib.hid (show OwnN .u8 5 w3 w.heap.size v2 xs by rw [hw3]; exact hown2.below ((Below.refl _ _).alloc (Nat.le_refl _) _) (Nat.le_refl _))
  have B3 := Lib.hid (show Below w.heap.size w w3 by rw [hw3]; exact hb2.alloc hb2.size _)
  have R3 := Lib.hid (show RdN .u8 w3 w3.heap.size (some ⟨w2.heap.size, 0, none⟩) [y0, y1, y2, y3] by rw [hw3]; exact lit_many w2 _ _ (0, 0) rfl)
  subst hw3
  clear hown2 hg2 hb2 O1 E1
  go_wp2_with (at_builtin; refine wpList_append_bytes rfl _ _ rfl w.heap.size _ xs [y0, y1, y2, y3] rfl O3.out _ (some ⟨w2.heap.size, 0, none⟩) 4 4 rfl rfl R3.out (by have := HN.out; omega) B3.out.size ?_)
  intro v4 w4 hown4 hg4
  have hb4 := B3.out.grown hg4 B3.out.size (fun q hq => (O3.out.block q hq).1)
  have R := Lib.hid (And.intro hown4 hb4)
  clear hown4 hb4 hg4
  go_wp2_with fail
  go_ret
  exact ⟨_, rfl, by rw [HS.out]; exact R.out.1, R.out.2⟩

/-- At the document's round's head: k bytes of the part lie there. -/
def RpartRel (h s p base : Nat) (w : World) (vo vi : Value) (wr : World) : Prop :=
  ∃ k : Nat, k ≤ s ∧ vi = .int .i64 ((s : Int) - 1 - (k : Int)) ∧ OwnN .u8 5 wr base vo (h :: (Wig.be s p).take k) ∧ Below base w wr

set_option maxHeartbeats 1000000 in
theorem rpack_no (a b : Nat) (A : Option Addr) (c n : Nat) (xs : List Nat) (w : World) (ha : a < 18446744073709551616) (hb : b < 18446744073709551616) (hn : n = xs.length) (hl : n ≤ 2000) (hf : Wig.sfits a b xs = false) :
    Calls Try.prog 13 #[.int .u64 (a : Int), .int .u64 (b : Int), .slice A n c] w (PacksAt a b xs w) := by
  obtain ⟨s, hs⟩ : ∃ s, s = Wig.psize a b := ⟨_, rfl⟩
  have s4 := Wig.psize_range a b
  rw [← hs] at s4
  obtain ⟨r, hr⟩ : ∃ r, r = 1195 - s := ⟨_, rfl⟩
  have e1 : (1195 : Int) - (s : Int) = (r : Int) := by omega
  have hc := of_decide_eq_false hf
  rw [← hs] at hc
  have F := Lib.hid hf
  have C := Lib.hid (fun w => rsize_gives a b s w hs.symm ha hb)
  have T : decide ((4611686018427387903 : Int) < (a : Int)) = true ∨ (decide ((4611686018427387903 : Int) < (a : Int)) = false ∧ (n = 0 ∨ (((n : Int) == 0) = false ∧ decide (r < n) = true))) := by
    by_cases h1 : a ≤ 4611686018427387903
    · refine .inr ⟨decide_eq_false (by omega), ?_⟩
      by_cases h2 : n = 0
      · exact .inl h2
      · exact .inr ⟨by simp; omega, decide_eq_true (by omega)⟩
    · exact .inl (decide_eq_true (by omega))
  clear ha hb hn hl hf hs s4 hr hc
  rcases T with t1 | ⟨t1, rfl | ⟨t2, t3⟩⟩
  all_goals
    go_enter Try.func13, Try.ntmps13
    go_wp2_with fail
    refine (C.out _).mono ?_
    rintro e w' ⟨rfl, rfl⟩
    go_wp2_with fail
    go_ret2
    exact packs_no F.out (Below.refl _ _)

set_option maxHeartbeats 2000000 in
theorem rpack_yes (a b : Nat) (A : Option Addr) (c n : Nat) (xs : List Nat) (w : World) (ha : a < 18446744073709551616) (hb : b < 18446744073709551616) (hx : Wig.Bytes xs) (hn : n = xs.length) (hl : n ≤ 2000) (hr : RdN .u8 w w.heap.size A xs) (hf : Wig.sfits a b xs = true) :
    Calls Try.prog 13 #[.int .u64 (a : Int), .int .u64 (b : Int), .slice A n c] w (PacksAt a b xs w) := by
  obtain ⟨s, hs⟩ : ∃ s, s = Wig.psize a b := ⟨_, rfl⟩
  have s4 := Wig.psize_range a b
  rw [← hs] at s4
  obtain ⟨r, hrr⟩ : ∃ r, r = 1195 - s := ⟨_, rfl⟩
  obtain ⟨h, hh⟩ : ∃ h, h = 63 + s := ⟨_, rfl⟩
  obtain ⟨p, hp⟩ : ∃ p, p = a % Wig.pwin (Wig.psize a b) := ⟨_, rfl⟩
  have hc := of_decide_eq_true hf
  rw [← hs] at hc
  have pk : Wig.pk (s : Int) = s := by have := Wig.pk_cases (s : Int); omega
  have e1 : (1195 : Int) - (s : Int) = (r : Int) := by omega
  have e3 : (63 : Int) + (s : Int) = (h : Int) := by omega
  have e4 : IntKind.u8.wrap (h : Int) = (h : Int) := by rw [IntKind.wrap_u8]; omega
  have t1 : decide ((4611686018427387903 : Int) < (a : Int)) = false := decide_eq_false (by omega)
  have t2 : ((n : Int) == 0) = false := by simp; omega
  have t3 : decide (r < n) = false := decide_eq_false (by omega)
  have F := Lib.hid hf
  have C1 := Lib.hid (fun w => rsize_gives a b s w hs.symm ha hb)
  have C2 := Lib.hid (fun w => rcut_gives a (s : Int) p w (by rw [pk, hp, hs]))
  have HBody := Lib.hid (show Wig.sbody a b xs = h :: (Wig.be s p ++ xs) by unfold Wig.sbody; rw [hh, hp, hs])
  have HX := Lib.hid hx
  have HR := Lib.hid hr
  have HN := Lib.hid (And.intro hn (And.intro hl s4))
  obtain ⟨w1, hw1⟩ : ∃ w1, w1 = w.alloc (.cells #[.int .u8 (h : Int)] 5) := ⟨_, rfl⟩
  have O1 := Lib.hid (show OwnN .u8 5 w1 w.heap.size (.slice (some ⟨w.heap.size, 0, none⟩) 1 1) [h] by rw [hw1]; exact World.ownsRow_lit (size := 1) w #[.int .u8 (h : Int)] 1 (Nat.le_refl _) (by decide) rfl)
  have B1 := Lib.hid (show Below w.heap.size w w1 by rw [hw1]; exact (Below.refl _ _).alloc (Nat.le_refl _) _)
  have n2 : n ≤ 2000 := hl
  have s5 : s ≤ 4 := s4.2
  clear ha hb hx hn hl hr hf hs s4 hrr hh hp hc pk
  go_enter Try.func13, Try.ntmps13
  go_wp2_with fail
  refine (C1.out _).mono ?_
  rintro e w' ⟨rfl, rfl⟩
  go_wp2_with fail
  refine (C2.out _).mono ?_
  rintro e w' ⟨rfl, rfl⟩
  go_wp2_with fail
  rw [← hw1]
  clear hw1
  go_loopw [10, 11] (fun vo vi wr => RpartRel h s p w.heap.size w vo vi wr) (fun _ i _ => (intOf i + 1).toNat)
  case atStart => exact ⟨0, by omega, (by congr 1; try omega), by rw [List.take_zero]; exact O1.out, B1.out⟩
  case round =>
    obtain ⟨k, hk, rfl, hown, hbel⟩ := hrel
    have KO := Lib.hid hown
    have KB := Lib.hid hbel
    clear hown hbel
    by_cases hlt : k < s
    · obtain ⟨m, hm⟩ : ∃ m, m = s - 1 - k := ⟨_, rfl⟩
      obtain ⟨y, hy⟩ : ∃ y, y = p / 256 ^ m % 256 := ⟨_, rfl⟩
      have m8 : m < 8 := by omega
      have ob := byte_out p m m8
      rw [← hy, show min ((8 * (m : Int)).toNat) 64 = 8 * m by omega, IntKind.wrap_u8] at ob
      have em : (s : Int) - 1 - (k : Int) = (m : Int) := by omega
      rw [em]
      have tm : decide ((0 : Int) ≤ (m : Int)) = true := decide_eq_true (by omega)
      have hat := Wig.be_at s p k hlt
      rw [← hm, ← hy] at hat
      have HT := Lib.hid (take_one hat)
      have SZ := Lib.hid KB.out.size
      have OA := Lib.hid (show OwnN .u8 5 (wr.alloc (.cells #[.int .u8 (y : Int)] 5)) w.heap.size u10 (h :: (Wig.be s p).take k) from KO.out.below ((Below.refl _ _).alloc (Nat.le_refl _) _) (Nat.le_refl _))
      have BA := Lib.hid (KB.out.alloc SZ.out (.cells #[.int .u8 (y : Int)] 5))
      have LE := Lib.hid (show (h :: (Wig.be s p).take k).length + 1 ≤ 1000000 by rw [List.length_cons, List.length_take]; omega)
      have HK := Lib.hid (And.intro hlt hm)
      clear hy hm hat hk em hlt
      go_wp2_with (at_builtin; refine wpList_append_bytes rfl _ _ rfl w.heap.size _ _ [y] rfl OA.out (wr.heap.size + 1) (some ⟨wr.heap.size, 0, none⟩) 1 1 rfl rfl (lit_u8 wr y) LE.out (by have := SZ.out; simp; omega) ?_)
      intro v2 w2 hown2 hg2
      have hb2 : Below w.heap.size (wr.alloc (.cells #[.int .u8 (y : Int)] 5)) w2 := (Below.refl _ _).grown hg2 (by have := SZ.out; simp; omega) (fun q hq => (OA.out.block q hq).1)
      have hown2' : OwnN .u8 5 w2 w.heap.size v2 (h :: (Wig.be s p).take (k + 1)) := by rw [HT.out]; simpa using hown2
      have O2 := Lib.hid hown2'
      have B2 := Lib.hid (BA.out.trans hb2)
      clear hown2 hown2' hb2 hg2 ob
      go_wp2_with fail
      go_roundw
      case rel => exact ⟨k + 1, HK.out.1, (by have := HK.out; congr 1; try omega), O2.out, B2.out⟩
      case measure => (have := HK.out; simp [intOf]; try omega)
    · obtain rfl : k = s := by omega
      have em : (k : Int) - 1 - (k : Int) = -1 := by omega
      rw [em]
      have hok := KO.out
      rw [List.take_of_length_le (by rw [Wig.be_length]; exact Nat.le_refl _)] at hok
      have O2 := Lib.hid hok
      have R2 := Lib.hid (HR.out.step KB.out)
      have LL := Lib.hid (show (h :: Wig.be k p).length + n ≤ 1000000 by rw [List.length_cons, Wig.be_length]; omega)
      clear em hok hk hlt
      go_wp2_with (at_builtin; refine wpList_append_bytes rfl _ _ rfl w.heap.size _ _ xs rfl O2.out wr.heap.size A c n HN.out.1.symm rfl R2.out LL.out KB.out.size ?_)
      intro v5 w5 hown5 hg5
      have hb5 : Below w.heap.size wr w5 := (Below.refl _ _).grown hg5 KB.out.size (fun q hq => (O2.out.block q hq).1)
      have O5 : OwnN .u8 5 w5 w.heap.size v5 (Wig.sbody a b xs) := by rw [HBody.out]; simpa using hown5
      have hl5 : (Wig.sbody a b xs).length ≤ 100000 := by rw [Wig.sbody_length]; have := HN.out; have := Wig.psize_range a b; omega
      obtain ⟨A5, c5, rfl, -, -, r5, -⟩ := O5.rd
      have L := Lib.hid (rsummed_any A5 _ c5 (Wig.sbody a b xs) w5 (Wig.sbody_bytes a b HX.out) rfl hl5 r5)
      have B5 := Lib.hid (KB.out.trans hb5)
      clear hown5 hg5 hb5 O5 r5 hl5
      obtain ⟨n5, hn5⟩ : ∃ n5, n5 = (Wig.sbody a b xs).length := ⟨_, rfl⟩
      rw [← hn5] at L ⊢
      clear hn5
      go_wp2_with fail
      refine (L.out).mono ?_
      rintro e w6 ⟨v6, rfl, hown6, hb6⟩
      have R := Lib.hid (packs_yes F.out hown6 (B5.out.trans (hb6.mono B5.out.size)))
      clear hown6 hb6 L
      go_wp2_with fail
      go_ret2
      exact R.out

theorem rpack_any (a b : Nat) (A : Option Addr) (c n : Nat) (xs : List Nat) (w : World) (ha : a < 18446744073709551616) (hb : b < 18446744073709551616) (hx : Wig.Bytes xs) (hn : n = xs.length) (hl : n ≤ 2000) (hr : RdN .u8 w w.heap.size A xs) :
    Calls Try.prog 13 #[.int .u64 (a : Int), .int .u64 (b : Int), .slice A n c] w (PacksAt a b xs w) := by
  cases hf : Wig.sfits a b xs with
  | true => exact rpack_yes a b A c n xs w ha hb hx hn hl hr hf
  | false => exact rpack_no a b A c n xs w ha hb hn hl hf
theorem rpack_gives (a b : Nat) (A : Option Addr) (c n : Nat) (xs ys : List Nat) (r : Nat) (w : World) (hp : Wig.spack a b xs = ys) (he : Wig.spackErr a b xs = r) (ha : a < 18446744073709551616) (hb : b < 18446744073709551616) (hx : Wig.Bytes xs) (hn : n = xs.length) (hl : n ≤ 2000) (hr : RdN .u8 w w.heap.size A xs) :
    Calls Try.prog 13 #[.int .u64 (a : Int), .int .u64 (b : Int), .slice A n c] w fun e w' => ∃ A n c, e = .returned (.tuple #[.slice A n c, .int .i64 (r : Int)]) ∧ n = ys.length ∧ n ≤ c ∧ c ≤ maxLen ∧ RdN .u8 w' w'.heap.size A ys ∧ (ys = [] → A = none) ∧ Below w.heap.size w w' := by
  subst hp he
  exact rpack_any a b A c n xs w ha hb hx hn hl hr
end Go.Proofs.Ytmodafmnokiceaa
