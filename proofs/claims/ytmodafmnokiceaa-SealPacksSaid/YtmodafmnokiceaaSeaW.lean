/-
  The head of layer 6's statements: the calls whose answers the document fixes answer so. And the contracts of Pack, Open and Sum with their answers as arguments. No condition.
-/
import Derived.Test.YtmodafmnokiceaaSeaE
import Derived.Lib.SlBytesConst
namespace Go.Proofs.Ytmodafmnokiceaa
open Go.ChangeShapes Go.WideShapes Go.ChangeAt Go.RowKit Go.Deep
set_option linter.unusedVariables false

theorem pack_gives (a b : Nat) (A : Option Addr) (c n : Nat) (xs ys : List Nat) (r : Nat) (w : World) (hp : Wig.spack a b xs = ys) (he : Wig.spackErr a b xs = r) (ha : a < 18446744073709551616) (hb : b < 18446744073709551616) (hx : Wig.Bytes xs) (hn : n = xs.length) (hl : n ≤ 2000) (hr : RdN .u8 w w.heap.size A xs) :
    Calls Try.prog 12 #[.int .u64 (a : Int), .int .u64 (b : Int), .slice A n c] w fun e w' => ∃ A n c, e = .returned (.tuple #[.slice A n c, .int .i64 (r : Int)]) ∧ n = ys.length ∧ n ≤ c ∧ c ≤ maxLen ∧ RdN .u8 w' w'.heap.size A ys ∧ (ys = [] → A = none) ∧ Below w.heap.size w w' := by
  subst hp he
  exact pack_any a b A c n xs w ha hb hx hn hl hr
theorem open_gives (A : Option Addr) (n c : Nat) (xs ys : List Nat) (next v r : Nat) (w : World) (hv : Wig.snum xs next = v) (hp : Wig.spay xs = ys) (he : Wig.sopenErr xs = r) (hx : Wig.Bytes xs) (hn : n = xs.length) (hl : n ≤ 1000000) (hc : n ≤ c) (hcm : c ≤ maxLen) (hr : RdN .u8 w w.heap.size A xs) (hnext : next < 18446744073709551616) :
    Calls Try.prog 16 #[.slice A n c, .int .u64 (next : Int)] w fun e w' => ∃ A n c, e = .returned (.tuple #[.int .u64 (v : Int), .slice A n c, .int .i64 (r : Int)]) ∧ n = ys.length ∧ n ≤ c ∧ c ≤ maxLen ∧ RdN .u8 w' w'.heap.size A ys ∧ (ys = [] → A = none) ∧ Below w.heap.size w w' := by
  subst hv hp he
  exact open_any A n c xs next w hx hn hl hc hcm hr hnext
theorem sum_gives (A : Option Addr) (n c : Nat) (xs : List Nat) (s : Nat) (w : World) (hs : Wig.csum xs = s) (hx : Wig.Bytes xs) (hn : n = xs.length) (hm : n ≤ 1000000) (hr : RdN .u8 w w.heap.size A xs) :
    Calls Try.prog 14 #[.slice A n c] w fun e w' => e = .returned (.int .u32 (s : Int)) ∧ Below w.heap.size w w' := by
  subst hs
  exact sum_any A n c xs w hx hn hm hr
theorem rsum_gives (A : Option Addr) (n c : Nat) (xs : List Nat) (s : Nat) (w : World) (hs : Wig.csum xs = s) (hx : Wig.Bytes xs) (hn : n = xs.length) (hm : n ≤ 1000000) (hr : RdN .u8 w w.heap.size A xs) :
    Calls Try.prog 15 #[.slice A n c] w fun e w' => e = .returned (.int .u32 (s : Int)) ∧ w = w' := by
  subst hs
  exact rsum_any A n c xs w hx hn hm hr

/-- A byte. -/
theorem open_u8 {H : Type} {enc : TypeId × Value → H} {P : Program} {w : World} {base : Nat} {spare : Nat → Bool} {held : Bool} {r : Reach} {b0 : Nat} {d : DataW H} {ps : List MemPlace} {v : Value} {t : TypeId} (ht : P.underlying t = some (.int .u8))
    (hv : Value.okWide P w r b0 t v) (h : DataW.Trod enc P w base spare held t v d ps) : ∃ n : Nat, v = .int .u8 (n : Int) ∧ n < 256 := by
  obtain ⟨a, rfl, _, _, wa⟩ := open_int ht hv h
  have hx : 0 ≤ a ∧ a ≤ 255 := by simpa [Lit.wf, IntKind.min, IntKind.max, IntKind.signed, IntKind.bits] using wa
  obtain ⟨n, rfl⟩ := Int.eq_ofNat_of_zero_le hx.1
  exact ⟨n, rfl, by omega⟩

/-- A cell of a row of the call's own; none of them is frozen. -/
theorem own_cell {k : IntKind} {t : TypeId} {w : World} {base g n c : Nat} {xs : List Nat} (h : OwnN k t w base (.slice (some ⟨g, 0, none⟩) n c) xs) {j x : Nat} (hx : xs[j]? = some x) : w.cell? ⟨g, j, none⟩ = some (.int k (x : Int)) := by
  obtain ⟨A, c', e, _, _, hr, _⟩ := h.rd
  injection e with e1
  subst e1
  obtain ⟨b, off, e, _, hcell⟩ := hr (by intro e; subst e; simp at hx)
  injection e with e
  injection e with e1 e2
  subst e1 e2
  have := hcell j x hx
  rwa [Nat.zero_add] at this
theorem own_thaw {k : IntKind} {t : TypeId} {w : World} {base g n c : Nat} {xs : List Nat} (h : OwnN k t w base (.slice (some ⟨g, 0, none⟩) n c) xs) (j : Nat) : w.frozen? ⟨g, j, none⟩ = false := by
  obtain ⟨A, c', e, _⟩ := h.rd
  injection e with e1 e2 e3
  subst e2
  exact World.ownsRow.frozenAt h j
theorem own_none (w : World) : OwnN .u8 5 (w.alloc (.cells #[] 5)) w.heap.size (.slice (some ⟨w.heap.size, 0, none⟩) 0 0) [] := World.ownsRow_lit (size := 1) w #[] 0 (Nat.le_refl _) (by decide) rfl

theorem lit_many (x : World) (ys : List Nat) (arr : Array Value) (m : Nat × Nat) (h : arr.toList = ncells .u8 ys) : RdN .u8 (x.alloc (.cells arr 5 m)) (x.alloc (.cells arr 5 m)).heap.size (some ⟨x.heap.size, 0, none⟩) ys := by
  refine fun _ => ⟨x.heap.size, 0, rfl, by simp, fun j z hj => ?_⟩
  rw [cell_of_row _ _ _ arr 5 m (heap_alloc_new x _), Nat.zero_add, ← Array.getElem?_toList, h]
  exact ncells_at .u8 ys j z hj

set_option maxHeartbeats 2000000 in
theorem awake_any (w : World) : Calls Try.prog 11 #[] w fun e w' => e = .returned (.bool true) ∧ Below w.heap.size w w' := by
  obtain ⟨w0, hw0⟩ : ∃ w0, w0 = w.alloc (.cells #[.int .u8 97] 5) := ⟨_, rfl⟩
  have hb0 : Below w.heap.size w w0 := by rw [hw0]; exact (Below.refl _ _).alloc (Nat.le_refl _) _
  have hr0 : RdN .u8 w0 w0.heap.size (some ⟨w.heap.size, 0, none⟩) [97] := by rw [hw0]; exact lit_many w [97] #[.int .u8 97] (0, 0) rfl
  have B0 := Lib.hid hb0
  have C1 := Lib.hid (pack_gives 5 5 (some ⟨w.heap.size, 0, none⟩) 1 1 [97] [64, 5, 97, 105, 202, 132, 105] 0 w0 (by decide +kernel) (by decide +kernel) (by decide) (by decide) (by unfold Wig.Bytes; decide) rfl (by decide) hr0)
  clear hb0 hr0
  go_enter Try.func11, Try.ntmps11
  go_wp2_with fail
  rw [← hw0]
  clear hw0
  refine (C1.out).mono ?_
  rintro e w1 ⟨A, n, c, rfl, hn, hc, hm, hr, -, hb⟩
  simp only [List.length_cons, List.length_nil] at hn
  subst hn
  have B1 := Lib.hid hb
  have X1 := Lib.hid hr
  have C2 := Lib.hid (open_gives A 7 c [64, 5, 97, 105, 202, 132, 105] [97] 5 5 0 w1 (by decide +kernel) (by decide +kernel) (by decide +kernel) (by unfold Wig.Bytes; decide) rfl (by decide) hc hm hr (by decide))
  clear hb hr hc hm C1
  go_wp2_with fail
  refine (C2.out).mono ?_
  rintro e w2 ⟨A2, n2, c2, rfl, hn2, -, -, hr2, -, hb2⟩
  simp only [List.length_cons, List.length_nil] at hn2
  subst hn2
  have B2 := Lib.hid hb2
  have X2 := Lib.hid hr2
  have C3 := Lib.hid (open_gives none 0 0 [] [] 5 0 60 w2 (by decide +kernel) (by decide +kernel) (by decide +kernel) (by unfold Wig.Bytes; decide) rfl (by decide) (by decide) (by decide) RdN.empty (by decide))
  clear hb2 hr2 C2
  go_wp2_with fail
  refine (C3.out).mono ?_
  rintro e w3 ⟨A3, n3, c3, rfl, -, -, -, -, -, hb3⟩
  have B3 := Lib.hid hb3
  obtain ⟨w4, hw4⟩ : ∃ w4, w4 = w3.alloc (.cells #[.int .u8 49, .int .u8 50, .int .u8 51, .int .u8 52, .int .u8 53, .int .u8 54, .int .u8 55, .int .u8 56, .int .u8 57] 5 (9, 10)) := ⟨_, rfl⟩
  have hb4 : Below w3.heap.size w3 w4 := by rw [hw4]; exact (Below.refl _ _).alloc (Nat.le_refl _) _
  have hr4 : RdN .u8 w4 w4.heap.size (some ⟨w3.heap.size, 0, none⟩) [49, 50, 51, 52, 53, 54, 55, 56, 57] := by rw [hw4]; exact lit_many w3 _ _ _ rfl
  have hcv : (convert 24 24 (.slice (some ⟨w3.heap.size, 0, none⟩) 9 9)).run Try.prog (w3.alloc (.cells #[.int .u8 49, .int .u8 50, .int .u8 51, .int .u8 52, .int .u8 53, .int .u8 54, .int .u8 55, .int .u8 56, .int .u8 57] 5)) = .ok (.slice (some ⟨w3.heap.size, 0, none⟩) 9 9) w4 := by
    rw [hw4]; exact Lib.run_convert_bytes_const w3 24 5 #[.int .u8 49, .int .u8 50, .int .u8 51, .int .u8 52, .int .u8 53, .int .u8 54, .int .u8 55, .int .u8 56, .int .u8 57] 9 9 Try.underlying24 Try.underlying5
  have B4 := Lib.hid hb4
  have C4 := Lib.hid (sum_gives (some ⟨w3.heap.size, 0, none⟩) 9 9 [49, 50, 51, 52, 53, 54, 55, 56, 57] 3808858755 w4 (by decide +kernel) (by unfold Wig.Bytes; decide) rfl (by decide) hr4)
  clear hb3 hb4 hr4 C3
  clear hw4
  go_wp2_with fail
  clear hcv
  refine (C4.out).mono ?_
  rintro e w5 ⟨rfl, hb5⟩
  obtain ⟨b, off, rfl, -, hc⟩ := ((((X1.out.step B2.out).step B3.out).step B4.out).step hb5) (by simp)
  obtain ⟨b2, off2, rfl, -, hc2⟩ := (((X2.out.step B3.out).step B4.out).step hb5) (by simp)
  have k0 := hc 0 64 rfl
  have k1 := hc 1 5 rfl
  have k2 := hc 2 97 rfl
  have k3 := hc2 0 97 rfl
  rw [Nat.add_zero] at k0 k3
  have R := Lib.hid (below_trans' (below_trans' (below_trans' (below_trans' (below_trans' B0.out B1.out) B2.out) B3.out) B4.out) hb5)
  clear hc hc2 hb5 C4
  go_wp2_with fail
  go_ret
  exact ⟨rfl, R.out⟩
end Go.Proofs.Ytmodafmnokiceaa
