/-
  What the head of layer 7's statements returns: true. The calls' contracts with the answers as arguments; an argument's slice of spans, opened with its room. No condition beyond what the memory holds.
-/
import Derived.Test.YtfibbohccaknjaaSpL
namespace Go.Proofs.Ytfibbohccaknjaa
open Go.ChangeShapes Go.WideShapes Go.ChangeAt Go.RowKit Go.Deep Go.Joins
set_option linter.unusedVariables false

/-- An argument's slice of spans, opened, with its room. -/
theorem open_spansc {H : Type} {enc : TypeId × Value → H} {P : Program} {w : World} {base : Nat} {spare : Nat → Bool} {held : Bool} {t e u : TypeId} {f0 f1 : Field} {v : Value} {d : DataW H} {ps : List MemPlace} {r : Reach} {b0 : Nat}
    (ht : P.underlying t = some (.slice e)) (he : P.underlying e = some (.struct #[f0, f1])) (hone : oneCellFields P #[f0, f1] = true) (hC : P.cellsOf e = 2)
    (hf0 : f0.type = u) (hf1 : f1.type = u) (hu : P.underlying u = some (.int .u64))
    (hv : Value.okWide P w r b0 t v) (h : DataW.Trod enc P w base spare held t v d ps) (hlt : ∀ x ∈ ps, x.block < w.heap.size) :
    ∃ A c ss, v = .slice A ss.length c ∧ Wig.SFits ss ∧ RdS w w.heap.size A ss ∧ ss.length ≤ maxLen ∧ ss.length ≤ c := by
  obtain ⟨A, c, ss, rfl, hf, hr, hm⟩ := open_spans ht he hone hC hf0 hf1 hu hv h hlt
  refine ⟨A, c, ss, rfl, hf, hr, hm, ?_⟩
  obtain ⟨fuel, hf'⟩ := h
  rcases open_slice ht hf' with ⟨hcs, _⟩ | ⟨a, len, cap, m, n, D, Pl, hcs, hb, hl, _⟩
  · simp [Value.cells] at hcs
    simp [hcs.2.1]
  · simp [Value.cells] at hcs
    omega

/-- What a call that returns a list of spans leaves: a slice of its own that reads as rr; below the heap's old size nothing has turned. -/
def Gives (w : World) (rr : List Wig.Spn) (n : Nat) (e : Ending) (w' : World) : Prop :=
  ∃ A c, e = .returned (.slice A n c) ∧ n ≤ c ∧ RdS w' w'.heap.size A rr ∧ Below w.heap.size w w' ∧ OwnS w' w.heap.size (.slice A n c) rr
theorem gives {F : FuncId} {args : Array Value} {w : World} {tt rr : List Wig.Spn} {n : Nat} (he : tt = rr) (hn : rr.length = n)
    (h : Calls Try.prog F args w fun e w' => ∃ v, e = .returned v ∧ OwnS w' w.heap.size v tt ∧ Below w.heap.size w w') : Calls Try.prog F args w (Gives w rr n) := by
  subst he
  subst hn
  refine h.mono ?_
  rintro e w' ⟨v, rfl, hown, hb⟩
  obtain ⟨A, c, rfl, hc, hr, _⟩ := hown.rd
  exact ⟨A, c, rfl, by omega, hr, hb, hown⟩

section
variable (l rr : List Wig.Spn) (s0 s1 n m : Nat) (A : Option Addr) (c : Nat) (w : World) (hn : n = l.length) (hm : rr.length = m) (hlen : n ≤ 10000) (hc : n ≤ c) (hr : RdS w w.heap.size A l) (ho : Wig.SOwn l)
include hn hm hlen hr ho
theorem add_gives (hc : n ≤ c) (he : Wig.sadd l (s0, s1) = rr) : Calls Try.prog 17 #[.slice A n c, .agg #[.int .u64 (s0 : Int), .int .u64 (s1 : Int)]] w (Gives w rr m) := gives he hm (add_any l s0 s1 A n c w hn hlen hc hr ho)
theorem cut_gives (hc : n ≤ c) (he : Wig.scut l (s0, s1) = rr) : Calls Try.prog 19 #[.slice A n c, .agg #[.int .u64 (s0 : Int), .int .u64 (s1 : Int)]] w (Gives w rr m) := gives he hm (cut_any l s0 s1 A n c w hn hlen hc hr ho)
theorem radd_gives (he : Wig.sadd l (s0, s1) = rr) : Calls Try.prog 18 #[.slice A n c, .agg #[.int .u64 (s0 : Int), .int .u64 (s1 : Int)]] w (Gives w rr m) := gives he hm (radd_any l s0 s1 A n c w hn hlen hr ho)
theorem rcut_gives (hf : Wig.SFits l) (he : Wig.scut l (s0, s1) = rr) : Calls Try.prog 20 #[.slice A n c, .agg #[.int .u64 (s0 : Int), .int .u64 (s1 : Int)]] w (Gives w rr m) := gives he hm (rcut_any l s0 s1 A n c w hn hlen hr ho hf)
end
theorem last_gives (l rr : List Wig.Spn) (k : Int) (n m : Nat) (A : Option Addr) (c : Nat) (w : World) (hk0 : -9223372036854775808 ≤ k) (hk1 : k ≤ 9223372036854775807) (hn : n = l.length) (hm : rr.length = m) (hlen : n ≤ 10000) (hr : RdS w w.heap.size A l) (hc : n ≤ c) (he : Wig.slast l (Wig.scnt k n) = rr) :
    Calls Try.prog 23 #[.slice A n c, .int .i64 k] w (Gives w rr m) := gives he hm (last_any l k A n c w hk0 hk1 hn (by omega) hc hr)
theorem rlast_gives (l rr : List Wig.Spn) (k : Int) (n m : Nat) (A : Option Addr) (c : Nat) (w : World) (hk0 : -9223372036854775808 ≤ k) (hk1 : k ≤ 9223372036854775807) (hn : n = l.length) (hm : rr.length = m) (hlen : n ≤ 10000) (hr : RdS w w.heap.size A l) (hc : n ≤ c) (he : Wig.slast l (Wig.scnt k n) = rr) :
    Calls Try.prog 24 #[.slice A n c, .int .i64 k] w (Gives w rr m) := gives he hm (rlast_any l k A n c w hk0 hk1 hn (by omega) hc hr)
theorem both_gives (a b rr : List Wig.Spn) (n m q : Nat) (A B : Option Addr) (c d : Nat) (w : World) (hn : n = a.length) (hm : m = b.length) (hq : rr.length = q) (hn1 : n ≤ 100) (hm1 : m ≤ 100) (hc : n ≤ c) (hd : m ≤ d) (hr : RdS w w.heap.size A a) (hs : RdS w w.heap.size B b) (ha : Wig.SOwn a) (hb : Wig.SOwn b) (he : Wig.sboth a b = rr) :
    Calls Try.prog 21 #[.slice A n c, .slice B m d] w (Gives w rr q) :=
  gives he hq (both_any a b A B n m c d w hn hm (by omega) (by omega) hc hd (by have h := Wig.sboth_len a b; rw [← hn, ← hm] at h; have : m * n ≤ 100 * 100 := Nat.mul_le_mul hm1 hn1; omega) hr hs ha hb)
theorem rboth_gives (a b rr : List Wig.Spn) (n m q : Nat) (A B : Option Addr) (c d : Nat) (w : World) (hn : n = a.length) (hm : m = b.length) (hq : rr.length = q) (hn1 : n ≤ 100) (hm1 : m ≤ 100) (hr : RdS w w.heap.size A a) (hs : RdS w w.heap.size B b) (ha : Wig.SOwn a) (hb : Wig.SOwn b) (he : Wig.sboth a b = rr) :
    Calls Try.prog 22 #[.slice A n c, .slice B m d] w (Gives w rr q) := gives he hq (rboth_any a b A B n m c d w hn hm hn1 hm1 hr hs ha hb)

/-- A box and the world below, from one world to the next. -/
theorem held_bx {w1 w' : World} {b s0 s1 : Nat} (h : Bx b s0 s1 w1) (hb : b < w1.heap.size) (k : Below w1.heap.size w1 w') : w'.cell? ⟨b, 0, none⟩ = some (.int .u64 (s0 : Int)) ∧ w'.cell? ⟨b, 1, none⟩ = some (.int .u64 (s1 : Int)) ∧ Below w1.heap.size w1 w' :=
  ⟨(k.cell hb).trans h.c0, (k.cell hb).trans h.c1, k⟩

/-! awake. -/
theorem span_eq (w : World) (p0 p1 : Int) : (binOp .eql 25 (.agg #[.int .u64 p0, .int .u64 p1]) (.agg #[.int .u64 p0, .int .u64 p1])).run Try.prog w = .ok (.bool true) w := by
  have u := Try.underlying23
  have a := Try.isAgg23
  have z := Try.sizeOf23
  have hS : Try.prog.underlying 25 = some (.struct (Try.prog.fieldsOf 25)) := by kernel_rfl
  have hp : Try.prog.stoodInHeld 25 = false := by kernel_rfl
  rw [run_eql_struct, show (10000 : Nat) = 9999 + 1 from rfl, run_equalIn_agg w 9999 25 _ _ hS hp]
  simp only [Program.fieldsOf, Try.underlying25]
  go_simp
theorem lit_rd (w : World) : RdS (w.alloc (.cells #[.int .u64 2, .int .u64 5, .int .u64 7, .int .u64 9] 25)) (w.alloc (.cells #[.int .u64 2, .int .u64 5, .int .u64 7, .int .u64 9] 25)).heap.size (some ⟨w.heap.size, 0, none⟩) [(2, 5), (7, 9)] := by
  have cell : ∀ j, (w.alloc (.cells #[.int .u64 2, .int .u64 5, .int .u64 7, .int .u64 9] 25)).cell? ⟨w.heap.size, j, none⟩ = (#[Value.int .u64 2, .int .u64 5, .int .u64 7, .int .u64 9] : Array Value)[j]? := fun j => by
    rw [World.cell?_alloc_at _ _ _ _ rfl]
  intro _
  refine ⟨w.heap.size, 0, rfl, by simp, fun j p hj => ?_⟩
  match j, hj with
  | 0, hj => simp at hj; subst hj; exact ⟨by rw [cell]; rfl, by rw [cell]; rfl⟩
  | 1, hj => simp at hj; subst hj; exact ⟨by rw [cell]; rfl, by rw [cell]; rfl⟩
  | (j + 2), hj => simp at hj

set_option maxHeartbeats 4000000 in
theorem awake_any (w : World) : Calls Try.prog 10 #[] w fun e w' => e = .returned (.bool true) ∧ Below w.heap.size w w' := by
  obtain ⟨w1, hw1⟩ : ∃ w1, w1 = w.alloc (.cells #[.int .u64 2, .int .u64 5, .int .u64 7, .int .u64 9] 25) := ⟨_, rfl⟩
  have hsz : w1.heap.size = w.heap.size + 1 := by rw [hw1]; simp
  have HB := Lib.hid (show Below w.heap.size w w1 by rw [hw1]; exact (Below.refl _ _).alloc (Nat.le_refl _) _)
  have HL := Lib.hid (show RdS w1 w1.heap.size (some ⟨w.heap.size, 0, none⟩) [(2, 5), (7, 9)] by rw [hw1]; exact lit_rd w)
  have own : Wig.SOwn [(2, 5), (7, 9)] := by decide +kernel
  have own2 : Wig.SOwn [(2, 9)] := by decide +kernel
  have fits : Wig.SFits [(2, 5), (7, 9)] := by intro p hp; simp at hp; rcases hp with rfl | rfl <;> decide
  have C1 := Lib.hid (fun A c w h hc => add_gives [(2, 5), (7, 9)] [(2, 9)] 5 7 2 1 A c w rfl rfl (by decide) h own hc (by decide +kernel))
  have C2 := Lib.hid (fun A c w h hc => cut_gives [(2, 5), (7, 9)] [(2, 3), (8, 9)] 3 8 2 2 A c w rfl rfl (by decide) h own hc (by decide +kernel))
  have C3 := Lib.hid (fun A B c d w hc hd h k => both_gives [(2, 5), (7, 9)] [(2, 9)] [(2, 5), (7, 9)] 2 1 2 A B c d w rfl rfl rfl (by decide) (by decide) hc hd h k own own2 (by decide +kernel))
  have C4 := Lib.hid (fun A c w h => check_any [(2, 5), (7, 9)] true A 2 c w rfl (by decide) h (by decide +kernel))
  have C5 := Lib.hid (fun w => check_any [] true none 0 0 w rfl (by decide) RdS.empty (by decide +kernel))
  have C6 := Lib.hid (fun A c w h => has_any [(2, 5), (7, 9)] 4 true A 2 c w rfl (by decide) h (by decide +kernel))
  have C7 := Lib.hid (fun A c w h => has_any [(2, 5), (7, 9)] 5 false A 2 c w rfl (by decide) h (by decide +kernel))
  have C8 := Lib.hid (fun A c w h => size_any [(2, 5), (7, 9)] 5 A 2 c w rfl (by decide) h own fits (by decide +kernel))
  have C9 := Lib.hid (fun A c w h hc => last_gives [(2, 5), (7, 9)] [(7, 9)] 1 2 1 A c w (by decide) (by decide) rfl rfl (by decide) h hc (by decide +kernel))
  have g := span_guard
  have e1 := span_eq
  clear own own2 fits hsz
  go_enter Try.func10, Try.ntmps10
  go_wp2_with fail
  rw [← hw1]
  clear hw1
  refine (C1.out _ _ _ HL.out (by decide)).mono ?_
  rintro e w2 ⟨A2, c2, rfl, hc2, hr2, hb2, -⟩
  have L2 := Lib.hid (HL.out.step hb2)
  have R2 := Lib.hid hr2
  have B2 := Lib.hid (HB.out.trans (hb2.mono HB.out.size))
  have HC2 := Lib.hid hc2
  clear hr2 hb2 hc2
  go_wp2_with fail
  refine (C2.out _ _ _ L2.out (by decide)).mono ?_
  rintro e w3 ⟨A3, c3, rfl, hc3, hr3, hb3, -⟩
  have L3 := Lib.hid (L2.out.step hb3)
  have R2' := Lib.hid (R2.out.step hb3)
  have R3 := Lib.hid hr3
  have B3 := Lib.hid (B2.out.trans (hb3.mono B2.out.size))
  clear hr3 hb3 hc3
  go_wp2_with fail
  refine (C3.out _ _ _ _ _ (by decide) HC2.out L3.out R2'.out).mono ?_
  rintro e w4 ⟨A4, c4, rfl, hc4, hr4, hb4, -⟩
  have L4 := Lib.hid (L3.out.step hb4)
  have R24 := Lib.hid (R2'.out.step hb4)
  have R34 := Lib.hid (R3.out.step hb4)
  have B4 := Lib.hid (B3.out.trans (hb4.mono B3.out.size))
  clear hr4 hb4 hc4
  go_wp2_with fail
  refine (C4.out _ _ _ L4.out).mono ?_
  rintro e w5 ⟨rfl, hb5⟩
  have L5 := Lib.hid (L4.out.step hb5)
  have R25 := Lib.hid (R24.out.step hb5)
  have R35 := Lib.hid (R34.out.step hb5)
  have B5 := Lib.hid (B4.out.trans (hb5.mono B4.out.size))
  clear hb5
  go_wp2_with fail
  refine (C5.out _).mono ?_
  rintro e w6 ⟨rfl, hb6⟩
  have L6 := Lib.hid (L5.out.step hb6)
  have R26 := Lib.hid (R25.out.step hb6)
  have R36 := Lib.hid (R35.out.step hb6)
  have B6 := Lib.hid (B5.out.trans (hb6.mono B5.out.size))
  clear hb6
  obtain ⟨b2, o2, rfl, -, m0, m1⟩ := R26.out.at_ (j := 0) rfl
  obtain ⟨b3, o3, rfl, -, m2, m3⟩ := R36.out.at_ (j := 1) rfl
  simp only [Nat.zero_mul, Nat.one_mul, Nat.add_zero] at m0 m1 m2 m3
  go_wp2_with fail
  refine (C6.out _ _ _ L6.out).mono ?_
  rintro e w7 ⟨rfl, hb7⟩
  have L7 := Lib.hid (L6.out.step hb7)
  have B7 := Lib.hid (B6.out.trans (hb7.mono B6.out.size))
  clear hb7 m0 m1 m2 m3
  go_wp2_with fail
  refine (C7.out _ _ _ L7.out).mono ?_
  rintro e w8 ⟨rfl, hb8⟩
  have L8 := Lib.hid (L7.out.step hb8)
  have B8 := Lib.hid (B7.out.trans (hb8.mono B7.out.size))
  clear hb8
  go_wp2_with fail
  refine (C8.out _ _ _ L8.out).mono ?_
  rintro e w9 ⟨rfl, hb9⟩
  have L9 := Lib.hid (L8.out.step hb9)
  have B9 := Lib.hid (B8.out.trans (hb9.mono B8.out.size))
  clear hb9
  go_wp2_with fail
  refine (C9.out _ _ _ L9.out (by decide)).mono ?_
  rintro e wa ⟨Aa, ca, rfl, hca, hra, hba, -⟩
  have Ba := Lib.hid (B9.out.trans (hba.mono B9.out.size))
  clear hra hba hca
  go_wp2_with fail
  go_ret
  exact ⟨rfl, Ba.out⟩
end Go.Proofs.Ytfibbohccaknjaa
