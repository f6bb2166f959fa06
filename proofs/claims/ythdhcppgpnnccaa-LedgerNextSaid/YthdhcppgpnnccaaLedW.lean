/-
  What the head of layer 9's statements returns: true. The calls' contracts with the answers as arguments. No condition beyond what the memory holds.
-/
import Derived.Test.YthdhcppgpnnccaaLedC
import Derived.Test.YthdhcppgpnnccaaLedD
import Derived.Test.YthdhcppgpnnccaaLedE
import Derived.Test.YthdhcppgpnnccaaLedF
import Derived.Test.YthdhcppgpnnccaaOpS
namespace Go.Proofs.Ythdhcppgpnnccaa
open Go.ChangeShapes Go.WideShapes Go.ChangeAt Go.RowKit Go.Deep
set_option linter.unusedVariables false

/-- What a call that parts packets leaves: two slices of its own, which read as xs and ys; below the heap's old size nothing has turned. -/
def Parts (w : World) (xs ys : List Wig.Snt) (a b : Nat) (e : Ending) (w' : World) : Prop :=
  ∃ A c B d, e = .returned (.tuple #[.slice A a c, .slice B b d]) ∧ RdT w' w'.heap.size A xs ∧ RdT w' w'.heap.size B ys ∧ Below w.heap.size w w'
def Parts3 (w : World) (xs ys : List Wig.Snt) (a b : Nat) (t : Int) (e : Ending) (w' : World) : Prop :=
  ∃ A c B d, e = .returned (.tuple #[.slice A a c, .slice B b d, .int .u64 t]) ∧ RdT w' w'.heap.size A xs ∧ RdT w' w'.heap.size B ys ∧ Below w.heap.size w w'
theorem parts {F : FuncId} {args : Array Value} {w : World} {as' bs' xs ys : List Wig.Snt} {a b : Nat} (hx : as' = xs) (hy : bs' = ys) (ha : xs.length = a) (hb : ys.length = b)
    (h : Calls Try.prog F args w fun e w' => ∃ v u, e = .returned (.tuple #[v, u]) ∧ Two w' w.heap.size v u as' bs' ∧ Below w.heap.size w w') : Calls Try.prog F args w (Parts w xs ys a b) := by
  subst hx hy ha hb
  refine h.mono ?_
  rintro e w' ⟨v, u, rfl, htwo, hb⟩
  obtain ⟨A, c, rfl, hc, hr, _⟩ := htwo.one.rd
  obtain ⟨B, d, rfl, hd, hq, _⟩ := htwo.two.rd
  exact ⟨A, c, B, d, rfl, hr, hq, hb⟩
theorem parts3 {F : FuncId} {args : Array Value} {w : World} {as' bs' xs ys : List Wig.Snt} {a b : Nat} {t : Int} (hx : as' = xs) (hy : bs' = ys) (ha : xs.length = a) (hb : ys.length = b)
    (h : Calls Try.prog F args w fun e w' => ∃ v u, e = .returned (.tuple #[v, u, .int .u64 t]) ∧ Two w' w.heap.size v u as' bs' ∧ Below w.heap.size w w') : Calls Try.prog F args w (Parts3 w xs ys a b t) := by
  subst hx hy ha hb
  refine h.mono ?_
  rintro e w' ⟨v, u, rfl, htwo, hb⟩
  obtain ⟨A, c, rfl, hc, hr, _⟩ := htwo.one.rd
  obtain ⟨B, d, rfl, hd, hq, _⟩ := htwo.two.rd
  exact ⟨A, c, B, d, rfl, hr, hq, hb⟩
section
variable (l xs ys : List Wig.Snt) (s : List Wig.Spn) (A B : Option Addr) (n c m d a b : Nat) (w : World) (hn : n = l.length) (hm : m = s.length) (hn1 : n ≤ 10000) (hm1 : m ≤ 10000) (hf : Wig.TFits l) (hr : RdT w w.heap.size A l) (hs : RdS w w.heap.size B s)
  (hx : l.filter (Wig.tin s) = xs) (hy : (l.filter fun x => !Wig.tin s x) = ys) (ha : xs.length = a) (hb : ys.length = b)
include hn hm hn1 hm1 hr hs hx hy ha hb
theorem take_gives (hf : Wig.TFits l) : Calls Try.prog 12 #[.slice A n c, .slice B m d] w (Parts w xs ys a b) := parts hx hy ha hb (take_any l s A B n c m d w hn hm hn1 hm1 hf hr hs)
theorem rtake_gives : Calls Try.prog 13 #[.slice A n c, .slice B m d] w (Parts w xs ys a b) := parts hx hy ha hb (rtake_any l s A B n c m d w hn hm hn1 hm1 hr hs)
end
section
variable (l xs ys : List Wig.Snt) (next now late t : Nat) (A : Option Addr) (n c a b : Nat) (w : World) (hn : n = l.length) (hn1 : n ≤ 10000) (hf : Wig.TFits l) (hl : late < 18446744073709551616) (hr : RdT w w.heap.size A l)
  (hx : l.filter (Wig.tlost next now late) = xs) (hy : (l.filter fun x => !Wig.tlost next now late x) = ys) (ha : xs.length = a) (hb : ys.length = b) (ht : Wig.twhen next now late l = t)
include hn hn1 hf hl hr hx hy ha hb ht
theorem lost_gives : Calls Try.prog 19 #[.slice A n c, .int .u64 (next : Int), .int .u64 (now : Int), .int .u64 (late : Int)] w (Parts3 w xs ys a b (t : Int)) := parts3 hx hy ha hb (lost_any l next now late t A n c w hn hn1 hf hl hr ht)
theorem rlost_gives : Calls Try.prog 20 #[.slice A n c, .int .u64 (next : Int), .int .u64 (now : Int), .int .u64 (late : Int)] w (Parts3 w xs ys a b (t : Int)) := parts3 hx hy ha hb (rlost_any l next now late t A n c w hn hn1 hf hl hr ht)
end

/-! awake. -/
theorem lit_rdT (w : World) : RdT (w.alloc (.cells #[.int .u64 1, .int .u64 10, .int .u64 100, .bool false, .int .u64 2, .int .u64 20, .int .u64 100, .bool false, .int .u64 5, .int .u64 30, .int .u64 100, .bool false] 37)) (w.heap.size + 1) (some ⟨w.heap.size, 0, none⟩) [⟨1, 10, 100, false⟩, ⟨2, 20, 100, false⟩, ⟨5, 30, 100, false⟩] := by
  have cell : ∀ j, (w.alloc (.cells #[.int .u64 1, .int .u64 10, .int .u64 100, .bool false, .int .u64 2, .int .u64 20, .int .u64 100, .bool false, .int .u64 5, .int .u64 30, .int .u64 100, .bool false] 37)).cell? ⟨w.heap.size, j, none⟩ = (#[Value.int .u64 1, .int .u64 10, .int .u64 100, .bool false, .int .u64 2, .int .u64 20, .int .u64 100, .bool false, .int .u64 5, .int .u64 30, .int .u64 100, .bool false] : Array Value)[j]? := fun j => by
    rw [World.cell?_alloc_at _ _ _ _ rfl]
  intro _
  refine ⟨w.heap.size, 0, rfl, by omega, fun j p hj => ?_⟩
  match j, hj with
  | 0, hj => simp at hj; subst hj; exact ⟨by rw [cell]; rfl, by rw [cell]; rfl, by rw [cell]; rfl, by rw [cell]; rfl⟩
  | 1, hj => simp at hj; subst hj; exact ⟨by rw [cell]; rfl, by rw [cell]; rfl, by rw [cell]; rfl, by rw [cell]; rfl⟩
  | 2, hj => simp at hj; subst hj; exact ⟨by rw [cell]; rfl, by rw [cell]; rfl, by rw [cell]; rfl, by rw [cell]; rfl⟩
  | (j + 3), hj => simp at hj
theorem lit_rdS (w : World) : RdS (w.alloc (.cells #[.int .u64 1, .int .u64 3] 43)) (w.heap.size + 1) (some ⟨w.heap.size, 0, none⟩) [(1, 3)] := by
  have cell : ∀ j, (w.alloc (.cells #[.int .u64 1, .int .u64 3] 43)).cell? ⟨w.heap.size, j, none⟩ = (#[Value.int .u64 1, .int .u64 3] : Array Value)[j]? := fun j => by
    rw [World.cell?_alloc_at _ _ _ _ rfl]
  intro _
  refine ⟨w.heap.size, 0, rfl, by omega, fun j p hj => ?_⟩
  match j, hj with
  | 0, hj => simp at hj; subst hj; exact ⟨by rw [cell]; rfl, by rw [cell]; rfl⟩
  | (j + 1), hj => simp at hj

set_option maxHeartbeats 4000000 in
theorem awake_any (w : World) : Calls Try.prog 10 #[] w fun e w' => e = .returned (.bool true) ∧ Below w.heap.size w w' := by
  obtain ⟨l, hl⟩ : ∃ l : List Wig.Snt, l = [⟨1, 10, 100, false⟩, ⟨2, 20, 100, false⟩, ⟨5, 30, 100, false⟩] := ⟨_, rfl⟩
  obtain ⟨wa, hwa⟩ : ∃ wa, wa = w.alloc (.cells #[.int .u64 1, .int .u64 10, .int .u64 100, .bool false, .int .u64 2, .int .u64 20, .int .u64 100, .bool false, .int .u64 5, .int .u64 30, .int .u64 100, .bool false] 37) := ⟨_, rfl⟩
  obtain ⟨w1, hw1⟩ : ∃ w1, w1 = wa.alloc (.cells #[.int .u64 1, .int .u64 3] 43) := ⟨_, rfl⟩
  have sa : wa.heap.size = w.heap.size + 1 := by rw [hwa]; simp
  have s1 : w1.heap.size = wa.heap.size + 1 := by rw [hw1]; simp
  have ba : Below w.heap.size w wa := by rw [hwa]; exact (Below.refl _ _).alloc (Nat.le_refl _) _
  have b1 : Below wa.heap.size wa w1 := by rw [hw1]; exact (Below.refl _ _).alloc (Nat.le_refl _) _
  have B1 := Lib.hid (ba.trans (b1.mono (by omega)))
  have ra : RdT wa wa.heap.size (some ⟨w.heap.size, 0, none⟩) l := by rw [sa, hl, hwa]; exact lit_rdT w
  have R1 := Lib.hid (ra.step b1)
  have Q1 := Lib.hid (show RdS w1 w1.heap.size (some ⟨w.heap.size + 1, 0, none⟩) [(1, 3)] by rw [s1, hw1, ← sa]; exact lit_rdS wa)
  have fits : Wig.TFits l := by rw [hl]; intro p hp; simp at hp; rcases hp with rfl | rfl | rfl <;> (refine ⟨?_, ?_, ?_⟩ <;> decide)
  have C1 := Lib.hid (fun A B c d w h k => take_gives l [⟨1, 10, 100, false⟩, ⟨2, 20, 100, false⟩] [⟨5, 30, 100, false⟩] [(1, 3)] A B 3 c 1 d 2 1 w (by rw [hl]; rfl) rfl (by decide) (by decide) h k (by rw [hl]; decide +kernel) (by rw [hl]; decide +kernel) rfl rfl fits)
  have C2 := Lib.hid (fun A c w h => show Calls Try.prog 19 #[.slice A 3 c, .int .u64 6, .int .u64 40, .int .u64 100] w (Parts3 w _ _ 2 1 0) from lost_gives l [⟨1, 10, 100, false⟩, ⟨2, 20, 100, false⟩] [⟨5, 30, 100, false⟩] 6 40 100 0 A 3 c 2 1 w (by rw [hl]; rfl) (by decide) fits (by decide) h (by rw [hl]; decide +kernel) (by rw [hl]; decide +kernel) rfl rfl (by rw [hl]; decide +kernel))
  have C3 := Lib.hid (fun A c w h => show Calls Try.prog 19 #[.slice A 3 c, .int .u64 4, .int .u64 40, .int .u64 100] w (Parts3 w _ _ 0 3 110) from lost_gives l [] [⟨1, 10, 100, false⟩, ⟨2, 20, 100, false⟩, ⟨5, 30, 100, false⟩] 4 40 100 110 A 3 c 0 3 w (by rw [hl]; rfl) (by decide) fits (by decide) h (by rw [hl]; decide +kernel) (by rw [hl]; decide +kernel) rfl rfl (by rw [hl]; decide +kernel))
  have C4 := Lib.hid (fun A c w h => check_any l true A 3 c w (by rw [hl]; rfl) (by decide) h (by rw [hl]; decide +kernel))
  have C5 := Lib.hid (fun A c w h => show Calls Try.prog 17 #[.slice A 3 c] w (fun e w' => e = .returned (.int .u64 300) ∧ Below w.heap.size w w') from flight_any l 300 A 3 c w (by rw [hl]; rfl) (by decide) fits h (by rw [hl]; decide +kernel))
  have C6 := Lib.hid (fun A c w h => show Calls Try.prog 21 #[.slice A 3 c, .int .u64 10] w (fun e w' => e = .returned (.bool true) ∧ Below w.heap.size w w') from long_any l 10 true A 3 c w (by rw [hl]; rfl) (by decide) fits (by decide) h (by rw [hl]; decide +kernel))
  have C7 := Lib.hid (fun A c w h => show Calls Try.prog 21 #[.slice A 3 c, .int .u64 11] w (fun e w' => e = .returned (.bool false) ∧ Below w.heap.size w w') from long_any l 11 false A 3 c w (by rw [hl]; rfl) (by decide) fits (by decide) h (by rw [hl]; decide +kernel))
  subst hwa
  clear hl sa s1 ba b1 ra fits
  go_enter Try.func10, Try.ntmps10
  go_wp2_with fail
  rw [← hw1]
  clear hw1
  refine (C1.out _ _ _ _ _ R1.out Q1.out).mono ?_
  rintro e w2 ⟨A2, c2, D2, d2, rfl, -, -, hb⟩
  have R2 := Lib.hid (R1.out.step hb)
  have B2 := Lib.hid (B1.out.trans (hb.mono B1.out.size))
  clear hb R1 Q1 B1
  go_wp2_with fail
  refine (C2.out _ _ _ R2.out).mono ?_
  rintro e w3 ⟨A3, c3, D3, d3, rfl, -, -, hb⟩
  have R3 := Lib.hid (R2.out.step hb)
  have B3 := Lib.hid (B2.out.trans (hb.mono B2.out.size))
  clear hb R2 B2
  go_wp2_with fail
  refine (C3.out _ _ _ R3.out).mono ?_
  rintro e w4 ⟨A4, c4, D4, d4, rfl, -, -, hb⟩
  have R4 := Lib.hid (R3.out.step hb)
  have B4 := Lib.hid (B3.out.trans (hb.mono B3.out.size))
  clear hb R3 B3
  go_wp2_with fail
  refine (C4.out _ _ _ R4.out).mono ?_
  rintro e w5 ⟨rfl, hb⟩
  have R5 := Lib.hid (R4.out.step hb)
  have B5 := Lib.hid (B4.out.trans (hb.mono B4.out.size))
  clear hb R4 B4
  go_wp2_with fail
  refine (C5.out _ _ _ R5.out).mono ?_
  rintro e w6 ⟨rfl, hb⟩
  have R6 := Lib.hid (R5.out.step hb)
  have B6 := Lib.hid (B5.out.trans (hb.mono B5.out.size))
  clear hb R5 B5
  go_wp2_with fail
  refine (C6.out _ _ _ R6.out).mono ?_
  rintro e w7 ⟨rfl, hb⟩
  have R7 := Lib.hid (R6.out.step hb)
  have B7 := Lib.hid (B6.out.trans (hb.mono B6.out.size))
  clear hb R6 B6
  go_wp2_with fail
  refine (C7.out _ _ _ R7.out).mono ?_
  rintro e w8 ⟨rfl, hb⟩
  have B8 := Lib.hid (B7.out.trans (hb.mono B7.out.size))
  clear hb R7 B7
  go_wp2_with fail
  go_ret
  exact ⟨rfl, B8.out⟩
end Go.Proofs.Ythdhcppgpnnccaa
