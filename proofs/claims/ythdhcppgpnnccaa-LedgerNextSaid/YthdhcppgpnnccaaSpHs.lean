/-
  What package span's Has and the document's return. Condition: the list reads as spans.
-/
import Derived.Test.YthdhcppgpnnccaaSpM
import Derived.Test.YthdhcppgpnnccaaSpn
import Derived.Test.YthdhcppgpnnccaaPost
import Derived.Test.YthdhcppgpnnccaaOpen
import Derived.Lib.Hide
import Derived.OwnWalk
import Derived.Deep.LoopGhost
import Derived.Deep.QuietTactic
import Derived.BigQuiet
import Derived.Deep.RegionHeld3
namespace Go.Proofs.Ythdhcppgpnnccaa
open Go.ChangeShapes Go.WideShapes Go.ChangeAt Go.RowKit Go.Deep
set_option linter.unusedVariables false

theorem ret_bool {a b : Bool} (h : a = b) : Ending.returned (.bool a) = .returned (.bool b) := by rw [h]
theorem span_info : (Try.prog.info? 43).map (fun i => (i.zero, i.size, i.bytes)) = some (some (.agg #[.int .u64 0, .int .u64 0]), 2, 16) := by kernel_rfl
/-- A span's box, at a world where below the size of w1 nothing has turned. -/
theorem box_sp {w1 w' : World} {b p0 p1 : Nat} (hb : b < w1.heap.size) (k0 : w1.cell? ⟨b, 0, none⟩ = some (.int .u64 (p0 : Int))) (k1 : w1.cell? ⟨b, 1, none⟩ = some (.int .u64 (p1 : Int)))
    (h : Below w1.heap.size w1 w') : w'.cell? ⟨b, 0, none⟩ = some (.int .u64 (p0 : Int)) ∧ w'.cell? ⟨b, 1, none⟩ = some (.int .u64 (p1 : Int)) ∧ Below w1.heap.size w1 w' :=
  ⟨(h.cell hb).trans k0, (h.cell hb).trans k1, h⟩
theorem box_sp4 {w1 w' : World} {b p0 p1 b2 o2 x : Nat} (hb : b < w1.heap.size) (hb2 : b2 < w1.heap.size) (k0 : w1.cell? ⟨b, 0, none⟩ = some (.int .u64 (p0 : Int))) (k1 : w1.cell? ⟨b, 1, none⟩ = some (.int .u64 (p1 : Int))) (k2 : w1.cell? ⟨b2, o2, none⟩ = some (.int .u64 (x : Int)))
    (h : Below w1.heap.size w1 w') : w'.cell? ⟨b, 0, none⟩ = some (.int .u64 (p0 : Int)) ∧ w'.cell? ⟨b, 1, none⟩ = some (.int .u64 (p1 : Int)) ∧ w'.cell? ⟨b2, o2, none⟩ = some (.int .u64 (x : Int)) ∧ Below w1.heap.size w1 w' :=
  ⟨(h.cell hb).trans k0, (h.cell hb).trans k1, (h.cell hb2).trans k2, h⟩
theorem new_sp (w : World) (p0 p1 : Nat) {t : TypeId} : (w.alloc (.cells #[.int .u64 (p0 : Int), .int .u64 (p1 : Int)] t)).cell? ⟨w.heap.size, 0, none⟩ = some (.int .u64 (p0 : Int)) ∧ (w.alloc (.cells #[.int .u64 (p0 : Int), .int .u64 (p1 : Int)] t)).cell? ⟨w.heap.size, 1, none⟩ = some (.int .u64 (p1 : Int)) :=
  ⟨by rw [World.cell?_alloc_at _ _ _ _ rfl]; rfl, by rw [World.cell?_alloc_at _ _ _ _ rfl]; rfl⟩
theorem RdS.step {w1 w' : World} {A : Option Addr} {ss : List Wig.Spn} (h : RdS w1 w1.heap.size A ss) (hb : Below w1.heap.size w1 w') : RdS w' w'.heap.size A ss := (h.below hb).wide hb.size

theorem inn_any (p0 p1 n b : Nat) (w : World) (h : w.cell? ⟨b, 0, none⟩ = some (.int .u64 (n : Int))) :
    Calls Try.prog 34 #[.agg #[.int .u64 (p0 : Int), .int .u64 (p1 : Int)], .pointer (some ⟨b, 0, none⟩)] w fun e w' => e = .returned (.bool (Wig.inn (p0, p1) n)) ∧ Below w.heap.size w w' := by
  have lb := World.block_lt_of_cell? w _ h
  simp only at lb
  have B := Lib.hid ((Below.refl w.heap.size w).alloc (Nat.le_refl _) (.cells #[.int .u64 (p0 : Int), .int .u64 (p1 : Int)] 43))
  have k : (w.alloc (.cells #[.int .u64 (p0 : Int), .int .u64 (p1 : Int)] 43)).cell? ⟨b, 0, none⟩ = some (.int .u64 (n : Int)) := by rw [World.cell?_alloc_past _ _ _ lb]; exact h
  have e : Wig.inn (p0, p1) n = (decide (p0 ≤ n) && decide (n < p1)) := rfl
  rw [e]
  clear e
  by_cases h1 : p0 ≤ n
  · have d1 : decide (p0 ≤ n) = true := decide_eq_true h1
    clear h lb
    go_enter Try.func34, Try.ntmps34
    go_wp2_with fail
    go_ret
    exact ⟨ret_bool (by simp [h1]), B.out⟩
  · have d1 : decide (p0 ≤ n) = false := decide_eq_false h1
    clear h lb
    go_enter Try.func34, Try.ntmps34
    go_wp2_with fail
    go_ret
    exact ⟨ret_bool (by simp [h1]), B.out⟩

/-- A test of one span as IndexFunc is handed it: at any world where below block B nothing has turned since w it returns g of the span. -/
def TestsS (w : World) (B : Nat) (F : FuncId) (C : Array Value) (g : Wig.Spn → Bool) : Prop :=
  ∀ (w' : World) (p0 p1 : Nat), Below B w w' → B ≤ w'.heap.size →
    Calls Try.prog F (#[.agg #[.int .u64 (p0 : Int), .int .u64 (p1 : Int)]] ++ C) w' fun e w'' => e = .returned (.bool (g (p0, p1))) ∧ Below w'.heap.size w' w''

def IxRel (g : Wig.Spn → Bool) (l : List Wig.Spn) (w : World) (i : Value) (wr : World) : Prop := ∃ k : Nat, k ≤ l.length ∧ i = .int .i64 (k : Int) ∧ (∀ p ∈ l.take k, g p = false) ∧ Below w.heap.size w wr
set_option maxHeartbeats 1000000 in
theorem index_any (g : Wig.Spn → Bool) (b : Nat) (l : List Wig.Spn) (A : Option Addr) (n c : Nat) (w : World) (hn : n = l.length) (hm : n ≤ 100000) (hr : RdS w w.heap.size A l)
    (ht : TestsS w w.heap.size 34 #[.pointer (some ⟨b, 0, none⟩)] g) :
    Calls Try.prog 36 #[.slice A n c, .func (.func 34) #[] #[.pointer (some ⟨b, 0, none⟩)]] w fun e w' =>
      (∃ r : Int, e = .returned (.int .i64 r) ∧ decide (0 ≤ r) = l.any g) ∧ Below w.heap.size w w' := by
  have HR := Lib.hid hr
  have HT := Lib.hid ht
  have HN := Lib.hid hn
  clear hr ht hn
  go_enter Try.func36, Try.ntmps36
  go_wp2_with fail
  go_loopw [8] (fun i wr => IxRel g l w i wr) (fun i _ => n - (intOf i).toNat)
  case atStart => exact ⟨0, Nat.zero_le _, rfl, by simp, Below.refl _ _⟩
  case round =>
    obtain ⟨k, hk, rfl, hno, hbel⟩ := hrel
    rw [← HN.out] at hk
    have KB := Lib.hid hbel
    have KN := Lib.hid hno
    by_cases hlt : k < n
    · obtain ⟨⟨p0, p1⟩, hp⟩ : ∃ p, l[k]? = some p := ⟨_, List.getElem?_eq_getElem (by have := HN.out; omega)⟩
      obtain ⟨b', off, rfl, _, c0, c1⟩ := (HR.out.below hbel).at_ hp
      simp only [] at c0 c1
      have HP := Lib.hid hp
      have i0 : (0 : Int) ≤ (k : Int) := by omega
      have i1 : (k : Int) < (n : Int) := by omega
      have CT := Lib.hid (HT.out wr p0 p1 hbel hbel.size)
      obtain ⟨v, hv⟩ : ∃ v, v = g (p0, p1) := ⟨_, rfl⟩
      rw [← hv] at CT
      clear hp hbel hno
      cases v with
      | true =>
        have R := Lib.hid (show decide ((0 : Int) ≤ (k : Int)) = l.any g by
          rw [decide_eq_true i0]; symm; rw [List.any_eq_true]; exact ⟨_, List.mem_of_getElem? HP.out, hv.symm⟩)
        clear hv
        go_wp2_with fail
        refine (CT.out).mono ?_
        rintro e w2 ⟨rfl, hb2⟩
        have R2 := Lib.hid (KB.out.trans (hb2.mono KB.out.size))
        clear hb2
        go_wp2_with fail
        go_ret
        exact ⟨⟨_, rfl, R.out⟩, R2.out⟩
      | false =>
        have R := Lib.hid (show ∀ p ∈ l.take (k + 1), g p = false by
          rw [Wig.take_next HP.out]
          intro p hp
          rcases List.mem_append.1 hp with hp | hp
          · exact KN.out p hp
          · rw [List.mem_singleton.1 hp]; exact hv.symm)
        clear hv
        go_wp2_with fail
        refine (CT.out).mono ?_
        rintro e w2 ⟨rfl, hb2⟩
        have R2 := Lib.hid (KB.out.trans (hb2.mono KB.out.size))
        clear hb2
        go_wp2_with fail
        go_roundw
        case rel => exact ⟨k + 1, by have := HN.out; omega, rfl, R.out, R2.out⟩
        case measure => simp [intOf]; omega
    · have hkn : k = n := by omega
      have R := Lib.hid (show decide ((0 : Int) ≤ -1) = l.any g by
        have h : l.any g = false := by
          rw [List.any_eq_false]
          intro p hp
          have := KN.out p (by rw [hkn, HN.out, List.take_length]; exact hp)
          simp [this]
        rw [h]; rfl)
      subst hkn
      clear hbel hno
      go_wp2_with fail
      go_ret
      exact ⟨⟨_, rfl, R.out⟩, KB.out⟩

theorem contains_any (g : Wig.Spn → Bool) (b : Nat) (l : List Wig.Spn) (A : Option Addr) (n c : Nat) (w : World) (hn : n = l.length) (hm : n ≤ 100000) (hr : RdS w w.heap.size A l)
    (ht : TestsS w w.heap.size 34 #[.pointer (some ⟨b, 0, none⟩)] g) :
    Calls Try.prog 33 #[.slice A n c, .func (.func 34) #[] #[.pointer (some ⟨b, 0, none⟩)]] w fun e w' =>
      e = .returned (.bool (l.any g)) ∧ Below w.heap.size w w' := by
  have C := Lib.hid (index_any g b l A n c w hn hm hr ht)
  clear hr ht hn
  go_enter Try.func33, Try.ntmps33
  go_wp2_with fail
  refine (C.out).mono ?_
  rintro e w1 ⟨⟨r, rfl, hr⟩, hb⟩
  have R := Lib.hid hr
  have B := Lib.hid hb
  clear hr hb
  go_wp2_with fail
  go_ret
  exact ⟨ret_bool (by rw [← R.out]), B.out⟩

theorem has_any (l : List Wig.Spn) (x : Nat) (b : Bool) (A : Option Addr) (n c : Nat) (w : World) (hn : n = l.length) (hm : n ≤ 100000) (hr : RdS w w.heap.size A l) (hb : Wig.shas l x = b) :
    Calls Try.prog 26 #[.slice A n c, .int .u64 (x : Int)] w fun e w' => e = .returned (.bool b) ∧ Below w.heap.size w w' := by
  subst hb
  have hmf : ∀ (fn : Fn) (first cap : Array Value) (w : World), (Instr.makeFunc fn first cap).run Try.prog w = .ok (.func fn first cap) w := fun _ _ _ _ => rfl
  obtain ⟨w1, hw1⟩ : ∃ w1, w1 = w.alloc (.cells #[.int .u64 (x : Int)] 29) := ⟨_, rfl⟩
  have hB1 : Below w.heap.size w w1 := by rw [hw1]; exact (Below.refl _ _).alloc (Nat.le_refl _) _
  have k0 : w1.cell? ⟨w.heap.size, 0, none⟩ = some (.int .u64 (x : Int)) := by rw [hw1, World.cell?_alloc_at _ _ _ _ rfl]; rfl
  have hsz : w1.heap.size = w.heap.size + 1 := by rw [hw1]; simp
  have C := Lib.hid (contains_any (fun p => Wig.inn p x) w.heap.size l A n c w1 hn hm ((hr.below hB1).wide (by omega)) (fun w' p0 p1 hb hB => inn_any p0 p1 x w.heap.size w' ((hb.cell (by simp; omega)).trans k0)))
  have B1 := Lib.hid hB1
  have HS := Lib.hid hsz
  clear hr hn hB1 k0 hsz
  subst hw1
  go_enter Try.func26, Try.ntmps26
  go_wp2_with fail
  refine (C.out).mono ?_
  rintro e w2 ⟨rfl, hb⟩
  have R := Lib.hid (B1.out.trans (hb.mono (by simp)))
  clear hb
  go_wp2_with fail
  go_ret
  exact ⟨rfl, R.out⟩

def RhRel (l : List Wig.Spn) (x : Nat) (w : World) (i : Value) (wr : World) : Prop := ∃ k : Nat, k ≤ l.length ∧ i = .int .i64 (k : Int) ∧ Wig.shas (l.take k) x = false ∧ w = wr
set_option maxHeartbeats 1000000 in
theorem rhas_any (l : List Wig.Spn) (x : Nat) (b : Bool) (A : Option Addr) (n c : Nat) (w : World) (hn : n = l.length) (hm : n ≤ 100000) (hr : RdS w w.heap.size A l) (hb : Wig.shas l x = b) :
    Calls Try.prog 27 #[.slice A n c, .int .u64 (x : Int)] w fun e w' => e = .returned (.bool b) ∧ Below w.heap.size w w' := by
  subst hb
  have HR := Lib.hid hr
  have HN := Lib.hid hn
  clear hr hn
  go_enter Try.func27, Try.ntmps27
  go_wp2_with fail
  go_loopw [5] (fun i wr => RhRel l x w i wr) (fun i _ => n - (intOf i).toNat)
  case atStart => exact ⟨0, Nat.zero_le _, rfl, rfl, rfl⟩
  case round =>
    obtain ⟨k, hk, rfl, hno, rfl⟩ := hrel
    rw [← HN.out] at hk
    by_cases hlt : k < n
    · obtain ⟨⟨p0, p1⟩, hp⟩ : ∃ p, l[k]? = some p := ⟨_, List.getElem?_eq_getElem (by have := HN.out; omega)⟩
      obtain ⟨b, off, rfl, hb, c0, c1⟩ := HR.out.at_ hp
      simp only [] at c0 c1
      have i0 : (0 : Int) ≤ (k : Int) := by omega
      have i1 : (k : Int) < (n : Int) := by omega
      have step : Wig.shas (l.take (k + 1)) x = Wig.inn (p0, p1) x := by rw [Wig.take_next hp, Wig.has_app, hno, Bool.false_or, Wig.has_cons, Wig.has_nil, Bool.or_false]
      have whole : Wig.inn (p0, p1) x = true → Wig.shas l x = true := fun h => Wig.has_iff.2 ⟨_, List.mem_of_getElem? hp, Wig.inn_iff.1 h⟩
      by_cases h1 : p0 ≤ x
      · have d1 : decide (p0 ≤ x) = true := decide_eq_true h1
        by_cases h2 : x < p1
        · have d2 : decide (x < p1) = true := decide_eq_true h2
          have R := Lib.hid (whole (Wig.inn_iff.2 ⟨h1, h2⟩))
          clear hp step whole h1 h2 hno
          go_wp2_with fail
          go_ret
          exact ⟨by rw [R.out]; rfl, Below.refl _ _⟩
        · have d2 : decide (x < p1) = false := decide_eq_false h2
          have R := Lib.hid (show Wig.shas (l.take (k + 1)) x = false by rw [step]; simp [Wig.inn, h2])
          clear hp step whole h1 h2 hno
          go_wp2_with fail
          go_roundw
          case rel => exact ⟨k + 1, by have := HN.out; omega, rfl, R.out, rfl⟩
          case measure => simp [intOf]; omega
      · have d1 : decide (p0 ≤ x) = false := decide_eq_false h1
        have R := Lib.hid (show Wig.shas (l.take (k + 1)) x = false by rw [step]; simp [Wig.inn, h1])
        clear hp step whole h1 hno
        go_wp2_with fail
        go_roundw
        case rel => exact ⟨k + 1, by have := HN.out; omega, rfl, R.out, rfl⟩
        case measure => simp [intOf]; omega
    · have hkn : k = n := by omega
      have R := Lib.hid (show Wig.shas l x = false by rw [hkn, HN.out, List.take_length] at hno; exact hno)
      clear hno
      subst hkn
      go_wp2_with fail
      go_ret
      exact ⟨by rw [R.out]; rfl, Below.refl _ _⟩
end Go.Proofs.Ythdhcppgpnnccaa
