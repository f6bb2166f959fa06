/-
  What package ledger's Check and Flight and the document's return. Conditions: the lists read as packets of 64 bits; they are not too long.
-/
import Derived.Test.YthdhcppgpnnccaaLedA
namespace Go.Proofs.Ythdhcppgpnnccaa
open Go.ChangeShapes Go.WideShapes Go.ChangeAt Go.RowKit Go.Deep
set_option linter.unusedVariables false

def CkRel (l : List Wig.Snt) (w : World) (i : Value) (wr : World) : Prop := ∃ k q : Nat, k ≤ l.length ∧ i = .int .i64 (k : Int) ∧ Wig.tcheck (l.take k) = true ∧ w.drewN q = wr
set_option maxHeartbeats 4000000 in
theorem check_any (l : List Wig.Snt) (r : Bool) (A : Option Addr) (n c : Nat) (w : World) (hn : n = l.length) (hm : n ≤ 10000) (hr : RdT w w.heap.size A l) (hs : Wig.tcheck l = r) :
    Calls Try.prog 15 #[.slice A n c] w fun e w' => e = .returned (.bool r) ∧ Below w.heap.size w w' := by
  subst hs
  have HR := Lib.hid hr
  have HN := Lib.hid hn
  have DB := Lib.hid (fun q => below_drewN' (Below.refl w.heap.size w) q)
  clear hr hn
  go_enter Try.func15, Try.ntmps15
  go_wp2_with fail
  go_loopw [6] (fun i wr => CkRel l w i wr) (fun i _ => n - (intOf i).toNat)
  case atStart => exact ⟨0, 0, Nat.zero_le _, rfl, rfl, rfl⟩
  case round =>
    obtain ⟨k, qq, hk, rfl, hown, rfl⟩ := hrel
    rw [← HN.out] at hk
    obtain ⟨wr, hwr⟩ : ∃ wr, wr = w.drewN qq := ⟨_, rfl⟩
    have KW := Lib.hid hwr
    have hbel : Below w.heap.size w wr := by rw [hwr]; exact DB.out qq
    rw [← hwr]
    by_cases hlt : k < n
    · obtain ⟨⟨pn, pa, pz, pb⟩, hp⟩ : ∃ p, l[k]? = some p := ⟨_, List.getElem?_eq_getElem (by have := HN.out; omega)⟩
      obtain ⟨b, off, rfl, hb, c0, -, -, -⟩ := (HR.out.below hbel).at_ hp
      simp only [] at c0
      have i0 : (0 : Int) ≤ (k : Int) := by omega
      have i1 : (k : Int) < (n : Int) := by omega
      by_cases hk0 : k = 0
      · have R := Lib.hid (show Wig.tcheck (l.take (k + 1)) = true by subst hk0; exact Wig.tcheck_first l)
        have d0 : decide ((0 : Int) < (k : Int)) = false := decide_eq_false (by omega)
        have d0' : decide (0 < k) = false := decide_eq_false (by omega)
        clear hp hbel hown hwr hk0
        go_wp2_with fail
        go_quiet (fail)
        go_wp2_with fail
        go_roundw
        case rel => exact ⟨k + 1, qq + _, by have := HN.out; omega, rfl, R.out, by rw [KW.out, World.drewN_drewN]⟩
        case measure => simp [intOf]; omega
      · obtain ⟨j, hj⟩ : ∃ j, k = j + 1 := ⟨k - 1, by omega⟩
        obtain ⟨⟨qn, qa, qz, qb⟩, hq⟩ : ∃ q, l[j]? = some q := ⟨_, List.getElem?_eq_getElem (by have := HN.out; omega)⟩
        obtain ⟨b2, off2, e2, _, d1, -, -, -⟩ := (HR.out.below hbel).at_ hq
        injection e2 with e2
        injection e2 with ea eb
        subst ea eb
        simp only [] at d1
        have d0 : decide ((0 : Int) < (k : Int)) = true := decide_eq_true (by omega)
        have d0' : decide (0 < k) = true := decide_eq_true (by omega)
        have fj : IntKind.i64.wrap ((k : Int) - 1) = (j : Int) := by rw [IntKind.wrap_i64]; omega
        have fj2 : (k : Int) - 1 = (j : Int) := by omega
        have fj3 : IntKind.i64.wrap (j : Int) = (j : Int) := by rw [IntKind.wrap_i64]; omega
        have j0 : (0 : Int) ≤ (j : Int) := by omega
        have j1 : (j : Int) < (n : Int) := by omega
        have hp' : l[j + 1]? = some ⟨pn, pa, pz, pb⟩ := by rw [← hj]; exact hp
        by_cases hn2 : pn ≤ qn
        · have R := Lib.hid (show Wig.tcheck l = false from Wig.tcheck_bad hq hp' hn2)
          have dn : decide (pn ≤ qn) = true := decide_eq_true hn2
          clear hp hp' hq hbel hown hk0 hn2 hj hwr
          go_wp2_with fail
          go_quiet (fail)
          go_wp2_with fail
          go_ret
          exact ⟨by rw [R.out]; rfl, by rw [KW.out]; exact below_drewN' (DB.out qq) _⟩
        · have R := Lib.hid (show Wig.tcheck (l.take (k + 1)) = true by rw [hj] at hown ⊢; exact Wig.tcheck_step hown hq hp' (by simp only; omega))
          have dn : decide (pn ≤ qn) = false := decide_eq_false hn2
          clear hp hp' hq hbel hown hk0 hn2 hj hwr
          go_wp2_with fail
          go_quiet (fail)
          go_wp2_with fail
          go_roundw
          case rel => exact ⟨k + 1, qq + _, by have := HN.out; omega, rfl, R.out, by rw [KW.out, World.drewN_drewN]⟩
          case measure => simp [intOf]; omega
    · have hkn : k = n := by omega
      have R := Lib.hid (show Wig.tcheck l = true by rw [← List.take_length (l := l), ← HN.out, ← hkn]; exact hown)
      clear hbel hown hwr
      subst hkn
      go_wp2_with fail
      go_ret
      exact ⟨by rw [R.out]; rfl, by rw [KW.out]; exact DB.out qq⟩

def RcRel (l : List Wig.Snt) (w : World) (i : Value) (wr : World) : Prop := ∃ k q : Nat, 0 < k ∧ (k = 1 ∨ k ≤ l.length) ∧ i = .int .i64 (k : Int) ∧ Wig.tcheck (l.take k) = true ∧ w.drewN q = wr
set_option maxHeartbeats 4000000 in
theorem rcheck_any (l : List Wig.Snt) (r : Bool) (A : Option Addr) (n c : Nat) (w : World) (hn : n = l.length) (hm : n ≤ 10000) (hr : RdT w w.heap.size A l) (hs : Wig.tcheck l = r) :
    Calls Try.prog 16 #[.slice A n c] w fun e w' => e = .returned (.bool r) ∧ Below w.heap.size w w' := by
  subst hs
  have HR := Lib.hid hr
  have HN := Lib.hid hn
  have DB := Lib.hid (fun q => below_drewN' (Below.refl w.heap.size w) q)
  clear hr hn
  go_enter Try.func16, Try.ntmps16
  go_wp2_with fail
  go_loopw [3] (fun i wr => RcRel l w i wr) (fun i _ => n - (intOf i).toNat)
  case atStart => exact ⟨1, 0, by omega, .inl rfl, rfl, Wig.tcheck_first l, rfl⟩
  case round =>
    obtain ⟨k, qq, hk0, hk, rfl, hown, rfl⟩ := hrel
    rw [← HN.out] at hk
    obtain ⟨wr, hwr⟩ : ∃ wr, wr = w.drewN qq := ⟨_, rfl⟩
    have KW := Lib.hid hwr
    have hbel : Below w.heap.size w wr := by rw [hwr]; exact DB.out qq
    rw [← hwr]
    by_cases hlt : k < n
    · obtain ⟨⟨pn, pa, pz, pb⟩, hp⟩ : ∃ p, l[k]? = some p := ⟨_, List.getElem?_eq_getElem (by have := HN.out; omega)⟩
      obtain ⟨b, off, rfl, hb, c0, -, -, -⟩ := (HR.out.below hbel).at_ hp
      simp only [] at c0
      have i0 : (0 : Int) ≤ (k : Int) := by omega
      have i1 : (k : Int) < (n : Int) := by omega
      obtain ⟨j, hj⟩ : ∃ j, k = j + 1 := ⟨k - 1, by omega⟩
      obtain ⟨⟨qn, qa, qz, qb⟩, hq⟩ : ∃ q, l[j]? = some q := ⟨_, List.getElem?_eq_getElem (by have := HN.out; omega)⟩
      obtain ⟨b2, off2, e2, _, d1, -, -, -⟩ := (HR.out.below hbel).at_ hq
      injection e2 with e2
      injection e2 with ea eb
      subst ea eb
      simp only [] at d1
      have fj : IntKind.i64.wrap ((k : Int) - 1) = (j : Int) := by rw [IntKind.wrap_i64]; omega
      have fj2 : (k : Int) - 1 = (j : Int) := by omega
      have fj3 : IntKind.i64.wrap (j : Int) = (j : Int) := by rw [IntKind.wrap_i64]; omega
      have j0 : (0 : Int) ≤ (j : Int) := by omega
      have j1 : (j : Int) < (n : Int) := by omega
      have hp' : l[j + 1]? = some ⟨pn, pa, pz, pb⟩ := by rw [← hj]; exact hp
      have HK := Lib.hid hk0
      by_cases hn2 : pn ≤ qn
      · have R := Lib.hid (show Wig.tcheck l = false from Wig.tcheck_bad hq hp' hn2)
        have dn : decide (pn ≤ qn) = true := decide_eq_true hn2
        clear hp hp' hq hbel hown hk0 hn2 hj hwr hk
        go_wp2_with fail
        go_quiet (fail)
        go_wp2_with fail
        go_ret
        exact ⟨by rw [R.out]; rfl, by rw [KW.out]; exact below_drewN' (DB.out qq) _⟩
      · have R := Lib.hid (show Wig.tcheck (l.take (k + 1)) = true by rw [hj] at hown ⊢; exact Wig.tcheck_step hown hq hp' (by simp only; omega))
        have dn : decide (pn ≤ qn) = false := decide_eq_false hn2
        clear hp hp' hq hbel hown hk0 hn2 hj hwr hk
        go_wp2_with fail
        go_quiet (fail)
        go_wp2_with fail
        go_roundw
        case rel => exact ⟨k + 1, qq + _, by omega, .inr (by have := HN.out; omega), rfl, R.out, by rw [KW.out, World.drewN_drewN]⟩
        case measure => simp [intOf]; omega
    · have R := Lib.hid (show Wig.tcheck l = true by
        have e : l.take k = l := List.take_of_length_le (by have := HN.out; omega)
        rw [← e]; exact hown)
      have t2 : decide (k < n) = false := decide_eq_false hlt
      clear hbel hown hwr hk hlt hk0
      go_wp2_with fail
      go_ret
      exact ⟨by rw [R.out]; rfl, by rw [KW.out]; exact DB.out qq⟩

def FlRel (l : List Wig.Snt) (w : World) (v i : Value) (wr : World) : Prop := ∃ k : Nat, k ≤ l.length ∧ v = .int .u64 (Wig.tflight (l.take k) : Int) ∧ i = .int .i64 (k : Int) ∧ Below w.heap.size w wr
set_option maxHeartbeats 2000000 in
theorem flight_any (l : List Wig.Snt) (r : Nat) (A : Option Addr) (n c : Nat) (w : World) (hn : n = l.length) (hm : n ≤ 10000) (hf : Wig.TFits l) (hr : RdT w w.heap.size A l) (he : Wig.tflight l = r) :
    Calls Try.prog 17 #[.slice A n c] w fun e w' => e = .returned (.int .u64 (r : Int)) ∧ Below w.heap.size w w' := by
  subst he
  have HR := Lib.hid hr
  have HF := Lib.hid hf
  have HN := Lib.hid hn
  clear hr hf hn
  go_enter Try.func17, Try.ntmps17
  go_wp2_with fail
  go_loopw [3, 8] (fun v i wr => FlRel l w v i wr) (fun _ i _ => n - (intOf i).toNat)
  case atStart => exact ⟨0, Nat.zero_le _, rfl, rfl, Below.refl _ _⟩
  case round =>
    obtain ⟨k, hk, rfl, rfl, hbel⟩ := hrel
    rw [← HN.out] at hk
    have KB := Lib.hid hbel
    obtain ⟨a, ha⟩ : ∃ a, Wig.tflight (l.take k) = a := ⟨_, rfl⟩
    rw [ha]
    by_cases hlt : k < n
    · obtain ⟨⟨pn, pa, pz, pb⟩, hp⟩ : ∃ p, l[k]? = some p := ⟨_, List.getElem?_eq_getElem (by have := HN.out; omega)⟩
      obtain ⟨b, off, rfl, _, c0, c1, c2, c3⟩ := (HR.out.below hbel).at_ hp
      simp only [] at c0 c1 c2 c3
      have i0' : (0 : Int) ≤ (k : Int) := by omega
      have i1' : (k : Int) < (n : Int) := by omega
      have ok := Wig.tfits_at HF.out hp
      obtain ⟨z, hz⟩ : ∃ z, Wig.fadd a pz = z := ⟨_, rfl⟩
      have al : a < 18446744073709551616 := by rw [← ha]; exact Wig.tflight_lt _
      have C := Lib.hid (fun w => add_any a pz w al ok.2.2)
      rw [hz] at C
      have R := Lib.hid (show Wig.tflight (l.take (k + 1)) = z by rw [Wig.tflight_take hp, ha]; exact hz)
      have B2 := Lib.hid (KB.out.alloc KB.out.size (.cells #[.int .u64 (pn : Int), .int .u64 (pa : Int), .int .u64 (pz : Int), .bool pb] 37))
      clear hp hbel ok hz ha hk al
      go_wp2_with fail
      refine (C.out _).mono ?_
      rintro e _ ⟨rfl, rfl⟩
      go_wp2_with fail
      go_roundw
      case rel => exact ⟨k + 1, by have := HN.out; omega, by rw [R.out], rfl, B2.out⟩
      case measure => simp [intOf]; omega
    · have hkn : k = n := by omega
      have R := Lib.hid (show a = Wig.tflight l by rw [← ha, hkn, HN.out, List.take_length])
      have t2 : decide (k < n) = false := decide_eq_false hlt
      clear hbel ha hk hkn hlt
      go_wp2_with fail
      go_ret
      exact ⟨by rw [R.out]; rfl, KB.out⟩

set_option maxHeartbeats 2000000 in
theorem rflight_any (l : List Wig.Snt) (r : Nat) (A : Option Addr) (n c : Nat) (w : World) (hn : n = l.length) (hm : n ≤ 10000) (hf : Wig.TFits l) (hr : RdT w w.heap.size A l) (he : Wig.tflight l = r) :
    Calls Try.prog 18 #[.slice A n c] w fun e w' => e = .returned (.int .u64 (r : Int)) ∧ Below w.heap.size w w' := by
  subst he
  have HR := Lib.hid hr
  have HF := Lib.hid hf
  have HN := Lib.hid hn
  clear hr hf hn
  go_enter Try.func18, Try.ntmps18
  go_wp2_with fail
  go_loopw [3, 4] (fun v i wr => FlRel l w v i wr) (fun _ i _ => n - (intOf i).toNat)
  case atStart => exact ⟨0, Nat.zero_le _, rfl, rfl, Below.refl _ _⟩
  case round =>
    obtain ⟨k, hk, rfl, rfl, hbel⟩ := hrel
    rw [← HN.out] at hk
    have KB := Lib.hid hbel
    obtain ⟨a, ha⟩ : ∃ a, Wig.tflight (l.take k) = a := ⟨_, rfl⟩
    rw [ha]
    by_cases hlt : k < n
    · obtain ⟨⟨pn, pa, pz, pb⟩, hp⟩ : ∃ p, l[k]? = some p := ⟨_, List.getElem?_eq_getElem (by have := HN.out; omega)⟩
      obtain ⟨b, off, rfl, _, -, -, c2, -⟩ := (HR.out.below hbel).at_ hp
      simp only [] at c2
      have i0' : (0 : Int) ≤ (k : Int) := by omega
      have i1' : (k : Int) < (n : Int) := by omega
      have ok := Wig.tfits_at HF.out hp
      obtain ⟨z, hz⟩ : ∃ z, Wig.fadd a pz = z := ⟨_, rfl⟩
      have al : a < 18446744073709551616 := by rw [← ha]; exact Wig.tflight_lt _
      have C := Lib.hid (fun w => radd_any a pz w al ok.2.2)
      rw [hz] at C
      have R := Lib.hid (show Wig.tflight (l.take (k + 1)) = z by rw [Wig.tflight_take hp, ha]; exact hz)
      clear hp hbel ok hz ha hk al
      go_wp2_with fail
      refine (C.out _).mono ?_
      rintro e _ ⟨rfl, rfl⟩
      go_wp2_with fail
      go_roundw
      case rel => exact ⟨k + 1, by have := HN.out; omega, by rw [R.out], rfl, KB.out⟩
      case measure => simp [intOf]; omega
    · have hkn : k = n := by omega
      have R := Lib.hid (show a = Wig.tflight l by rw [← ha, hkn, HN.out, List.take_length])
      have t2 : decide (k < n) = false := decide_eq_false hlt
      clear hbel ha hk hkn hlt
      go_wp2_with fail
      go_ret
      exact ⟨by rw [R.out]; rfl, KB.out⟩
end Go.Proofs.Ythdhcppgpnnccaa
