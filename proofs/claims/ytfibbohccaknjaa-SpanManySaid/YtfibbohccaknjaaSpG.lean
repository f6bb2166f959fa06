/-
  What package span's Last and the document's Last, Check, Has, Size and Same of spans return. Conditions: the lists read as spans; Size: of a set's own spans of 64 bits.
-/
import Derived.Test.YtfibbohccaknjaaSpF
import Derived.Test.YtfibbohccaknjaaSpK
namespace Wig
/-- How many the last ones are. -/
def scnt (k : Int) (n : Nat) : Nat := (max 0 (min k (n : Int))).toNat
theorem scnt_le (k : Int) (n : Nat) : scnt k n ≤ n := by unfold scnt; omega
end Wig
namespace Go.Proofs.Ytfibbohccaknjaa
open Go.ChangeShapes Go.WideShapes Go.ChangeAt Go.RowKit Go.Deep
set_option linter.unusedVariables false

theorem last_any (l : List Wig.Spn) (k : Int) (A : Option Addr) (n c : Nat) (w : World) (hk0 : -9223372036854775808 ≤ k) (hk1 : k ≤ 9223372036854775807) (hn : n = l.length) (hm : n ≤ 100000) (hc : n ≤ c) (hr : RdS w w.heap.size A l) :
    Calls Try.prog 23 #[.slice A n c, .int .i64 k] w fun e w' => ∃ v, e = .returned v ∧ OwnS w' w.heap.size v (Wig.slast l (Wig.scnt k n)) ∧ Below w.heap.size w w' := by
  obtain ⟨x, hx⟩ : ∃ x, x = min k (n : Int) := ⟨_, rfl⟩
  obtain ⟨r, hr0⟩ : ∃ r, r = Wig.scnt k n := ⟨_, rfl⟩
  have hr1 : max 0 x = (r : Int) := by rw [hx, hr0]; unfold Wig.scnt; omega
  have hrn : r ≤ n := by rw [hr0]; exact Wig.scnt_le k n
  have e0 : (if (n : Int) < k then (n : Int) else k) = x := by split <;> omega
  have e0' : min k (n : Int) = x := hx.symm
  have e1 : (if 0 < x then x else 0) = (r : Int) := by split <;> omega
  obtain ⟨f, hf⟩ : ∃ f, f = n - r := ⟨_, rfl⟩
  obtain ⟨cf, hcf⟩ : ∃ cf, cf = c - f := ⟨_, rfl⟩
  have hfn : f ≤ n := by omega
  have hrf : r = n - f := by omega
  have f1 : IntKind.i64.wrap ((n : Int) - (r : Int)) = (f : Int) := by rw [IntKind.wrap_i64]; omega
  have f2 : (n : Int) - (r : Int) = (f : Int) := by omega
  have HD := Lib.hid (show Wig.slast l (Wig.scnt k n) = l.drop f by unfold Wig.slast; rw [← hr0, hf, hn])
  have CC := Lib.hid (copied_any (l.drop f) (slA A c f) r cf w (by rw [List.length_drop]; omega) (by omega) (hr.from_ (by omega)))
  have G := Lib.hid (And.intro hfn (And.intro hrf hcf))
  rw [HD.out]
  clear hn hc hr hx hr0 hf hcf hfn hrf hrn hk0 hk1
  go_enter Try.func23, Try.ntmps23
  go_wp2_with (refine wpList_run rfl (run_sl_l rfl rfl rfl G.out.1 r cf G.out.2.1 G.out.2.2) ?_)
  refine (CC.out).mono ?_
  rintro e w2 ⟨v, rfl, hown, hb⟩
  have R1 := Lib.hid hown
  have R2 := Lib.hid hb
  clear hown hb
  go_wp2_with fail
  go_ret
  exact ⟨v, rfl, R1.out, R2.out⟩

/-! The document's. -/
theorem own_lit0 (w : World) : OwnS (w.alloc (.cells #[] 25)) w.heap.size (.slice (some ⟨w.heap.size, 0, none⟩) 0 0) [] :=
  ⟨rfl, .inr ⟨w.heap.size, 0, #[], rfl, Nat.le_refl _, by show (w.heap.push _)[w.heap.size]? = _; simp, Nat.le_refl _, by decide, rfl, rfl⟩⟩
theorem rlast_tail (l : List Wig.Spn) (r f cf : Nat) (A : Option Addr) (c : Nat) (w : World) (hr : RdS w w.heap.size A l) (hc : l.length ≤ c) (h1 : r = l.length - f) : RdS (w.alloc (.cells #[] 25)) (w.alloc (.cells #[] 25)).heap.size (slA A c f) (l.drop f) :=
  ((hr.from_ hc).below ((Below.refl _ _).alloc (Nat.le_refl _) _)).wide (by simp)
set_option maxHeartbeats 1000000 in
theorem rlast_any (l : List Wig.Spn) (k : Int) (A : Option Addr) (n c : Nat) (w : World) (hk0 : -9223372036854775808 ≤ k) (hk1 : k ≤ 9223372036854775807) (hn : n = l.length) (hm : n ≤ 100000) (hc : n ≤ c) (hr : RdS w w.heap.size A l) :
    Calls Try.prog 24 #[.slice A n c, .int .i64 k] w fun e w' => ∃ v, e = .returned v ∧ OwnS w' w.heap.size v (Wig.slast l (Wig.scnt k n)) ∧ Below w.heap.size w w' := by
  have O := Lib.hid (own_lit0 w)
  have B := Lib.hid ((Below.refl w.heap.size w).alloc (Nat.le_refl _) (.cells #[] 25))
  obtain ⟨r, hr0⟩ : ∃ r, r = Wig.scnt k n := ⟨_, rfl⟩
  obtain ⟨f, hf⟩ : ∃ f, f = n - r := ⟨_, rfl⟩
  obtain ⟨cf, hcf⟩ : ∃ cf, cf = c - f := ⟨_, rfl⟩
  have hrn : r ≤ n := by rw [hr0]; exact Wig.scnt_le k n
  have hrf : r = n - f := by omega
  have HD := Lib.hid (show Wig.slast l (Wig.scnt k n) = l.drop f by unfold Wig.slast; rw [← hr0, hf, hn])
  have G := Lib.hid (show f ≤ n ∧ r = n - f ∧ cf = c - f from ⟨by omega, hrf, hcf⟩)
  have RL := Lib.hid (rlast_tail l r f cf A c w hr (by omega) (by omega))
  have HL := Lib.hid (show (l.drop f).length = r by rw [List.length_drop]; omega)
  have RLEN := Lib.hid (show r ≤ 100000 by omega)
  have SZ := Lib.hid (show w.heap.size ≤ (w.alloc (.cells #[] 25)).heap.size by simp)
  rw [HD.out]
  have f1 : IntKind.i64.wrap ((n : Int) - (r : Int)) = (f : Int) := by rw [IntKind.wrap_i64]; omega
  have f2 : (n : Int) - (r : Int) = (f : Int) := by omega
  have f3 : IntKind.i64.wrap (f : Int) = (f : Int) := by rw [IntKind.wrap_i64]; omega
  unfold Wig.scnt at hr0
  by_cases h0 : k < 0
  · have d0 : decide (k < 0) = true := decide_eq_true h0
    obtain rfl : r = 0 := by omega
    have d1 : decide ((n : Int) < 0) = false := decide_eq_false (by omega)
    have d2 : ¬ ((n : Int) < 0) := by omega
    obtain rfl : f = n := by omega
    clear hn hm hc hr hr0 hf hcf hrn hrf hk0 hk1 h0
    go_enter Try.func24, Try.ntmps24
    go_wp2_with (first
      | (refine wpList_run rfl (run_sl_l rfl rfl rfl G.out.1 0 cf G.out.2.1 G.out.2.2) ?_)
      | (at_builtin; refine wpList_append_spans rfl _ _ rfl w.heap.size _ [] (l.drop f) rfl O.out _ (slA A c f) cf 0 HL.out rfl RL.out (by simp) SZ.out ?_))
    intro v' w' h1 h2
    have R1 := Lib.hid h1
    have R2 := Lib.hid (B.out.grown h2 SZ.out (fun q hq => (O.out.block q hq).1))
    clear h1 h2
    go_wp2_with fail
    go_ret
    exact ⟨v', rfl, R1.out, R2.out⟩
  · by_cases h2 : (n : Int) < k
    · have d0 : decide (k < 0) = false := decide_eq_false h0
      have d1 : decide ((n : Int) < k) = true := decide_eq_true h2
      obtain rfl : r = n := by omega
      clear hn hm hc hr hr0 hf hcf hrn hrf hk0 hk1 h0 h2
      go_enter Try.func24, Try.ntmps24
      go_wp2_with (first
        | (refine wpList_run rfl (run_sl_l rfl rfl rfl G.out.1 r cf G.out.2.1 G.out.2.2) ?_)
        | (at_builtin; refine wpList_append_spans rfl _ _ rfl w.heap.size _ [] (l.drop f) rfl O.out _ (slA A c f) cf r HL.out rfl RL.out (by have := RLEN.out; simp; omega) SZ.out ?_))
      intro v' w' h1 h2
      have R1 := Lib.hid h1
      have R2 := Lib.hid (B.out.grown h2 SZ.out (fun q hq => (O.out.block q hq).1))
      clear h1 h2
      go_wp2_with fail
      go_ret
      exact ⟨v', rfl, R1.out, R2.out⟩
    · have d0 : decide (k < 0) = false := decide_eq_false h0
      have d1 : decide ((n : Int) < k) = false := decide_eq_false h2
      obtain rfl : k = (r : Int) := by omega
      clear hn hm hc hr hr0 hf hcf hrn hrf hk0 hk1 h0 h2
      go_enter Try.func24, Try.ntmps24
      go_wp2_with (first
        | (refine wpList_run rfl (run_sl_l rfl rfl rfl G.out.1 r cf G.out.2.1 G.out.2.2) ?_)
        | (at_builtin; refine wpList_append_spans rfl _ _ rfl w.heap.size _ [] (l.drop f) rfl O.out _ (slA A c f) cf r HL.out rfl RL.out (by have := RLEN.out; simp; omega) SZ.out ?_))
      intro v' w' h1 h2
      have R1 := Lib.hid h1
      have R2 := Lib.hid (B.out.grown h2 SZ.out (fun q hq => (O.out.block q hq).1))
      clear h1 h2
      go_wp2_with fail
      go_ret
      exact ⟨v', rfl, R1.out, R2.out⟩

def RcRel (l : List Wig.Spn) (w : World) (i : Value) (wr : World) : Prop := ∃ k q : Nat, k ≤ l.length ∧ i = .int .i64 (k : Int) ∧ Wig.SOwn (l.take k) ∧ w.drewN q = wr
set_option maxHeartbeats 4000000 in
theorem rcheck_any (l : List Wig.Spn) (r : Bool) (A : Option Addr) (n c : Nat) (w : World) (hn : n = l.length) (hm : n ≤ 100000) (hr : RdS w w.heap.size A l) (hs : Wig.sown l = r) :
    Calls Try.prog 13 #[.slice A n c] w fun e w' => e = .returned (.bool r) ∧ Below w.heap.size w w' := by
  subst hs
  have HR := Lib.hid hr
  have HN := Lib.hid hn
  have DB := Lib.hid (fun q => below_drewN' (Below.refl w.heap.size w) q)
  clear hr hn
  go_enter Try.func13, Try.ntmps13
  go_wp2_with fail
  go_loopw [3] (fun i wr => RcRel l w i wr) (fun i _ => n - (intOf i).toNat)
  case atStart => exact ⟨0, 0, Nat.zero_le _, rfl, Wig.own_nil, rfl⟩
  case round =>
    obtain ⟨k, qq, hk, rfl, hown, rfl⟩ := hrel
    rw [← HN.out] at hk
    have KO := Lib.hid hown
    obtain ⟨wr, hwr⟩ : ∃ wr, wr = w.drewN qq := ⟨_, rfl⟩
    have KW := Lib.hid hwr
    have hbel : Below w.heap.size w wr := by rw [hwr]; exact DB.out qq
    rw [← hwr]
    by_cases hlt : k < n
    · obtain ⟨⟨p0, p1⟩, hp⟩ : ∃ p, l[k]? = some p := ⟨_, List.getElem?_eq_getElem (by have := HN.out; omega)⟩
      obtain ⟨b, off, rfl, hb, c0, c1⟩ := (HR.out.below hbel).at_ hp
      simp only [] at c0 c1
      have i0 : (0 : Int) ≤ (k : Int) := by omega
      have i1 : (k : Int) < (n : Int) := by omega
      by_cases he : p1 ≤ p0
      · have de : decide (p1 ≤ p0) = true := decide_eq_true he
        have R := Lib.hid (Wig.own_bad_empty hp he)
        clear hp hbel hown he hwr
        go_wp2_with fail
        go_quiet (fail)
        go_wp2_with fail
        go_ret
        exact ⟨by rw [R.out]; rfl, by rw [KW.out]; exact below_drewN' (DB.out qq) _⟩
      · have de : decide (p1 ≤ p0) = false := decide_eq_false he
        by_cases hk0 : k = 0
        · have R := Lib.hid (show Wig.SOwn (l.take (k + 1)) by subst hk0; exact Wig.own_first hp (by simp only; omega))
          have d0 : decide ((0 : Int) < (k : Int)) = false := decide_eq_false (by omega)
          have d0' : decide (0 < k) = false := decide_eq_false (by omega)
          clear hp hbel hown he hwr hk0
          go_wp2_with fail
          go_quiet (fail)
          go_wp2_with fail
          go_roundw
          case rel => exact ⟨k + 1, qq + _, by have := HN.out; omega, rfl, R.out, by rw [KW.out, World.drewN_drewN]⟩
          case measure => simp [intOf]; omega
        · obtain ⟨j, hj⟩ : ∃ j, k = j + 1 := ⟨k - 1, by omega⟩
          obtain ⟨⟨q0, q1⟩, hq⟩ : ∃ q, l[j]? = some q := ⟨_, List.getElem?_eq_getElem (by have := HN.out; omega)⟩
          obtain ⟨b2, off2, e2, _, _, d1⟩ := (HR.out.below hbel).at_ hq
          injection e2 with e2
          injection e2 with ea eb
          subst ea eb
          simp only [] at d1
          have d0 : decide ((0 : Int) < (k : Int)) = true := decide_eq_true (by omega)
          have d0' : decide (0 < k) = true := decide_eq_true (by omega)
          have fj : IntKind.i64.wrap ((k : Int) - 1) = (j : Int) := by rw [IntKind.wrap_i64]; omega
          have fj2 : (k : Int) - 1 = (j : Int) := by omega
          have fj3 : IntKind.i64.wrap (j : Int) = (j : Int) := by rw [IntKind.wrap_i64]; omega
          have j0 : (0 : Int) ≤ (j : Int) := by omega
          have j1 : (j : Int) < (n : Int) := by omega
          have hp' : l[j + 1]? = some (p0, p1) := by rw [← hj]; exact hp
          by_cases hn2 : p0 ≤ q1
          · have R := Lib.hid (Wig.own_bad_near hq hp' hn2)
            have dn : decide (p0 ≤ q1) = true := decide_eq_true hn2
            clear hp hp' hq hbel hown he hk0 hn2 hj hwr
            go_wp2_with fail
            go_quiet (fail)
            go_wp2_with fail
            go_ret
            exact ⟨by rw [R.out]; rfl, by rw [KW.out]; exact below_drewN' (DB.out qq) _⟩
          · have R := Lib.hid (show Wig.SOwn (l.take (k + 1)) by rw [hj] at hown ⊢; exact Wig.own_step hown hq hp' (by simp only; omega) (by simp only; omega))
            have dn : decide (p0 ≤ q1) = false := decide_eq_false hn2
            clear hp hp' hq hbel hown he hk0 hn2 hj hwr
            go_wp2_with fail
            go_quiet (fail)
            go_wp2_with fail
            go_roundw
            case rel => exact ⟨k + 1, qq + _, by have := HN.out; omega, rfl, R.out, by rw [KW.out, World.drewN_drewN]⟩
            case measure => simp [intOf]; omega
    · have hkn : k = n := by omega
      have R := Lib.hid (show Wig.sown l = true by rw [Wig.sown_iff, ← List.take_length (l := l), ← HN.out, ← hkn]; exact hown)
      clear hbel hown hwr
      subst hkn
      go_wp2_with fail
      go_ret
      exact ⟨by rw [R.out]; rfl, by rw [KW.out]; exact DB.out qq⟩

def RhRel (l : List Wig.Spn) (x : Nat) (w : World) (i : Value) (wr : World) : Prop := ∃ k : Nat, k ≤ l.length ∧ i = .int .i64 (k : Int) ∧ Wig.shas (l.take k) x = false ∧ w = wr
set_option maxHeartbeats 1000000 in
theorem rhas_any (l : List Wig.Spn) (x : Nat) (b : Bool) (A : Option Addr) (n c : Nat) (w : World) (hn : n = l.length) (hm : n ≤ 100000) (hr : RdS w w.heap.size A l) (hb : Wig.shas l x = b) :
    Calls Try.prog 15 #[.slice A n c, .int .u64 (x : Int)] w fun e w' => e = .returned (.bool b) ∧ Below w.heap.size w w' := by
  subst hb
  have HR := Lib.hid hr
  have HN := Lib.hid hn
  clear hr hn
  go_enter Try.func15, Try.ntmps15
  go_wp2_with fail
  go_loopw [5] (fun i wr => RhRel l x w i wr) (fun i _ => n - (intOf i).toNat)
  case atStart => exact ⟨0, Nat.zero_le _, rfl, rfl, rfl⟩
  case round =>
    obtain ⟨k, hk, rfl, hno, rfl⟩ := hrel
    rw [← HN.out] at hk
    by_cases hlt : k < n
    · obtain ⟨⟨p0, p1⟩, hp⟩ : ∃ p, l[k]? = some p := ⟨_, List.getElem?_eq_getElem (by have := HN.out; omega)⟩
      obtain ⟨b, off, rfl, hb, c0, c1⟩ := HR.out.at_ hp
      simp only [] at c0 c1
      have i0 : (0 : Int) ≤ (k : Int) := by omega
      have i1 : (k : Int) < (n : Int) := by omega
      have step : Wig.shas (l.take (k + 1)) x = Wig.inn (p0, p1) x := by rw [Wig.take_next hp, Wig.has_app, hno, Bool.false_or, Wig.has_cons, Wig.has_nil, Bool.or_false]
      have whole : Wig.inn (p0, p1) x = true → Wig.shas l x = true := fun h => Wig.has_iff.2 ⟨_, List.mem_of_getElem? hp, Wig.inn_iff.1 h⟩
      by_cases h1 : p0 ≤ x
      · have d1 : decide (p0 ≤ x) = true := decide_eq_true h1
        by_cases h2 : x < p1
        · have d2 : decide (x < p1) = true := decide_eq_true h2
          have R := Lib.hid (whole (Wig.inn_iff.2 ⟨h1, h2⟩))
          clear hp step whole h1 h2 hno
          go_wp2_with fail
          go_ret
          exact ⟨by rw [R.out]; rfl, Below.refl _ _⟩
        · have d2 : decide (x < p1) = false := decide_eq_false h2
          have R := Lib.hid (show Wig.shas (l.take (k + 1)) x = false by rw [step]; simp [Wig.inn, h2])
          clear hp step whole h1 h2 hno
          go_wp2_with fail
          go_roundw
          case rel => exact ⟨k + 1, by have := HN.out; omega, rfl, R.out, rfl⟩
          case measure => simp [intOf]; omega
      · have d1 : decide (p0 ≤ x) = false := decide_eq_false h1
        have R := Lib.hid (show Wig.shas (l.take (k + 1)) x = false by rw [step]; simp [Wig.inn, h1])
        clear hp step whole h1 hno
        go_wp2_with fail
        go_roundw
        case rel => exact ⟨k + 1, by have := HN.out; omega, rfl, R.out, rfl⟩
        case measure => simp [intOf]; omega
    · have hkn : k = n := by omega
      have R := Lib.hid (show Wig.shas l x = false by rw [hkn, HN.out, List.take_length] at hno; exact hno)
      clear hno
      subst hkn
      go_wp2_with fail
      go_ret
      exact ⟨by rw [R.out]; rfl, Below.refl _ _⟩

def RzRel (l : List Wig.Spn) (w : World) (s i : Value) (wr : World) : Prop := ∃ k q : Nat, k ≤ l.length ∧ s = .int .u64 (Wig.ssum (l.take k) : Int) ∧ i = .int .i64 (k : Int) ∧ w.drewN q = wr
set_option maxHeartbeats 1000000 in
theorem rsize_any (l : List Wig.Spn) (r : Nat) (A : Option Addr) (n c : Nat) (w : World) (hn : n = l.length) (hm : n ≤ 100000) (hr : RdS w w.heap.size A l) (ho : Wig.SOwn l) (hf : Wig.SFits l) (hs : Wig.ssum l = r) :
    Calls Try.prog 26 #[.slice A n c] w fun e w' => e = .returned (.int .u64 (r : Int)) ∧ Below w.heap.size w w' := by
  subst hs
  have HR := Lib.hid hr
  have HN := Lib.hid hn
  have HO := Lib.hid ho
  have HF := Lib.hid hf
  have DB := Lib.hid (fun q => below_drewN' (Below.refl w.heap.size w) q)
  clear hr hn ho hf
  go_enter Try.func26, Try.ntmps26
  go_wp2_with fail
  go_loopw [3, 4] (fun s i wr => RzRel l w s i wr) (fun _ i _ => n - (intOf i).toNat)
  case atStart => exact ⟨0, 0, Nat.zero_le _, rfl, rfl, rfl⟩
  case round =>
    obtain ⟨k, qq, hk, rfl, rfl, rfl⟩ := hrel
    rw [← HN.out] at hk
    obtain ⟨wr, hwr⟩ : ∃ wr, wr = w.drewN qq := ⟨_, rfl⟩
    have KW := Lib.hid hwr
    have hbel : Below w.heap.size w wr := by rw [hwr]; exact DB.out qq
    rw [← hwr]
    by_cases hlt : k < n
    · obtain ⟨⟨p0, p1⟩, hp⟩ : ∃ p, l[k]? = some p := ⟨_, List.getElem?_eq_getElem (by have := HN.out; omega)⟩
      obtain ⟨b', off, rfl, _, c0, c1⟩ := (HR.out.below hbel).at_ hp
      simp only [] at c0 c1
      have i0 : (0 : Int) ≤ (k : Int) := by omega
      have i1 : (k : Int) < (n : Int) := by omega
      have h1 := Wig.ssum_next hp
      have h2 := Wig.ssum_lt (Wig.own_sub HO.out (List.take_sublist (k + 1) l)) (Wig.sfits_sub HF.out fun p hp => List.mem_of_mem_take hp)
      have h3 := HO.out.1 _ (List.mem_of_getElem? hp)
      have h4 := HF.out _ (List.mem_of_getElem? hp)
      obtain ⟨s, hs⟩ : ∃ s, s = Wig.ssum (l.take k) := ⟨_, rfl⟩
      obtain ⟨d, hd⟩ : ∃ d, d = (s + p1) % 18446744073709551616 := ⟨_, rfl⟩
      obtain ⟨s', hs'⟩ : ∃ s', s' = Wig.ssum (l.take (k + 1)) := ⟨_, rfl⟩
      rw [← hs, ← hs'] at h1
      rw [← hs'] at h2
      simp only at h1 h2 h3 h4
      rw [← hs]
      have f1 : IntKind.u64.wrap ((s : Int) + (p1 : Int)) = (d : Int) := by rw [IntKind.wrap_u64]; omega
      have f2 : IntKind.u64.wrap ((d : Int) - (p0 : Int)) = (s' : Int) := by rw [IntKind.wrap_u64]; omega
      have HS := Lib.hid hs'
      clear hp hbel h1 h2 h3 h4 hs hd hs' hwr
      go_wp2_with fail
      go_quiet (fail)
      go_wp2_with fail
      go_roundw
      case rel => exact ⟨k + 1, qq + _, by have := HN.out; omega, by rw [HS.out], rfl, by rw [KW.out, World.drewN_drewN]⟩
      case measure => simp [intOf]; omega
    · have hkn : k = n := by omega
      have R := Lib.hid (show Wig.ssum (l.take k) = Wig.ssum l by rw [hkn, HN.out, List.take_length])
      obtain ⟨s, hs⟩ : ∃ s, s = Wig.ssum (l.take k) := ⟨_, rfl⟩
      rw [← hs] at R ⊢
      clear hbel hs hwr
      subst hkn
      go_wp2_with fail
      go_ret
      exact ⟨by rw [R.out]; rfl, by rw [KW.out]; exact DB.out qq⟩

theorem span_guard : Try.prog.eqGuardType Try.prog.depth 25 = false := by kernel_rfl
theorem span_ne (p0 p1 : Nat) (w : World) : (binOp .neq 25 (.agg #[.int .u64 (p0 : Int), .int .u64 (p1 : Int)]) (.agg #[.int .u64 (p0 : Int), .int .u64 (p1 : Int)])).run Try.prog w = .ok (.bool false) w := by
  have u := Try.underlying23
  have a := Try.isAgg23
  have z := Try.sizeOf23
  have hS : Try.prog.underlying 25 = some (.struct (Try.prog.fieldsOf 25)) := by kernel_rfl
  have hp : Try.prog.stoodInHeld 25 = false := by kernel_rfl
  rw [run_neq_struct, show (10000 : Nat) = 9999 + 1 from rfl, run_equalIn_agg w 9999 25 _ _ hS hp]
  simp only [Program.fieldsOf, Try.underlying25]
  go_simp
def SaRel (n : Nat) (w : World) (i : Value) (wr : World) : Prop := ∃ k : Nat, k ≤ n ∧ i = .int .i64 (k : Int) ∧ Below w.heap.size w wr
set_option maxHeartbeats 1000000 in
theorem same_any (l : List Wig.Spn) (A A2 : Option Addr) (n c c2 : Nat) (w : World) (hn : n = l.length) (hm : n ≤ 100000) (h1 : RdS w w.heap.size A l) (h2 : RdS w w.heap.size A2 l) :
    Calls Try.prog 16 #[.slice A n c, .slice A2 n c2] w fun e w' => e = .returned (.bool true) ∧ Below w.heap.size w w' := by
  have H1 := Lib.hid h1
  have H2 := Lib.hid h2
  have HN := Lib.hid hn
  have t : ((n : Int) != (n : Int)) = false := by simp
  have g := span_guard
  clear h1 h2 hn
  go_enter Try.func16, Try.ntmps16
  go_wp2_with fail
  go_loopw [5] (fun i wr => SaRel n w i wr) (fun i _ => n - (intOf i).toNat)
  case atStart => exact ⟨0, Nat.zero_le _, rfl, Below.refl _ _⟩
  case round =>
    obtain ⟨k, hk, rfl, hbel⟩ := hrel
    have KB := Lib.hid hbel
    by_cases hlt : k < n
    · obtain ⟨⟨p0, p1⟩, hp⟩ : ∃ p, l[k]? = some p := ⟨_, List.getElem?_eq_getElem (by have := HN.out; omega)⟩
      obtain ⟨b, off, rfl, _, c0, c1⟩ := (H1.out.below hbel).at_ hp
      obtain ⟨b2, off2, rfl, _, d0, d1⟩ := (H2.out.below hbel).at_ hp
      simp only [] at c0 c1 d0 d1
      have i0 : (0 : Int) ≤ (k : Int) := by omega
      have i1 : (k : Int) < (n : Int) := by omega
      have ne := span_ne p0 p1
      have R := Lib.hid fun nq => (show SaRel n w (.int .i64 ((k : Int) + 1)) (wr.drewN nq) from ⟨k + 1, hlt, rfl, below_drewN' KB.out nq⟩)
      clear hp hbel
      go_wp2_with fail
      go_quiet (fail)
      go_wp2_with fail
      go_roundw
      case rel => exact R.out _
      case measure => simp [intOf]; omega
    · have t2 : decide (k < n) = false := decide_eq_false hlt
      clear hbel hk hlt
      go_wp2_with fail
      go_ret
      exact ⟨rfl, KB.out⟩
end Go.Proofs.Ytfibbohccaknjaa
