/-
  VarintShort: bytes that tell a number tell none when they are cut, and the number is no greater than may be. Condition: the table of sizes holds what the program's text lays (the card ties it).
-/
import Derived.Test.YtphjdlinldmgnaaDoorVarW
import Derived.Test.YtphjdlinldmgnaaDoorLaid
namespace Go.Proofs.YtphjdlinldmgnaaDoor.varintShort
open Go.ChangeShapes Go.WideShapes Go.ChangeAt Go.RowKit Go.Deep
set_option linter.unusedVariables false

set_option maxHeartbeats 2000000 in
theorem short (A : Option Addr) (c : Nat) (xs : List Nat) (i : Int) (hx : Wig.Bytes xs) (hl : xs.length ≤ c) (hm : c ≤ maxLen) (hs : Wig.vshort xs = true) (w : World) (hr : RdN .u8 w w.heap.size A xs) (hT : Tab w) :
    Calls Tryd.prog 6 #[.slice A xs.length c, .int .i64 i] w fun e w' => e = .returned (.bool true) ∧ Below w.heap.size w w' := by
  obtain ⟨n, hn⟩ : ∃ n, n = xs.length := ⟨_, rfl⟩
  rw [← hn] at hl ⊢
  have C0 := Lib.hid (awake_any w hT)
  have C1 : ∀ w, RdN .u8 w w.heap.size A xs → Tab w → Calls Tryd.prog 12 #[.slice A n c] w fun e w' => e = .returned (.tuple #[.int .u64 0, .int .i64 0, .int .i64 30]) ∧ w = w' := fun w h t =>
    get_gives xs 0 0 30 A n c w (by unfold Wig.vnum; rw [hs]; rfl) (by unfold Wig.vlen; rw [hs]; rfl) (by unfold Wig.vgot; rw [hs]; rfl) hx hn hl hm h t
  have C1 := Lib.hid C1
  have t1 : decide ((n : Int) < 8) = true := decide_eq_true (by have := Wig.vshort_lt hx hs; omega)
  have HT := Lib.hid hT
  have HR := Lib.hid hr
  clear hT hr hx hn hl hm hs
  go_enter Tryd.func6, Tryd.ntmps6
  go_wp2_with fail
  refine (C0.out).mono ?_
  rintro e w1 ⟨rfl, hb1⟩
  have B1 := Lib.hid hb1
  have T1 := Lib.hid (HT.out.below hb1)
  have R1 := Lib.hid (HR.out.step hb1)
  clear hb1
  go_wp2_with fail
  refine (C1.out _ R1.out T1.out).mono ?_
  rintro e w' ⟨rfl, rfl⟩
  go_wp2_with fail
  go_ret
  exact ⟨rfl, B1.out⟩

set_option maxHeartbeats 2000000 in
theorem whole (b off c p : Nat) (neg : Bool) (xs : List Nat) (i j : Int) (hx : Wig.Bytes xs) (hl : xs.length ≤ c) (hm : c ≤ maxLen) (hs : Wig.vshort xs = false) (hneg : decide (i < 0) = neg) (hj : neg = true → wrap64 (i + 1) = j ∧ wrap64 (-j) = (p : Int)) (hp : neg = false → i = (p : Int))
    (w : World) (hr : RdN .u8 w w.heap.size (some ⟨b, off, none⟩) xs) (hT : Tab w) :
    Calls Tryd.prog 6 #[.slice (some ⟨b, off, none⟩) xs.length c, .int .i64 i] w fun e w' => e = .returned (.bool true) ∧ Below w.heap.size w w' := by
  obtain ⟨n, hn⟩ : ∃ n, n = xs.length := ⟨_, rfl⟩
  obtain ⟨m, hm'⟩ : ∃ m, m = Wig.vnum xs := ⟨_, rfl⟩
  obtain ⟨l, hl'⟩ : ∃ l, l = Wig.vneed xs := ⟨_, rfl⟩
  obtain ⟨s, hs'⟩ : ∃ s, s = Wig.vsize m := ⟨_, rfl⟩
  obtain ⟨k, hk⟩ : ∃ k, k = p % l := ⟨_, rfl⟩
  have l1 : 1 ≤ l ∧ l ≤ 8 := by have := Wig.vneed_cases hx; omega
  have ln : l ≤ n := by have := of_decide_eq_false hs; omega
  have kl : k < l := by rw [hk]; exact Nat.mod_lt _ (by omega)
  obtain ⟨q1, q2, q3⟩ := Wig.vwhole hx hs
  have sm := Wig.vnum_small hx
  rw [← hm', ← hs', ← hl'] at sm
  rw [← hn] at hl ⊢
  have len : Wig.vlen xs = l := by unfold Wig.vlen; rw [hs, hl']; rfl
  have C0 := Lib.hid (awake_any w hT)
  have C1 : ∀ w, RdN .u8 w w.heap.size (some ⟨b, off, none⟩) xs → Tab w → Calls Tryd.prog 12 #[.slice (some ⟨b, off, none⟩) n c] w fun e w' => e = .returned (.tuple #[.int .u64 (m : Int), .int .i64 (l : Int), .int .i64 0]) ∧ w = w' := fun w h t =>
    get_gives xs m l 0 (some ⟨b, off, none⟩) n c w hm'.symm len (by unfold Wig.vgot; rw [hs]; rfl) hx hn hl hm h t
  have C1 := Lib.hid C1
  have hxk : Wig.Bytes (xs.take k) := fun x h => hx x (List.mem_of_mem_take h)
  have hxl : Wig.Bytes (xs.take l) := fun x h => hx x (List.mem_of_mem_take h)
  have hsk : Wig.vshort (xs.take k) = true := Wig.vcut hx hs (by rw [← hl']; exact kl)
  have C2 : ∀ w, RdN .u8 w w.heap.size (some ⟨b, off, none⟩) xs → Tab w → Calls Tryd.prog 12 #[.slice (some ⟨b, off, none⟩) k c] w fun e w' => e = .returned (.tuple #[.int .u64 0, .int .i64 0, .int .i64 30]) ∧ w = w' := fun w h t =>
    get_gives (xs.take k) 0 0 30 (some ⟨b, off, none⟩) k c w (by unfold Wig.vnum; rw [hsk]; rfl) (by unfold Wig.vlen; rw [hsk]; rfl) (by unfold Wig.vgot; rw [hsk]; rfl) hxk (by rw [List.length_take]; omega) (by omega) hm (h.take k) t
  have C2 := Lib.hid C2
  have C3 : ∀ w, RdN .u8 w w.heap.size (some ⟨b, off, none⟩) xs → Tab w → Calls Tryd.prog 12 #[.slice (some ⟨b, off, none⟩) l c] w fun e w' => e = .returned (.tuple #[.int .u64 (m : Int), .int .i64 (l : Int), .int .i64 0]) ∧ w = w' := fun w h t =>
    get_gives (xs.take l) m l 0 (some ⟨b, off, none⟩) l c w (by rw [hl', q2, hm']) (by unfold Wig.vlen; rw [hl', q1, q3]; rfl) (by unfold Wig.vgot; rw [hl', q1]; rfl) hxl (by rw [List.length_take]; omega) (by omega) hm (h.take l) t
  have C3 := Lib.hid C3
  have C4 := Lib.hid (fun w t => size_gives m s w hs'.symm t)
  have t1 : decide ((l : Int) < 1) = false := decide_eq_false (by omega)
  have t2 : decide ((8 : Int) < (l : Int)) = false := decide_eq_false (by omega)
  have t3 : decide (n < l) = false := decide_eq_false (by omega)
  have t4 : decide ((4611686018427387903 : Int) < (m : Int)) = false := decide_eq_false (by omega)
  have t5 : decide (s ≤ l) = true := decide_eq_true sm.2
  have t6 : ¬ l = 0 := by omega
  have t7 : (p : Int).tmod (l : Int) = (k : Int) := by rw [hk, Int.tmod_eq_emod_of_nonneg (by omega)]; rfl
  have t8 : k ≤ c := by omega
  have t9 : l ≤ c := by omega
  have HT := Lib.hid hT
  have HR := Lib.hid hr
  clear hT hr hx hn hl hm hs hm' hl' hs' hk l1 ln kl q1 q2 q3 sm len hxk hxl hsk
  cases neg
  · obtain rfl := hp rfl
    clear hp hj
    go_enter Tryd.func6, Tryd.ntmps6
    go_wp2_with fail
    refine (C0.out).mono ?_
    rintro e w1 ⟨rfl, hb1⟩
    have B1 := Lib.hid hb1
    have T1 := Lib.hid (HT.out.below hb1)
    have R1 := Lib.hid (HR.out.step hb1)
    clear hb1
    go_wp2_with fail
    refine (C1.out _ R1.out T1.out).mono ?_
    rintro e w' ⟨rfl, rfl⟩
    go_wp2_with fail
    refine (C2.out _ R1.out T1.out).mono ?_
    rintro e w' ⟨rfl, rfl⟩
    go_wp2_with fail
    refine (C3.out _ R1.out T1.out).mono ?_
    rintro e w' ⟨rfl, rfl⟩
    go_wp2_with fail
    refine (C4.out _ T1.out).mono ?_
    rintro e w' ⟨rfl, rfl⟩
    go_wp2_with fail
    go_ret
    exact ⟨rfl, B1.out⟩
  · obtain ⟨u1, u2⟩ := hj rfl
    clear hp hj
    go_enter Tryd.func6, Tryd.ntmps6
    go_wp2_with fail
    refine (C0.out).mono ?_
    rintro e w1 ⟨rfl, hb1⟩
    have B1 := Lib.hid hb1
    have T1 := Lib.hid (HT.out.below hb1)
    have R1 := Lib.hid (HR.out.step hb1)
    clear hb1
    go_wp2_with fail
    refine (C1.out _ R1.out T1.out).mono ?_
    rintro e w' ⟨rfl, rfl⟩
    go_wp2_with fail
    refine (C2.out _ R1.out T1.out).mono ?_
    rintro e w' ⟨rfl, rfl⟩
    go_wp2_with fail
    refine (C3.out _ R1.out T1.out).mono ?_
    rintro e w' ⟨rfl, rfl⟩
    go_wp2_with fail
    refine (C4.out _ T1.out).mono ?_
    rintro e w' ⟨rfl, rfl⟩
    go_wp2_with fail
    go_ret
    exact ⟨rfl, B1.out⟩

theorem walk (A : Option Addr) (c : Nat) (xs : List Nat) (i : Int) (hx : ∀ x ∈ xs, x < 256) (hl : xs.length ≤ c) (hm : c ≤ maxLen) (hi : -9223372036854775808 ≤ i) (hj : i ≤ 9223372036854775807) (w : World) (hr : RdN .u8 w w.heap.size A xs) (hT : Tab w) :
    Calls Tryd.prog 6 #[.slice A xs.length c, .int .i64 i] w fun e w' => e = .returned (.bool true) ∧ Below w.heap.size w w' := by
  by_cases hs : Wig.vshort xs = true
  · exact short A c xs i hx hl hm hs w hr hT
  · have hs' : Wig.vshort xs = false := by simpa using hs
    have hne : xs ≠ [] := by
      intro e
      subst e
      exact hs rfl
    obtain ⟨b, off, rfl, _, _⟩ := hr hne
    by_cases hneg : i < 0
    · exact whole b off c (-(i + 1)).toNat true xs i (i + 1) hx hl hm hs' (decide_eq_true hneg) (fun _ => ⟨by unfold wrap64; omega, by unfold wrap64; omega⟩) (fun h => by cases h) w hr hT
    · exact whole b off c i.toNat false xs i 0 hx hl hm hs' (decide_eq_false hneg) (fun h => by cases h) (fun _ => by omega) w hr hT

set_option maxRecDepth 100000 in
theorem lifted (os : Os) (started : os.Started) (H : Type) (enc : TypeId × Value → H) :
    ReturnsInHanded {} Tryd.checked os 6 .any (fun w args => (Rows.varintShortSpec.pre enc Tryd.prog Tryd.f6 [] false w args ∧ laidMetH Tryd.prog laidList w) ∧ sizedMet enc Tryd.prog Tryd.f6 (OpenSpec.ofChange Rows.varintShortSpec) false w args)
      (Rows.varintShortSpec.post enc Tryd.prog Tryd.f6 false true false false) := by
  refine returnsInHanded_of_change_and (C := Tryd.checked) (X := fun w _ => laidMetH Tryd.prog laidList w) (fun _ _ _ hh h => h.of_heap hh) own started (by kernel_rfl) Tryd.func6
    (ChangeSpec.witness_shaped (enc := enc) (C := Tryd.checked) (os := os) (X := fun w _ => laidMetH Tryd.prog laidList w) false (World.doorLaid Tryd.prog 400 os) #[.slice none 0 0, .int .i64 0] 8 rfl (World.shaped_of_RefB (by kernel_rfl) (by kernel_rfl)) (by kernel_rfl) (by kernel_rfl) (by kernel_rfl) (door_met os _)) ?_
  intro W base args ds gs before hval0 hW _ _ hL _
  have hval : ∀ (j : Nat) t v, Tryd.f6.params[j]? = some t → args[j]? = some v → Value.okWide Tryd.prog W .any base t v := hval0
  have hW' := hW
  obtain ⟨p, q, hA0, hV, rfl, hfz, hnd⟩ := hW
  have hA : DataW.TrodAll enc Tryd.prog W 0 (fun _ => true) true Tryd.f6.params.toList args.toList ds p := hA0
  obtain ⟨rfl, rfl⟩ := trodVars_none hV
  simp only [List.append_nil] at hW'
  have hlow : ∀ x ∈ p, x.block < W.heap.size := fun x hx => hW'.lt x hx
  have hA2 := hA
  rw [Tryd.params6] at hval hA2
  obtain ⟨v0, vs0, d0, ds0, p0, q0, hargs, rfl, rfl, h0, r0⟩ := trodAll_cons hA2
  obtain ⟨v1, vs1, d1, ds1, p1, q1, rfl, rfl, rfl, h1, r1⟩ := trodAll_cons r0
  obtain ⟨rfl, rfl, rfl⟩ := trodAll_nil r1
  obtain rfl : args = #[v0, v1] := by cases args; simp_all
  obtain ⟨A0, c0, xs0, rfl, hx0, hr0, hl0, hm0⟩ := open_row 256 Tryd.underlying24 Tryd.underlying5 (by kernel_rfl) (by intro x h; simp [Lit.wf, IntKind.min, IntKind.max, IntKind.signed, IntKind.bits] at h; omega) (hval 0 24 v0 rfl rfl) h0 (fun x hx => hlow x (by simp [hx]))
  obtain ⟨i1, rfl, hi1, hj1⟩ := open_i64 Tryd.underlying3 (hval 1 3 v1 rfl rfl) h1
  refine (walk A0 c0 xs0 i1 hx0 hl0 hm0 hi1 hj1 W hr0 (tab_of_laid hL)).mono fun e W' ⟨he, hg⟩ => ?_
  subst he
  exact ⟨_, rfl, law_true laid_out (by kernel_rfl) rfl Tryd.underlying4 (by kernel_rfl) hW' hA rfl rfl rfl hg⟩

theorem over : Rows.varintShortRow.holds Tryd.pinned (OpenSpec.ofChange Rows.varintShortSpec) :=
  OpenClaim.holds_of_wide 6 Tryd.f6 rfl rfl rfl rfl rfl rfl rfl ⟨rfl, rfl, rfl, rfl, rfl⟩ rfl rfl rfl rfl rfl (by kernel_rfl) Tryd.func6 (by kernel_rfl)
    (of_decide_eq_true (by kernel_rfl)) (by unfold Func.isWrapper; first | (rw [if_pos (by decide +kernel)]; kernel_rfl) | (rw [if_neg (by decide +kernel)]; exact ⟨rfl, rfl⟩))
    (fun os started H enc _ => lifted os started H enc)

/-- The statement: the card of it, its table tied to the program. -/
theorem proved : Rows.VarintShortCardSaid :=
  Claim7.holds_tied_plain_at .later [] [.data] true (true, "c6a13142a35a782391a3892c23b8891977bad80e44468b0d5c8d40cffa60ecdf") false
    over (fun _ h => by cases h) (by kernel_rfl) (fun _ h => by cases h) varintShort_row_tie rfl ⟨rfl, rfl⟩ (by kernel_rfl) rfl
    (fun f fn hf hfn => by
      obtain rfl : f = 6 := Option.some.inj ((show Tryd.prog.funcNamed "wigwag/wigwaglaw03.VarintShort" = some 6 by kernel_rfl).symm.trans hf) |>.symm
      obtain rfl : fn = Tryd.f6 := (Option.some.inj (Tryd.func6.symm.trans hfn)).symm
      exact ⟨by kernel_rfl, fun j t ht => by
        rw [Tryd.params6] at ht
        have hm : t ∈ [24, 3] := by simpa using Array.mem_of_getElem? ht
        have hall : ([24, 3].all fun u => !Tryd.prog.wantsStandIn u) = true := by kernel_rfl
        exact (show Tryd.prog.wantsStandIn t = false by simpa using List.all_eq_true.1 hall t hm)⟩)
    (by kernel_rfl)
end Go.Proofs.YtphjdlinldmgnaaDoor.varintShort
