/-
  What the document's Both of spans returns: the same list. Conditions: the lists read as sets' own spans, at most a hundred each.
-/
import Derived.Test.YtfibbohccaknjaaSpJ
namespace Go.Proofs.Ytfibbohccaknjaa
open Go.ChangeShapes Go.WideShapes Go.ChangeAt Go.RowKit Go.Deep
set_option linter.unusedVariables false

def RoRel (a b : List Wig.Spn) (w : World) (vo vi : Value) (wr : World) : Prop :=
  ∃ i : Nat, i ≤ a.length ∧ OwnS wr w.heap.size vo (Wig.sboth (a.take i) b) ∧ vi = .int .i64 (i : Int) ∧ Below w.heap.size w wr
def RnRel (a b : List Wig.Spn) (i : Nat) (p : Wig.Spn) (w : World) (vo vk : Value) (wr : World) : Prop :=
  ∃ k : Nat, k ≤ b.length ∧ OwnS wr w.heap.size vo (Wig.sboth (a.take i) b ++ (b.take k).flatMap fun q => Wig.slay (Wig.smeet p q)) ∧ vk = .int .i64 (k : Int) ∧ Below w.heap.size w wr
set_option maxHeartbeats 8000000 in
theorem rboth_any (a b : List Wig.Spn) (A B : Option Addr) (n m c d : Nat) (w : World) (hn : n = a.length) (hm : m = b.length) (hn1 : n ≤ 100) (hm1 : m ≤ 100) (hr : RdS w w.heap.size A a) (hq : RdS w w.heap.size B b) (ha : Wig.SOwn a) (hb : Wig.SOwn b) :
    Calls Try.prog 22 #[.slice A n c, .slice B m d] w fun e w' => ∃ v, e = .returned v ∧ OwnS w' w.heap.size v (Wig.sboth a b) ∧ Below w.heap.size w w' := by
  have HR := Lib.hid hr
  have HQ := Lib.hid hq
  have HN := Lib.hid hn
  have HM := Lib.hid hm
  have HA := Lib.hid ha
  have HB := Lib.hid hb
  clear hr hq hn hm ha hb
  go_enter Try.func22, Try.ntmps22
  go_wp2_with fail
  go_loopw [5, 6] (fun vo vi wr => RoRel a b w vo vi wr) (fun _ i _ => n - (intOf i).toNat)
  case atStart => exact ⟨0, Nat.zero_le _, World.ownsRow_nil _ _ _ _, rfl, Below.refl _ _⟩
  case round =>
    obtain ⟨i, hi, hown, rfl, hbel⟩ := hrel
    rw [← HN.out] at hi
    have KB := Lib.hid hbel
    obtain ⟨wo, hwo⟩ : ∃ wo : World, wo = wr := ⟨_, rfl⟩
    by_cases hlt : i < n
    · obtain ⟨⟨p0, p1⟩, hp⟩ : ∃ p, a[i]? = some p := ⟨_, List.getElem?_eq_getElem (by have := HN.out; omega)⟩
      have HP := Lib.hid hp
      have ST := Lib.hid (show RnRel a b i (p0, p1) w u5 (.int .i64 0) wr from ⟨0, Nat.zero_le _, by simpa using hown, rfl, hbel⟩)
      have j0 : (0 : Int) ≤ (i : Int) := by omega
      have j1 : (i : Int) < (n : Int) := by omega
      clear hp hown hbel KB
      subst hwo
      go_wp2_with fail
      go_loopw [5, 7] (fun vo vk wr => RnRel a b i (p0, p1) w vo vk wr) (fun _ k _ => m - (intOf k).toNat)
      case atStart => exact ST.out
      case round =>
        obtain ⟨k, hk, hown, rfl, hbel⟩ := hrel
        rw [← HM.out] at hk
        have KB := Lib.hid hbel
        have KO := Lib.hid hown
        by_cases hlt2 : k < m
        · obtain ⟨⟨q0, q1⟩, hq⟩ : ∃ q, b[k]? = some q := ⟨_, List.getElem?_eq_getElem (by have := HM.out; omega)⟩
          obtain ⟨b1, o1, rfl, lb1, c0, c1⟩ := (HR.out.below hbel).at_ HP.out
          obtain ⟨b2, o2, rfl, lb2, d0, d1⟩ := (HQ.out.below hbel).at_ hq
          simp only [] at c0 c1 d0 d1
          have i0 : (0 : Int) ≤ (k : Int) := by omega
          have i1 : (k : Int) < (m : Int) := by omega
          have hsz := hbel.size
          have FV := Lib.hid (fun wx (h : Below wr.heap.size wr wx) => five_sp (w' := wx) (by omega) (by omega) c0 c1 d0 d1 h)
          obtain ⟨x0, hx0⟩ : ∃ x0, x0 = max p0 q0 := ⟨_, rfl⟩
          obtain ⟨x1, hx1⟩ : ∃ x1, x1 = min p1 q1 := ⟨_, rfl⟩
          have CM := Lib.hid (fun wx => meet_any p0 p1 q0 q1 x0 x1 wx hx0.symm hx1.symm)
          obtain ⟨o, hoe⟩ : ∃ o, o = Wig.sboth (a.take i) b ++ (b.take k).flatMap fun q => Wig.slay (Wig.smeet (p0, p1) q) := ⟨_, rfl⟩
          have NX := Lib.hid (show Wig.rjoin o (x0, x1) = Wig.sboth (a.take i) b ++ (b.take (k + 1)).flatMap fun q => Wig.slay (Wig.smeet (p0, p1) q) by
            have h := Wig.rboth_step HA.out HB.out HP.out hq
            rw [← hoe] at h
            rw [← h, hx0, hx1]
            rfl)
          have OL := Lib.hid (show o.length ≤ 20000 by
            have h := Wig.rboth_len a b (p0, p1) i k
            rw [← hoe, ← HN.out, ← HM.out] at h
            have : m * n ≤ 100 * 100 := Nat.mul_le_mul hm1 hn1
            omega)
          rw [← hoe] at hown
          have CJ := Lib.hid (fun wx (h : Below wr.heap.size wr wx) => joined_any u5 o x0 x1 w.heap.size wx (by have := OL.out; omega) (hown.below h (Nat.le_refl _)) (Nat.le_trans hsz h.size))
          clear hq hbel hown hx0 hx1 hoe KO lb1 lb2 hsz
          go_wp2_with fail
          refine wp_region_held_drew (S := (fun w' => w'.cell? ⟨b1, o1 + i * 2, none⟩ = some (.int .u64 (p0 : Int)) ∧ w'.cell? ⟨b1, o1 + i * 2 + 1, none⟩ = some (.int .u64 (p1 : Int)) ∧ w'.cell? ⟨b2, o2 + k * 2, none⟩ = some (.int .u64 (q0 : Int)) ∧ w'.cell? ⟨b2, o2 + k * 2 + 1, none⟩ = some (.int .u64 (q1 : Int)) ∧ Below wr.heap.size wr w')) (by kernel_rfl) ?_ (fun hHeld => ?_)
          · exact FV.out _ (Below.refl _ _).drew
          refine held_take (v := ?vv1301) 0 rfl (by kernel_rfl) (by kernel_rfl) (by kernel_rfl) (fun _ _ _ h => h) (by rfl) ?yy1301 (by assumption) ?nn1301
          case yy1301 =>
            intro w hSw
            (try dsimp only at hSw)
            go_simp
            try with_reducible rfl
          try simp only [Act.put, List.setIfInBounds_toArray, List.set_cons_zero, List.set_cons_succ]
          refine held_take (v := ?vv1302) 1 rfl (by kernel_rfl) (by kernel_rfl) (by kernel_rfl) (fun _ _ _ h => h) (by rfl) ?yy1302 (by assumption) ?nn1302
          case yy1302 =>
            intro w hSw
            (try dsimp only at hSw)
            go_simp
            try with_reducible rfl
          try simp only [Act.put, List.setIfInBounds_toArray, List.set_cons_zero, List.set_cons_succ]
          refine held_take (v := ?vv1303) 2 rfl (by kernel_rfl) (by kernel_rfl) (by kernel_rfl) (fun _ _ _ h => h) (by rfl) ?yy1303 (by assumption) ?nn1303
          case yy1303 =>
            intro w hSw
            (try dsimp only at hSw)
            go_simp
            try with_reducible rfl
          try simp only [Act.put, List.setIfInBounds_toArray, List.set_cons_zero, List.set_cons_succ]
          refine held_take (v := ?vv1304) 3 rfl (by kernel_rfl) (by kernel_rfl) (by kernel_rfl) (fun _ _ _ h => h) (by rfl) ?yy1304 (by assumption) ?nn1304
          case yy1304 =>
            intro w hSw
            (try dsimp only at hSw)
            go_simp
            try with_reducible rfl
          try simp only [Act.put, List.setIfInBounds_toArray, List.set_cons_zero, List.set_cons_succ]
          refine held_take (v := ?vv1305) 4 rfl (by kernel_rfl) (by kernel_rfl) (by kernel_rfl) (fun _ _ _ h => h) (by rfl) ?yy1305 (by assumption) ?nn1305
          case yy1305 =>
            intro w hSw
            (try dsimp only at hSw)
            go_simp
            try with_reducible rfl
          try simp only [Act.put, List.setIfInBounds_toArray, List.set_cons_zero, List.set_cons_succ]
          refine held_take (v := ?vv1306) 5 rfl (by kernel_rfl) (by kernel_rfl) (by kernel_rfl) (fun _ _ _ h => h) (by rfl) ?yy1306 (by assumption) ?nn1306
          case yy1306 =>
            intro w hSw
            (try dsimp only at hSw)
            go_simp
            try with_reducible rfl
          try simp only [Act.put, List.setIfInBounds_toArray, List.set_cons_zero, List.set_cons_succ]
          refine held_take (v := ?vv1307) 6 rfl (by kernel_rfl) (by kernel_rfl) (by kernel_rfl) (fun _ _ _ h => h) (by rfl) ?yy1307 (by assumption) ?nn1307
          case yy1307 =>
            intro w hSw
            (try dsimp only at hSw)
            go_simp
            try with_reducible rfl
          try simp only [Act.put, List.setIfInBounds_toArray, List.set_cons_zero, List.set_cons_succ]
          refine held_take (v := ?vv1308) 7 rfl (by kernel_rfl) (by kernel_rfl) (by kernel_rfl) (fun _ _ _ h => h) (by rfl) ?yy1308 (by assumption) ?nn1308
          case yy1308 =>
            intro w hSw
            (try dsimp only at hSw)
            go_simp
            try with_reducible rfl
          try simp only [Act.put, List.setIfInBounds_toArray, List.set_cons_zero, List.set_cons_succ]
          refine held_take (v := ?vv1309) 8 rfl (by kernel_rfl) (by kernel_rfl) (by kernel_rfl) (fun _ _ _ h => h) (by rfl) ?yy1309 (by assumption) ?nn1309
          case yy1309 =>
            intro w hSw
            (try dsimp only at hSw)
            go_simp
            try with_reducible rfl
          try simp only [Act.put, List.setIfInBounds_toArray, List.set_cons_zero, List.set_cons_succ]
          refine held_do 9 rfl (by kernel_rfl) (by rfl) (fun K hK => ?_)
          go_wp2_with (go_at_call 35; refine (CM.out _).mono ?_; rintro e w5 ⟨rfl, hb5⟩; have R5 := Lib.hid ((hHeld.2.2.2.2).trans (hb5.mono (hHeld.2.2.2.2).size)); clear hb5)
          refine hK.out _ _ ?_ (fun hHeld => ?_)
          · exact FV.out _ R5.out
          clear hK K
          try simp only [Act.put, List.setIfInBounds_toArray, List.set_cons_zero, List.set_cons_succ]
          refine held_do 10 rfl (by kernel_rfl) (by rfl) (fun K hK => ?_)
          go_wp2_with (go_at_call 33; refine (CJ.out _ R5.out).mono ?_; rintro e w6 ⟨v6, rfl, hown6, hb6⟩; have R6 := Lib.hid (And.intro hown6 (R5.out.trans (hb6.mono R5.out.size))); clear hown6 hb6)
          refine hK.out _ _ ?_ (fun hHeld => ?_)
          · exact FV.out _ R6.out.2
          clear hK K
          try simp only [Act.put, List.setIfInBounds_toArray, List.set_cons_zero, List.set_cons_succ]
          refine held_take (v := ?vv1312) 11 rfl (by kernel_rfl) (by kernel_rfl) (by kernel_rfl) (fun _ _ _ h => h) (by rfl) ?yy1312 (by assumption) ?nn1312
          case yy1312 =>
            intro w hSw
            (try dsimp only at hSw)
            go_simp
            try with_reducible rfl
          try simp only [Act.put, List.setIfInBounds_toArray, List.set_cons_zero, List.set_cons_succ]
          refine wpAnyH_done (by kernel_rfl) ?_ _
          have R1 := Lib.hid (show OwnS w6 w.heap.size v6 (Wig.sboth (a.take i) b ++ (b.take (k + 1)).flatMap fun q => Wig.slay (Wig.smeet (p0, p1) q)) by rw [← NX.out]; exact R6.out.1)
          have R2 := Lib.hid (KB.out.trans (R6.out.2.mono KB.out.size))
          clear R6 R5 c0 c1 d0 d1
          go_wp2_with fail
          go_roundw
          case rel => exact ⟨k + 1, by have := HM.out; omega, R1.out, rfl, R2.out⟩
          case measure => simp [intOf]; omega
        · have hkm : k = m := by omega
          have R1 := Lib.hid (show OwnS wr w.heap.size u5 (Wig.sboth (a.take (i + 1)) b) by
            rw [hkm, HM.out, List.take_length, Wig.rboth_next HP.out] at hown
            exact hown)
          clear hbel hown KO hk
          subst hkm
          go_wp2_with fail
          go_roundw
          case rel => exact ⟨i + 1, by have := HN.out; omega, R1.out, rfl, KB.out⟩
          case measure => simp [intOf]; omega
    · have hin : i = n := by omega
      have R1 := Lib.hid (show OwnS wr w.heap.size u5 (Wig.sboth a b) by rw [hin, HN.out, List.take_length] at hown; exact hown)
      clear hbel hown hwo hi
      subst hin
      go_wp2_with fail
      go_ret
      exact ⟨_, rfl, R1.out, KB.out⟩
end Go.Proofs.Ytfibbohccaknjaa
