/-
  VarintMany: numbers that are put one behind the other are got one behind the other. Condition: the table of sizes holds what the program's text lays (the card ties it).
-/
import Derived.Test.YtphjdlinldmgnaaDoorVarW
import Derived.Test.YtphjdlinldmgnaaDoorApp
import Derived.Test.YtphjdlinldmgnaaDoorLaid
import Derived.Deep.CutBlock
namespace Wig
/-- The bytes of numbers one behind the other, each modulo 2^62. -/
def encs (xs : List Nat) : List Nat := xs.flatMap fun x => venc (x % 4611686018427387904)
theorem encs_take {xs : List Nat} {k x : Nat} (h : xs[k]? = some x) : encs (xs.take (k + 1)) = encs (xs.take k) ++ venc (x % 4611686018427387904) := by
  rw [List.take_add_one, h]
  simp [encs]
theorem encs_drop {xs : List Nat} {k x : Nat} (h : xs[k]? = some x) : encs (xs.drop k) = venc (x % 4611686018427387904) ++ encs (xs.drop (k + 1)) := by
  obtain ⟨hk, e⟩ := List.getElem?_eq_some_iff.1 h
  rw [List.drop_eq_getElem_cons hk, e]
  simp [encs]
theorem encs_bytes (xs : List Nat) : Bytes (encs xs) := by
  intro x hx
  obtain ⟨y, _, h⟩ := List.mem_flatMap.1 hx
  exact venc_bytes _ x h
theorem encs_le : ∀ xs : List Nat, (encs xs).length ≤ 8 * xs.length
  | [] => by simp [encs]
  | x :: xs => by
    have h := encs_le xs
    have e : (encs (x :: xs)).length = (venc (x % 4611686018427387904)).length + (encs xs).length := by simp [encs]
    have h1 := venc_length (x % 4611686018427387904)
    obtain ⟨n, h2, _, _, _, h3⟩ := vfits (v := x % 4611686018427387904) (Nat.mod_lt _ (by decide))
    rw [e, List.length_cons]
    omega
end Wig
namespace Go.Proofs.YtphjdlinldmgnaaDoor.varintMany
open Go.ChangeShapes Go.WideShapes Go.ChangeAt Go.RowKit Go.Deep
set_option linter.unusedVariables false

/-- At the first loop's head: the bytes of k numbers stand in memory of the call's own. -/
def PutsRel (ms : List Nat) (w : World) (b i : Value) (wr : World) : Prop :=
  ∃ k : Nat, k ≤ ms.length ∧ i = .int .i64 (k : Int) ∧ OwnN .u8 5 wr w.heap.size b (Wig.encs (ms.take k)) ∧ Below w.heap.size w wr
/-- At the second loop's head: k numbers have been got, the others' bytes are left. -/
def GetsRel (ms : List Nat) (w : World) (b i : Value) : Prop :=
  ∃ k : Nat, k ≤ ms.length ∧ i = .int .i64 (k : Int) ∧ ∃ A n c, b = .slice A n c ∧ n = (Wig.encs (ms.drop k)).length ∧ n ≤ c ∧ c ≤ maxLen ∧ RdN .u8 w w.heap.size A (Wig.encs (ms.drop k))
theorem puts_step {ms : List Nat} {k x : Nat} {w wr : World} {b : Value} (hx : ms[k]? = some x) (h : OwnN .u8 5 wr w.heap.size b (Wig.encs (ms.take k) ++ Wig.venc (x % 4611686018427387904))) (hb : Below w.heap.size w wr) :
    PutsRel ms w b (.int .i64 ((k : Int) + 1)) wr := by
  have hk := (List.getElem?_eq_some_iff.1 hx).1
  exact ⟨k + 1, hk, rfl, by rw [Wig.encs_take hx]; exact h, hb⟩
theorem gets_step {ms : List Nat} {k x b off n c s : Nat} {w : World} (hx : ms[k]? = some x) (hs : (Wig.venc (x % 4611686018427387904)).length = s) (hn : n = (Wig.encs (ms.drop k)).length) (hc : n ≤ c) (hm : c ≤ maxLen)
    (hr : RdN .u8 w w.heap.size (some ⟨b, off, none⟩) (Wig.encs (ms.drop k))) : GetsRel ms w (.slice (some ⟨b, off + s, none⟩) (n - s) (c - s)) (.int .i64 ((k : Int) + 1)) := by
  have hk := (List.getElem?_eq_some_iff.1 hx).1
  have e := Wig.encs_drop hx
  rw [e] at hn hr
  rw [List.length_append, hs] at hn
  refine ⟨k + 1, hk, rfl, _, _, _, rfl, by omega, by omega, by omega, fun hne => ?_⟩
  obtain ⟨b', off', e1, hb, hcell⟩ := hr (by intro h; simp at h; exact hne h.2)
  injection e1 with e1
  injection e1 with e1 e2
  subst e1 e2
  refine ⟨b, off + s, rfl, hb, fun j y hj => ?_⟩
  rw [Nat.add_assoc]
  exact hcell (s + j) y (by rw [List.getElem?_append_right (by omega), hs, Nat.add_sub_cancel_left]; exact hj)
theorem gets_last {ms : List Nat} {k x n c s : Nat} {A : Option Addr} {w : World} (hx : ms[k]? = some x) (hs : (Wig.venc (x % 4611686018427387904)).length = s) (hn : n = (Wig.encs (ms.drop k)).length) (hc : n ≤ c) (hm : c ≤ maxLen)
    (h : c = s) : GetsRel ms w (.slice A (n - s) 0) (.int .i64 ((k : Int) + 1)) := by
  have hk := (List.getElem?_eq_some_iff.1 hx).1
  have e := Wig.encs_drop hx
  rw [e, List.length_append, hs] at hn
  have e0 : Wig.encs (ms.drop (k + 1)) = [] := List.eq_nil_of_length_eq_zero (by omega)
  exact ⟨k + 1, hk, rfl, _, _, _, rfl, by rw [e0]; simp; omega, by omega, by omega, by rw [e0]; exact RdN.empty⟩

theorem own_all {ms : List Nat} {k base : Nat} {w : World} {t : TypeId} {v : Value} (h : OwnN .u8 t w base v (Wig.encs (ms.take k))) (hk : k = ms.length) : OwnN .u8 t w base v (Wig.encs ms) := by
  rwa [List.take_of_length_le (by omega)] at h

set_option maxHeartbeats 4000000 in
theorem walk (A : Option Addr) (c : Nat) (xs : List Nat) (hx : ∀ x ∈ xs, x < 18446744073709551616) (hl : xs.length ≤ c) (hm : c ≤ maxLen) (w : World) (hr : RdN .u64 w w.heap.size A xs) (hT : Tab w) :
    Calls Tryd.prog 8 #[.slice A xs.length c] w fun e w' => e = .returned (.bool true) ∧ Below w.heap.size w w' := by
  obtain ⟨n, hn⟩ : ∃ n, n = xs.length := ⟨_, rfl⟩
  rw [← hn] at hl ⊢
  obtain ⟨ms, hms⟩ : ∃ ms, ms = xs.take 50 := ⟨_, rfl⟩
  obtain ⟨N, hN⟩ : ∃ N, N = ms.length := ⟨_, rfl⟩
  have hNn : N = min 50 n := by rw [hN, hms, List.length_take, ← hn]
  have hat : ∀ k, k < N → ∃ x, ms[k]? = some x ∧ xs[k]? = some x := fun k hk => by
    obtain ⟨x, h1⟩ : ∃ x, ms[k]? = some x := ⟨_, List.getElem?_eq_getElem (by omega)⟩
    refine ⟨x, h1, ?_⟩
    rwa [hms, List.getElem?_take_of_lt (by omega)] at h1
  have C0 := Lib.hid (awake_any w hT)
  have HAT := Lib.hid hat
  have HN := Lib.hid hNn
  have HM := Lib.hid hN
  have HT := Lib.hid hT
  have HR := Lib.hid hr
  clear hat hNn hN hT hr hn hl hms hx
  go_enter Tryd.func8, Tryd.ntmps8
  go_wp2_with fail
  refine (C0.out).mono ?_
  rintro e w1 ⟨rfl, hb1⟩
  have B1 := Lib.hid hb1
  have T1 := Lib.hid (HT.out.below hb1)
  have R1 := Lib.hid (HR.out.step hb1)
  clear hb1
  go_wp2_with fail
  go_loopw [4, 5] (fun b i wr => PutsRel ms w1 b i wr) (fun _ i _ => N - (intOf i).toNat)
  case atStart => exact ⟨0, Nat.zero_le _, rfl, ⟨rfl, .inl ⟨rfl, rfl⟩⟩, Below.refl _ _⟩
  case round =>
    obtain ⟨k, hk, rfl, hown, hbel⟩ := hrel
    have KO := Lib.hid hown
    have KB := Lib.hid hbel
    have KK := Lib.hid (show k ≤ N by rw [HM.out]; exact hk)
    clear hown hbel hk
    by_cases hlt : k < N
    · obtain ⟨x, hx1, hx2⟩ := HAT.out k hlt
      obtain ⟨b, off, rfl, hb, hcell⟩ := (R1.out.below KB.out).at_ hx2
      obtain ⟨z, hz⟩ : ∃ z, z = x % 4611686018427387904 := ⟨_, rfl⟩
      have zlt : z < 4611686018427387904 := by rw [hz]; exact Nat.mod_lt _ (by decide)
      have hzi : (x : Int) % 4611686018427387904 = (z : Int) := by omega
      obtain ⟨ys, hys⟩ : ∃ ys, ys = Wig.venc z := ⟨_, rfl⟩
      have C1 := Lib.hid (put_gives z ys 0 wr hys.symm (Wig.verr_fits zlt) (by omega) (T1.out.below KB.out))
      have i0 : (0 : Int) ≤ (k : Int) := by omega
      have i1 : (k : Int) < (n : Int) := by have := HN.out; omega
      have i2 : decide (k < n) = true := decide_eq_true (by omega)
      have i3 : decide ((k : Int) < 50) = true := decide_eq_true (by have := HN.out; omega)
      have k50 : k < 50 := by have := HN.out; omega
      have YL := Lib.hid (show ys.length ≤ 8 by rw [hys, Wig.venc_length]; obtain ⟨m, e, _, _, _, h⟩ := Wig.vfits zlt; omega)
      have EL := Lib.hid (show (Wig.encs (ms.take k)).length ≤ 400 by have := Wig.encs_le (ms.take k); rw [List.length_take] at this; omega)
      have S := Lib.hid (fun b wr h1 h2 => puts_step (w := w1) (wr := wr) (b := b) hx1 (by rw [← hz, ← hys]; exact h1) h2)
      have HLT := Lib.hid hlt
      clear hz zlt hys hx1 hx2 hb hlt
      go_wp2_with fail
      refine (C1.out).mono ?_
      rintro e w2 ⟨A2, n2, c2, rfl, hn2, -, -, hr2, h02, hb2⟩
      have X2 := Lib.hid hr2
      have N2 := Lib.hid hn2
      have B2 := Lib.hid (KB.out.trans (hb2.mono KB.out.size))
      have O2 := Lib.hid (KO.out.below hb2 (Nat.le_refl _))
      clear hr2 hn2 hb2 h02
      go_upto_region 9 with fail
      go_step
      go_step
      go_step
      go_step
      go_step
      go_step
      go_step
      refine wpList_append_bytes (by rfl) (.tmp 34) (.tmp 35) (by rfl) w1.heap.size _ _ ys (by rfl) O2.out w2.heap.size A2 c2 n2 N2.out.symm (by rfl) X2.out (by rw [N2.out]; have := YL.out; have := EL.out; omega) B2.out.size ?_
      intro v3 w3 hown3 hg3
      have R := Lib.hid (S.out v3 w3 hown3 (B2.out.grown hg3 B2.out.size (fun q hq => (O2.out.block q hq).1)))
      clear hown3 hg3
      go_wp2_with fail
      go_roundw
      case rel => exact R.out
      case measure => have := HLT.out; simp [intOf]; omega
    · obtain rfl : k = N := by have := KK.out; omega
      have own := own_all KO.out HM.out
      obtain ⟨A4, c4, e4, l4, m4, r4, -⟩ := own.rd
      obtain ⟨n4, hn4⟩ : ∃ n4, n4 = (Wig.encs ms).length := ⟨_, rfl⟩
      rw [← hn4] at e4 l4
      subst e4
      have T4 := Lib.hid (T1.out.below KB.out)
      have R4 := Lib.hid (R1.out.step KB.out)
      have B4 := Lib.hid (below_trans' B1.out KB.out)
      have Z := Lib.hid (show GetsRel ms wr (.slice A4 n4 c4) (.int .i64 0) from ⟨0, Nat.zero_le _, rfl, A4, n4, c4, rfl, hn4, l4, m4, r4⟩)
      clear own l4 m4 r4 hn4 hlt KO
      by_cases hk50 : k < n
      · have i2 : decide (k < n) = true := decide_eq_true hk50
        have i3 : decide ((k : Int) < 50) = false := decide_eq_false (by have := HN.out; omega)
        clear hk50
        go_wp2_with fail
        go_loop [4, 8] (fun b i => GetsRel ms wr b i) (fun _ i => k - (intOf i).toNat)
        case atStart => exact Z.out
        case round =>
          obtain ⟨k2, hk2, rfl, A5, n5, c5, rfl, hn5, l5, m5, r5⟩ := hrel
          by_cases hlt : k2 < k
          · obtain ⟨x, hx1, hx2⟩ := HAT.out k2 hlt
            obtain ⟨b, off, rfl, hb, hcell⟩ := R4.out.at_ hx2
            obtain ⟨z, hz⟩ : ∃ z, z = x % 4611686018427387904 := ⟨_, rfl⟩
            have zlt : z < 4611686018427387904 := by rw [hz]; exact Nat.mod_lt _ (by decide)
            have hzi : (x : Int) % 4611686018427387904 = (z : Int) := by omega
            obtain ⟨s, hs⟩ : ∃ s, s = Wig.vsize z := ⟨_, rfl⟩
            have e := Wig.encs_drop hx1
            rw [← hz] at e
            have vl : (Wig.venc (x % 4611686018427387904)).length = s := by rw [← hz, Wig.venc_length, hs]
            have s1 : 0 < s := by rw [hs]; obtain ⟨m, h, _⟩ := Wig.vfits zlt; omega
            have sn : s ≤ n5 := by rw [hn5, e, List.length_append, Wig.venc_length, ← hs]; omega
            obtain ⟨q1, q2, q3, q4⟩ := Wig.vback zlt (Wig.encs (ms.drop (k2 + 1)))
            rw [← e] at q1 q2 q3
            rw [← hs] at q3
            have C1 : Calls Tryd.prog 12 #[.slice A5 n5 c5] wr fun e w' => e = .returned (.tuple #[.int .u64 (z : Int), .int .i64 (s : Int), .int .i64 0]) ∧ wr = w' :=
              get_gives _ z s 0 A5 n5 c5 wr q2 q3 (by unfold Wig.vgot; rw [q1]; rfl) (Wig.encs_bytes _) hn5 l5 m5 r5 T4.out
            have C1 := Lib.hid C1
            obtain ⟨b5, off5, rfl, _, _⟩ := r5 (by intro h; rw [h] at hn5; simp at hn5; omega)
            have i0 : (0 : Int) ≤ (k2 : Int) := by omega
            have i1 : (k2 : Int) < (n : Int) := by have := HN.out; omega
            have j2 : decide (k2 < n) = true := decide_eq_true (by omega)
            have j3 : decide ((k2 : Int) < 50) = true := decide_eq_true (by have := HN.out; omega)
            have k50 : k2 < 50 := by have := HN.out; omega
            have t1 : decide ((s : Int) < 1) = false := decide_eq_false (by omega)
            have t2 : decide (n5 < s) = false := decide_eq_false (by omega)
            have HLT := Lib.hid hlt
            by_cases hcs : c5 = s
            · have R := Lib.hid (gets_last (A := some ⟨b5, off5, none⟩) (w := wr) hx1 vl hn5 l5 m5 hcs)
              clear hx1 hx2 hb hz zlt hs e vl s1 q1 q2 q3 q4 hn5 l5 m5 r5 hk2 hlt
              subst hcs
              go_wp2_with fail
              refine (C1.out).mono ?_
              rintro e w' ⟨rfl, rfl⟩
              go_wp2_with fail
              go_round
              case rel => exact R.out
              case measure => have := HLT.out; simp [intOf]; omega
            · have R := Lib.hid (gets_step (w := wr) hx1 vl hn5 l5 m5 r5)
              clear hx1 hx2 hb hz zlt hs e vl s1 q1 q2 q3 q4 hn5 l5 m5 r5 hk2 hlt
              go_wp2_with fail
              refine (C1.out).mono ?_
              rintro e w' ⟨rfl, rfl⟩
              go_wp2_with fail
              go_round
              case rel => exact R.out
              case measure => have := HLT.out; simp [intOf]; omega
          · obtain rfl : k2 = k := by have := HM.out; omega
            obtain rfl : n5 = 0 := by rw [hn5, List.drop_of_length_le (by rw [← HM.out]; exact Nat.le_refl _)]; rfl
            clear hn5 l5 m5 r5 hk2 hlt
            go_wp2_with fail
            go_ret
            exact ⟨rfl, B4.out⟩
      · have i2 : decide (k < n) = false := decide_eq_false hk50
        clear hk50
        go_wp2_with fail
        go_loop [4, 8] (fun b i => GetsRel ms wr b i) (fun _ i => k - (intOf i).toNat)
        case atStart => exact Z.out
        case round =>
          obtain ⟨k2, hk2, rfl, A5, n5, c5, rfl, hn5, l5, m5, r5⟩ := hrel
          by_cases hlt : k2 < k
          · obtain ⟨x, hx1, hx2⟩ := HAT.out k2 hlt
            obtain ⟨b, off, rfl, hb, hcell⟩ := R4.out.at_ hx2
            obtain ⟨z, hz⟩ : ∃ z, z = x % 4611686018427387904 := ⟨_, rfl⟩
            have zlt : z < 4611686018427387904 := by rw [hz]; exact Nat.mod_lt _ (by decide)
            have hzi : (x : Int) % 4611686018427387904 = (z : Int) := by omega
            obtain ⟨s, hs⟩ : ∃ s, s = Wig.vsize z := ⟨_, rfl⟩
            have e := Wig.encs_drop hx1
            rw [← hz] at e
            have vl : (Wig.venc (x % 4611686018427387904)).length = s := by rw [← hz, Wig.venc_length, hs]
            have s1 : 0 < s := by rw [hs]; obtain ⟨m, h, _⟩ := Wig.vfits zlt; omega
            have sn : s ≤ n5 := by rw [hn5, e, List.length_append, Wig.venc_length, ← hs]; omega
            obtain ⟨q1, q2, q3, q4⟩ := Wig.vback zlt (Wig.encs (ms.drop (k2 + 1)))
            rw [← e] at q1 q2 q3
            rw [← hs] at q3
            have C1 : Calls Tryd.prog 12 #[.slice A5 n5 c5] wr fun e w' => e = .returned (.tuple #[.int .u64 (z : Int), .int .i64 (s : Int), .int .i64 0]) ∧ wr = w' :=
              get_gives _ z s 0 A5 n5 c5 wr q2 q3 (by unfold Wig.vgot; rw [q1]; rfl) (Wig.encs_bytes _) hn5 l5 m5 r5 T4.out
            have C1 := Lib.hid C1
            obtain ⟨b5, off5, rfl, _, _⟩ := r5 (by intro h; rw [h] at hn5; simp at hn5; omega)
            have i0 : (0 : Int) ≤ (k2 : Int) := by omega
            have i1 : (k2 : Int) < (n : Int) := by have := HN.out; omega
            have j2 : decide (k2 < n) = true := decide_eq_true (by omega)
            have j3 : decide ((k2 : Int) < 50) = true := decide_eq_true (by have := HN.out; omega)
            have k50 : k2 < 50 := by have := HN.out; omega
            have t1 : decide ((s : Int) < 1) = false := decide_eq_false (by omega)
            have t2 : decide (n5 < s) = false := decide_eq_false (by omega)
            have HLT := Lib.hid hlt
            by_cases hcs : c5 = s
            · have R := Lib.hid (gets_last (A := some ⟨b5, off5, none⟩) (w := wr) hx1 vl hn5 l5 m5 hcs)
              clear hx1 hx2 hb hz zlt hs e vl s1 q1 q2 q3 q4 hn5 l5 m5 r5 hk2 hlt
              subst hcs
              go_wp2_with fail
              refine (C1.out).mono ?_
              rintro e w' ⟨rfl, rfl⟩
              go_wp2_with fail
              go_round
              case rel => exact R.out
              case measure => have := HLT.out; simp [intOf]; omega
            · have R := Lib.hid (gets_step (w := wr) hx1 vl hn5 l5 m5 r5)
              clear hx1 hx2 hb hz zlt hs e vl s1 q1 q2 q3 q4 hn5 l5 m5 r5 hk2 hlt
              go_wp2_with fail
              refine (C1.out).mono ?_
              rintro e w' ⟨rfl, rfl⟩
              go_wp2_with fail
              go_round
              case rel => exact R.out
              case measure => have := HLT.out; simp [intOf]; omega
          · obtain rfl : k2 = k := by have := HM.out; omega
            obtain rfl : n5 = 0 := by rw [hn5, List.drop_of_length_le (by rw [← HM.out]; exact Nat.le_refl _)]; rfl
            clear hn5 l5 m5 r5 hk2 hlt
            go_wp2_with fail
            go_ret
            exact ⟨rfl, B4.out⟩

set_option maxRecDepth 100000 in
theorem lifted (os : Os) (started : os.Started) (H : Type) (enc : TypeId × Value → H) :
    ReturnsInHanded {} Tryd.checked os 8 .any (fun w args => (Rows.varintManySpec.pre enc Tryd.prog Tryd.f8 [] false w args ∧ laidMetH Tryd.prog laidList w) ∧ sizedMet enc Tryd.prog Tryd.f8 (OpenSpec.ofChange Rows.varintManySpec) false w args)
      (Rows.varintManySpec.post enc Tryd.prog Tryd.f8 false true false false) := by
  refine returnsInHanded_of_change_and (C := Tryd.checked) (X := fun w _ => laidMetH Tryd.prog laidList w) (fun _ _ _ hh h => h.of_heap hh) own started (by kernel_rfl) Tryd.func8
    (ChangeSpec.witness_shaped (enc := enc) (C := Tryd.checked) (os := os) (X := fun w _ => laidMetH Tryd.prog laidList w) false (World.doorLaid Tryd.prog 400 os) #[.slice none 0 0] 8 rfl (World.shaped_of_RefB (by kernel_rfl) (by kernel_rfl)) (by kernel_rfl) (by kernel_rfl) (by kernel_rfl) (door_met os _)) ?_
  intro W base args ds gs before hval0 hW _ _ hL _
  have hval : ∀ (j : Nat) t v, Tryd.f8.params[j]? = some t → args[j]? = some v → Value.okWide Tryd.prog W .any base t v := hval0
  have hW' := hW
  obtain ⟨p, q, hA0, hV, rfl, hfz, hnd⟩ := hW
  have hA : DataW.TrodAll enc Tryd.prog W 0 (fun _ => true) true Tryd.f8.params.toList args.toList ds p := hA0
  obtain ⟨rfl, rfl⟩ := trodVars_none hV
  simp only [List.append_nil] at hW'
  have hlow : ∀ x ∈ p, x.block < W.heap.size := fun x hx => hW'.lt x hx
  have hA2 := hA
  rw [Tryd.params8] at hval hA2
  obtain ⟨v0, vs0, d0, ds0, p0, q0, hargs, rfl, rfl, h0, r0⟩ := trodAll_cons hA2
  obtain ⟨rfl, rfl, rfl⟩ := trodAll_nil r0
  obtain rfl : args = #[v0] := by cases args; simp_all
  obtain ⟨A0, c0, xs0, rfl, hx0, hr0, hl0, hm0⟩ := open_row 18446744073709551616 Tryd.underlying34 Tryd.underlying23 (by kernel_rfl) (by intro x h; simp [Lit.wf, IntKind.min, IntKind.max, IntKind.signed, IntKind.bits] at h; omega) (hval 0 34 v0 rfl rfl) h0 (fun x hx => hlow x (by simp [hx]))
  refine (walk A0 c0 xs0 hx0 hl0 hm0 W hr0 (tab_of_laid hL)).mono fun e W' ⟨he, hg⟩ => ?_
  subst he
  exact ⟨_, rfl, law_true laid_out (by kernel_rfl) rfl Tryd.underlying4 (by kernel_rfl) hW' hA rfl rfl rfl hg⟩

theorem over : Rows.varintManyRow.holds Tryd.pinned (OpenSpec.ofChange Rows.varintManySpec) :=
  OpenClaim.holds_of_wide 8 Tryd.f8 rfl rfl rfl rfl rfl rfl rfl ⟨rfl, rfl, rfl, rfl, rfl⟩ rfl rfl rfl rfl rfl (by kernel_rfl) Tryd.func8 (by kernel_rfl)
    (of_decide_eq_true (by kernel_rfl)) (by unfold Func.isWrapper; first | (rw [if_pos (by decide +kernel)]; kernel_rfl) | (rw [if_neg (by decide +kernel)]; exact ⟨rfl, rfl⟩))
    (fun os started H enc _ => lifted os started H enc)

/-- The statement: the card of it, its table tied to the program. -/
theorem proved : Rows.VarintManyCardSaid :=
  Claim7.holds_tied_plain_at .later [] [.data] true (true, "c6a13142a35a782391a3892c23b8891977bad80e44468b0d5c8d40cffa60ecdf") false
    over (fun _ h => by cases h) (by kernel_rfl) (fun _ h => by cases h) varintMany_row_tie rfl ⟨rfl, rfl⟩ (by kernel_rfl) rfl
    (fun f fn hf hfn => by
      obtain rfl : f = 8 := Option.some.inj ((show Tryd.prog.funcNamed "wigwag/wigwaglaw03.VarintMany" = some 8 by kernel_rfl).symm.trans hf) |>.symm
      obtain rfl : fn = Tryd.f8 := (Option.some.inj (Tryd.func8.symm.trans hfn)).symm
      exact ⟨by kernel_rfl, fun j t ht => by
        rw [Tryd.params8] at ht
        have hm : t ∈ [34] := by simpa using Array.mem_of_getElem? ht
        have hall : ([34].all fun u => !Tryd.prog.wantsStandIn u) = true := by kernel_rfl
        exact (show Tryd.prog.wantsStandIn t = false by simpa using List.all_eq_true.1 hall t hm)⟩)
    (by kernel_rfl)
end Go.Proofs.YtphjdlinldmgnaaDoor.varintMany
