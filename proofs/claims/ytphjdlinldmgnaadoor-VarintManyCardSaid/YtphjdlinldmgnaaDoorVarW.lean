/-
  The head of layer 3's statements: the calls whose answers the document fixes answer so. And the contracts of Put, Get and Size with their answers as arguments. Condition: the table of sizes holds what its text lays.
-/
import Derived.Test.YtphjdlinldmgnaaDoorVarB
import Derived.Test.YtphjdlinldmgnaaDoorVarC
namespace Go.Proofs.YtphjdlinldmgnaaDoor
open Go.ChangeShapes Go.WideShapes Go.ChangeAt Go.RowKit Go.Deep
set_option linter.unusedVariables false

/-- Get's answer, written out. -/
theorem get_gives (xs : List Nat) (v l g : Nat) (A : Option Addr) (n c : Nat) (w : World) (hv : Wig.vnum xs = v) (hl : Wig.vlen xs = l) (hg : Wig.vgot xs = g) (hx : Wig.Bytes xs) (hn : n = xs.length) (hc : n ≤ c) (hm : c ≤ maxLen)
    (hr : RdN .u8 w w.heap.size A xs) (hT : Tab w) :
    Calls Tryd.prog 12 #[.slice A n c] w fun e w' => e = .returned (.tuple #[.int .u64 (v : Int), .int .i64 (l : Int), .int .i64 (g : Int)]) ∧ w = w' := by
  subst hv hl hg
  exact get_any A n c xs w hx hr hn hc hm hT
/-- Put's answer, its bytes and its error written out. -/
theorem put_gives (v : Nat) (xs : List Nat) (r : Nat) (w : World) (hx : Wig.venc v = xs) (he : Wig.verr v = r) (hv : v < 18446744073709551616) (hT : Tab w) :
    Calls Tryd.prog 10 #[.int .u64 (v : Int)] w fun e w' => ∃ A n c, e = .returned (.tuple #[.slice A n c, .int .i64 (r : Int)]) ∧ n = xs.length ∧ n ≤ c ∧ c ≤ maxLen ∧ RdN .u8 w' w'.heap.size A xs ∧ (xs = [] → A = none) ∧ Below w.heap.size w w' := by
  subst hx he
  exact put_any v w hv hT
theorem size_gives (v s : Nat) (w : World) (hs : Wig.vsize v = s) (hT : Tab w) :
    Calls Tryd.prog 14 #[.int .u64 (v : Int)] w fun e w' => e = .returned (.int .i64 (s : Int)) ∧ w = w' := by
  subst hs
  exact size_any v w hT

theorem rd_two (w : World) (a b : Nat) : RdN .u8 (w.alloc (.cells #[.int .u8 (a : Int), .int .u8 (b : Int)] 5)) (w.alloc (.cells #[.int .u8 (a : Int), .int .u8 (b : Int)] 5)).heap.size (some ⟨w.heap.size, 0, none⟩) [a, b] := by
  refine fun _ => ⟨w.heap.size, 0, rfl, by simp, fun j x hj => ?_⟩
  rw [World.cell?_alloc_at _ _ _ _ rfl]
  match j, hj with
  | 0, hj => simp at hj; subst hj; rfl
  | 1, hj => simp at hj; subst hj; rfl
  | j + 2, hj => simp at hj

set_option maxHeartbeats 1000000 in
theorem awake_any (w : World) (hT : Tab w) : Calls Tryd.prog 9 #[] w fun e w' => e = .returned (.bool true) ∧ Below w.heap.size w w' := by
  have C1 := Lib.hid (put_gives 15293 [123, 189] 0 w (by decide) (by decide) (by decide) hT)
  have HT := Lib.hid hT
  clear hT
  go_enter Tryd.func9, Tryd.ntmps9
  go_wp2_with fail
  refine (C1.out).mono ?_
  rintro e w1 ⟨A, n, c, rfl, hn, hc, hm, hr, h0, hb⟩
  have HB := Lib.hid hb
  have HR := Lib.hid hr
  have HN := Lib.hid hn
  clear hr hn hb hc hm h0
  go_wp2_with fail
  have HB2 := Lib.hid ((Below.refl w1.heap.size w1).alloc (Nat.le_refl _) (.cells #[.int .u8 ((64 : Nat) : Int), .int .u8 ((37 : Nat) : Int)] 5))
  have HT1 := Lib.hid (HT.out.below HB.out)
  refine (show Calls Tryd.prog 12 #[.slice (some ⟨w1.heap.size, 0, none⟩) 2 2] (w1.alloc (.cells #[.int .u8 64, .int .u8 37] 5)) fun e w' => e = .returned (.tuple #[.int .u64 37, .int .i64 2, .int .i64 0]) ∧ w1.alloc (.cells #[.int .u8 64, .int .u8 37] 5) = w' from
    get_gives [64, 37] 37 2 0 _ 2 2 _ (by decide) (by decide) (by decide) (by unfold Wig.Bytes; decide) rfl (by decide) (by decide) (rd_two w1 64 37) (HT1.out.below HB2.out)).mono ?_
  rintro e w2 ⟨rfl, rfl⟩
  obtain ⟨w2, hw2⟩ : ∃ w2, w2 = w1.alloc (.cells #[.int .u8 64, .int .u8 37] 5) := ⟨_, rfl⟩
  have HB3 : Below w1.heap.size w1 w2 := by rw [hw2]; exact HB2.out
  have HB4 := Lib.hid HB3
  have HT2 := Lib.hid (HT1.out.below HB3)
  rw [← hw2]
  clear hw2 HB2 HB3
  go_wp2_with fail
  have HB5 := Lib.hid ((Below.refl w2.heap.size w2).alloc (Nat.le_refl _) (.cells #[.int .u8 ((157 : Nat) : Int), .int .u8 ((127 : Nat) : Int)] 5))
  refine (show Calls Tryd.prog 12 #[.slice (some ⟨w2.heap.size, 0, none⟩) 2 2] (w2.alloc (.cells #[.int .u8 157, .int .u8 127] 5)) fun e w' => e = .returned (.tuple #[.int .u64 0, .int .i64 0, .int .i64 30]) ∧ w2.alloc (.cells #[.int .u8 157, .int .u8 127] 5) = w' from
    get_gives [157, 127] 0 0 30 _ 2 2 _ (by decide) (by decide) (by decide) (by unfold Wig.Bytes; decide) rfl (by decide) (by decide) (rd_two w2 157 127) (HT2.out.below HB5.out)).mono ?_
  rintro e w3 ⟨rfl, rfl⟩
  obtain ⟨w3, hw3⟩ : ∃ w3, w3 = w2.alloc (.cells #[.int .u8 157, .int .u8 127] 5) := ⟨_, rfl⟩
  have HB6 : Below w2.heap.size w2 w3 := by rw [hw3]; exact HB5.out
  have HB7 := Lib.hid (below_trans' (below_trans' HB.out HB4.out) HB6)
  have HT3 := Lib.hid (HT2.out.below HB6)
  have HR3 := ((HR.out.step HB4.out).step HB6)
  have hcv := conv_str (P := Tryd.prog) (src := 24) (e := 5) (dst := 9) Tryd.underlying24 Tryd.underlying5 Tryd.underlying9 HR3 (fun h => by simp at h) n c HN.out
  obtain ⟨sb, hsb⟩ : ∃ sb, sb = str [123, 189] := ⟨_, rfl⟩
  rw [← hsb] at hcv
  have heq : sb.toList = [123, 189] := by rw [hsb, str_toList]; rfl
  have C2 := Lib.hid (show Calls Tryd.prog 14 #[.int .u64 64] w3 fun e w' => e = .returned (.int .i64 2) ∧ w3 = w' from size_gives 64 2 w3 (by decide) HT3.out)
  have C3 := Lib.hid (show Calls Tryd.prog 14 #[.int .u64 4611686018427387904] w3 fun e w' => e = .returned (.int .i64 0) ∧ w3 = w' from size_gives 4611686018427387904 0 w3 (by decide) HT3.out)
  rw [← hw3]
  clear hw3 HB6 HR3 HB5 hsb
  go_wp2_with fail
  refine (C2.out).mono ?_
  rintro e w' ⟨rfl, rfl⟩
  go_wp2_with fail
  refine (C3.out).mono ?_
  rintro e w' ⟨rfl, rfl⟩
  go_wp2_with fail
  go_ret
  exact ⟨rfl, HB7.out⟩
end Go.Proofs.YtphjdlinldmgnaaDoor
