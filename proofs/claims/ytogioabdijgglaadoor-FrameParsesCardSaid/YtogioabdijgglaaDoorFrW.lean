/-
  The head of layer 5's statements: the calls whose answers the document fixes answer so. Condition: the tables hold what their texts lay.
-/
import Derived.Test.YtogioabdijgglaaDoorEnd
import Derived.Test.YtogioabdijgglaaDoorAll
import Derived.Test.YtogioabdijgglaaDoorLaidF
namespace Go.Proofs.YtogioabdijgglaaDoor
open Go.ChangeShapes Go.WideShapes Go.ChangeAt Go.RowKit Go.Deep
set_option linter.unusedVariables false

def aw1 : Wig.Fr := ⟨2, 0, 0, 0, 0, 3, 0, false, [], [(2, 5), (7, 8)]⟩
theorem aw1_ok : aw1.Ok := by
  refine ⟨by decide, fun k => ?_, (fun x hx => by cases hx), fun s hs => ?_⟩
  · unfold Wig.Fr.get aw1
    split <;> decide
  · simp [aw1] at hs
    rcases hs with rfl | rfl <;> decide
theorem aw1_enc : Wig.fenc aw1 = [2, 2, 7, 0, 1, 2, 3] ∧ Wig.ferr aw1 = 0 := ⟨by kernel_rfl, by kernel_rfl⟩
def aw2 : Wig.Fr := ⟨14, 0, 5, 0, 0, 0, 0, true, [104, 105], []⟩
theorem aw2_rd : Wig.rdFrame [15, 0, 5, 2, 104, 105, 9] = some (aw2, [9]) := by kernel_rfl
theorem aw2_got : Wig.pfr [15, 0, 5, 2, 104, 105, 9] = aw2 ∧ Wig.plen [15, 0, 5, 2, 104, 105, 9] = 6 ∧ Wig.perr [15, 0, 5, 2, 104, 105, 9] = 0 := by
  unfold Wig.pfr Wig.plen Wig.perr
  rw [aw2_rd]
  exact ⟨rfl, rfl, rfl⟩
theorem aw3_rd : Wig.rdFrame [7] = none := by kernel_rfl
theorem aw3_got : Wig.perr [7] = 50 := by
  unfold Wig.perr
  rw [aw3_rd]
def aw4 : Wig.Fr := ⟨1, 0, 0, 0, 0, 0, 0, false, [], []⟩
theorem aw4_got : Wig.ferr aw4 = 0 := by kernel_rfl
theorem aw5_got : Wig.aerr [] = 50 := by kernel_rfl
theorem rd_bytes_new (w : World) (xs : List Nat) : RdN .u8 (w.alloc (.cells (ncells .u8 xs).toArray 5)) (w.alloc (.cells (ncells .u8 xs).toArray 5)).heap.size (some ⟨w.heap.size, 0, none⟩) xs := by
  refine fun _ => ⟨w.heap.size, 0, rfl, by simp, fun j x hj => ?_⟩
  rw [World.cell?_alloc_at _ _ _ _ rfl, Nat.zero_add]
  simpa using ncells_at .u8 xs j x hj
theorem rd_spans_two (w : World) : RdS (w.alloc (.cells #[.int .u64 2, .int .u64 5, .int .u64 7, .int .u64 8] 42)) (w.alloc (.cells #[.int .u64 2, .int .u64 5, .int .u64 7, .int .u64 8] 42)).heap.size (some ⟨w.heap.size, 0, none⟩) [(2, 5), (7, 8)] := by
  refine fun _ => ⟨w.heap.size, 0, rfl, by simp, fun j p hj => ?_⟩
  rw [World.cell?_alloc_at _ _ _ _ rfl, World.cell?_alloc_at _ _ _ _ rfl]
  match j, hj with
  | 0, hj => simp at hj; subst hj; exact ⟨rfl, rfl⟩
  | 1, hj => simp at hj; subst hj; exact ⟨rfl, rfl⟩
  | j + 2, hj => simp at hj

set_option maxRecDepth 20000 in
set_option maxHeartbeats 4000000 in
theorem awake_any (w : World) (hT : Tab w ∧ NTab w) : Calls Tryd.prog 5 #[] w fun e w' => e = .returned (.bool true) ∧ Below w.heap.size w w' := by
  have HT := Lib.hid hT
  clear hT
  obtain ⟨w1, hw1⟩ : ∃ w1, w1 = w.alloc (.cells #[.int .u64 2, .int .u64 5, .int .u64 7, .int .u64 8] 42) := ⟨_, rfl⟩
  have hb1 : Below w.heap.size w w1 := by rw [hw1]; exact (Below.refl _ _).alloc (Nat.le_refl _) _
  have B1 := Lib.hid hb1
  have T1 := Lib.hid (tabs_below HT.out hb1)
  have C1 := Lib.hid (encode_any (.agg #[.int .i64 2, .int .u64 0, .int .u64 0, .int .u64 0, .int .u64 0, .int .u64 3, .int .u64 0, .bool false, .slice none 0 0, .slice (some ⟨w.heap.size, 0, none⟩) 2 2]) aw1 w1 ⟨none, 0, some ⟨w.heap.size, 0, none⟩, 2, rfl, ⟨Nat.le_refl _, Nat.zero_le _, RdN.empty, Nat.le_refl _, by simp [maxLen], by rw [hw1]; exact rd_spans_two w⟩⟩ aw1_ok (two_le T1.out) T1.out)
  unfold EncAt at C1
  rw [aw1_enc.1, aw1_enc.2] at C1
  clear hb1
  go_enter Tryd.func5, Tryd.ntmps5
  go_wp2_with fail
  rw [← hw1]
  clear hw1
  refine (C1.out).mono ?_
  rintro e w2 ⟨va, rfl, ⟨Aa, na, ca, rfl, hna, _, _, hra, hsa⟩, hb2⟩
  have B2 := Lib.hid (below_trans' B1.out hb2)
  have T2 := Lib.hid (tabs_below T1.out hb2)
  have RA := Lib.hid hra
  have NA := Lib.hid hna
  obtain ⟨w3, hw3⟩ : ∃ w3, w3 = w2.alloc (.cells #[.int .u8 15, .int .u8 0, .int .u8 5, .int .u8 2, .int .u8 104, .int .u8 105, .int .u8 9] 5) := ⟨_, rfl⟩
  have hb3 : Below w2.heap.size w2 w3 := by rw [hw3]; exact (Below.refl _ _).alloc (Nat.le_refl _) _
  have B3 := Lib.hid (below_trans' B2.out hb3)
  have T3 := Lib.hid (tabs_below T2.out hb3)
  have N3 := Lib.hid hb3
  have C2 := Lib.hid (parse_any (some ⟨w2.heap.size, 0, none⟩) 7 7 [15, 0, 5, 2, 104, 105, 9] w3 (by unfold Wig.Bytes; decide) rfl (by decide) (Nat.le_refl _) (by simp [maxLen]) (by rw [hw3]; exact rd_bytes_new w2 [15, 0, 5, 2, 104, 105, 9]) (two_le T3.out) T3.out)
  unfold ParseAt at C2
  rw [aw2_got.1, aw2_got.2.1, aw2_got.2.2] at C2
  simp only [farr, aw2] at C2
  clear hna hra hsa hb2 hb3 C1
  go_wp2_with fail
  rw [← hw3]
  clear hw3
  refine (C2.out).mono ?_
  rintro e w4 ⟨D, dc, S, sc, rfl, hl, hb4, -, -⟩
  obtain ⟨w5, hw5⟩ : ∃ w5, w5 = w4.alloc (.cells #[.int .i64 14, .int .u64 0, .int .u64 5, .int .u64 0, .int .u64 0, .int .u64 0, .int .u64 0, .bool true, .slice D 2 dc, .slice S 0 sc] 26) := ⟨_, rfl⟩
  have hb5 : Below w4.heap.size w4 w5 := by rw [hw5]; exact (Below.refl _ _).alloc (Nat.le_refl _) _
  have q0 : w5.cell? ⟨w4.heap.size, 0, none⟩ = some (.int .i64 14) := by rw [hw5, World.cell?_alloc_at _ _ _ _ rfl]; rfl
  have q7 : w5.cell? ⟨w4.heap.size, 7, none⟩ = some (.bool true) := by rw [hw5, World.cell?_alloc_at _ _ _ _ rfl]; rfl
  have q8 : w5.cell? ⟨w4.heap.size, 8, none⟩ = some (.slice D 2 dc) := by rw [hw5, World.cell?_alloc_at _ _ _ _ rfl]; rfl
  have s5 : w4.heap.size < w5.heap.size := by rw [hw5]; simp
  have e5 : w5.heap.size = w4.heap.size + 1 := by rw [hw5]; simp
  have rd5 : RdN .u8 w5 w5.heap.size D [104, 105] := hl.dr.step hb5
  have hn5 := below_trans' hb4 hb5
  have B5 := Lib.hid (below_trans' B3.out hn5)
  have T5 := Lib.hid (tabs_below T3.out hn5)
  have N5 := Lib.hid (below_trans' N3.out hn5)
  obtain ⟨w6, hw6⟩ : ∃ w6, w6 = w5.alloc (.cells #[.int .u8 7] 5) := ⟨_, rfl⟩
  have hb6 : Below w5.heap.size w5 w6 := by rw [hw6]; exact (Below.refl _ _).alloc (Nat.le_refl _) _
  have T6 := Lib.hid (tabs_below T5.out hb6)
  have B6 := Lib.hid (below_trans' B5.out hb6)
  have N6 := Lib.hid (below_trans' N5.out hb6)
  have M6 := Lib.hid hb6
  have C3 := Lib.hid (parse_any (some ⟨w4.heap.size + 1, 0, none⟩) 1 1 [7] w6 (by unfold Wig.Bytes; decide) rfl (by decide) (Nat.le_refl _) (by simp [maxLen]) (by rw [hw6, ← e5]; exact rd_bytes_new w5 [7]) (two_le T6.out) T6.out)
  unfold ParseAt at C3
  rw [aw3_got] at C3
  have K := Lib.hid (And.intro q0 (And.intro q7 (And.intro q8 (And.intro s5 rd5))))
  generalize Wig.plen [7] = pl at *
  generalize Wig.pfr [7] = f3 at *
  clear hl hb4 hb5 hn5 q0 q7 q8 s5 e5 rd5 hb6 C2
  go_wp2_with fail
  rw [← hw5, ← hw6]
  clear hw5 hw6
  refine (C3.out).mono ?_
  rintro e w7 ⟨D3, dc3, S3, sc3, rfl, -, hb7, -, -⟩
  obtain ⟨w8, hw8⟩ : ∃ w8, w8 = w7.alloc (.cells (farr f3 D3 dc3 S3 sc3) 26) := ⟨_, rfl⟩
  have hb8 : Below w7.heap.size w7 w8 := by rw [hw8]; exact (Below.refl _ _).alloc (Nat.le_refl _) _
  have hn8 := below_trans' hb7 hb8
  have B8 := Lib.hid (below_trans' B6.out hn8)
  have T8 := Lib.hid (tabs_below T6.out hn8)
  have N8 := Lib.hid (below_trans' N6.out hn8)
  have M8 := Lib.hid (below_trans' M6.out hn8)
  have C4 := Lib.hid (all_any none 0 0 [] w8 (by unfold Wig.Bytes; simp) rfl (by decide) (Nat.le_refl _) (by simp) RdN.empty (two_le T8.out) T8.out)
  unfold AllAt at C4
  rw [aw5_got] at C4
  simp only [farr] at hw8 ⊢
  clear hb7 hb8 hn8 C3
  go_wp2_with fail
  rw [← hw8]
  clear hw8
  refine (C4.out).mono ?_
  rintro e w9 ⟨v9, es9, rfl, -, -, -, hb9⟩
  have B9 := Lib.hid (below_trans' B8.out hb9)
  have N9 := Lib.hid (below_trans' N8.out hb9)
  have M9 := Lib.hid (below_trans' M8.out hb9)
  have T9 := Lib.hid (tabs_below T8.out hb9)
  have hcv := conv_str (P := Tryd.prog) (src := 23) (e := 5) (dst := 9) Tryd.underlying23 Tryd.underlying5 Tryd.underlying9 (RA.out.step N9.out) (fun h => by simp at h) na ca NA.out
  have hcd := conv_str (P := Tryd.prog) (src := 23) (e := 5) (dst := 9) Tryd.underlying23 Tryd.underlying5 Tryd.underlying9 (K.out.2.2.2.2.step M9.out) (fun h => by simp at h) 2 dc rfl
  obtain ⟨sa, hsa⟩ : ∃ sa, sa = str [2, 2, 7, 0, 1, 2, 3] := ⟨_, rfl⟩
  rw [← hsa] at hcv
  have heqa : sa.toList = [2, 2, 7, 0, 1, 2, 3] := by rw [hsa, str_toList]; rfl
  obtain ⟨sd, hsd⟩ : ∃ sd, sd = str [104, 105] := ⟨_, rfl⟩
  rw [← hsd] at hcd
  have heqd : sd.toList = [104, 105] := by rw [hsd, str_toList]; rfl
  have q0 := (M9.out.cell (p := ⟨w4.heap.size, 0, none⟩) K.out.2.2.2.1).trans K.out.1
  have q7 := (M9.out.cell (p := ⟨w4.heap.size, 7, none⟩) K.out.2.2.2.1).trans K.out.2.1
  have q8 := (M9.out.cell (p := ⟨w4.heap.size, 8, none⟩) K.out.2.2.2.1).trans K.out.2.2.1
  have C5 := Lib.hid (check_any (.agg #[.int .i64 1, .int .u64 0, .int .u64 0, .int .u64 0, .int .u64 0, .int .u64 0, .int .u64 0, .bool false, .slice none 0 0, .slice none 0 0]) aw4 w9 ⟨none, 0, none, 0, rfl, ⟨Nat.le_refl _, Nat.zero_le _, RdN.empty, Nat.le_refl _, Nat.zero_le _, RdS.empty⟩⟩ (by decide) T9.out.2)
  rw [aw4_got] at C5
  clear hb9 C4 hsa hsd
  go_wp2_with fail
  refine (C5.out).mono ?_
  rintro e w10 ⟨rfl, hb10⟩
  have R := Lib.hid (below_trans' B9.out hb10)
  clear hb10
  go_wp2_with fail
  go_ret
  exact ⟨rfl, R.out⟩
end Go.Proofs.YtogioabdijgglaaDoor
