/-
  Bytes laid behind a row of one's own, or behind a row of another's that has no room left; what package seal's withSum, layPart and readPart return. No condition.
-/
import Derived.Test.YtmodafmnokiceaaSeaA
import Derived.Test.YtmodafmnokiceaaApp
import Derived.Test.YtmodafmnokiceaaBit
namespace Go.Proofs.Ytmodafmnokiceaa
open Go.ChangeShapes Go.WideShapes Go.ChangeAt Go.RowKit Go.Deep
set_option linter.unusedVariables false

/-- A row of the call's own, or another's with no room behind it. -/
def Ext (w : World) (base : Nat) (v : Value) (xs : List Nat) : Prop :=
  OwnN .u8 5 w base v xs ∨ ∃ a, v = .slice (some a) xs.length xs.length ∧ RdN .u8 w base (some a) xs ∧ xs ≠ []
theorem Ext.rd {w : World} {base : Nat} {v : Value} {xs : List Nat} (h : Ext w base v xs) (hb : base ≤ w.heap.size) : ∃ A c, v = .slice A xs.length c ∧ RdN .u8 w w.heap.size A xs := by
  rcases h with h | ⟨a, rfl, hr, _⟩
  · obtain ⟨A, c, e, _, _, hr, _⟩ := h.rd
    exact ⟨A, c, e, hr⟩
  · exact ⟨some a, _, rfl, hr.wide hb⟩
theorem Ext.below {w w' : World} {base B : Nat} {v : Value} {xs : List Nat} (h : Ext w base v xs) (hb : Below B w w') (hB : w.heap.size ≤ B) (h0 : base ≤ B) : Ext w' base v xs := by
  rcases h with h | ⟨a, e, hr, hn⟩
  · exact .inl (h.below hb hB)
  · exact .inr ⟨a, e, hr.keeps fun p hp => hb.cell (by omega), hn⟩
theorem Ext.alloc {w : World} {base : Nat} {v : Value} {xs : List Nat} (h : Ext w base v xs) (hb : base ≤ w.heap.size) (o : Obj) : Ext (w.alloc o) base v xs := h.below ((Below.refl _ _).alloc (Nat.le_refl _) o) (Nat.le_refl _) hb

theorem wpList_append_ext {w : World} {ops : Array Oper} {rest : List Oper} {o : Oper} {a : Act} {Q : Exit → Act → World → Prop} (hgd : o.guard = none) (s x : Operand)
    (ho : o.op = .call { callee := .builtin .append, args := #[s, x], argTypes := #[24, 24] })
    (base : Nat) (v : Value) (xs ys : List Nat) (hs : a.eval s = v) (hE : Ext w base v xs) (B : Nat) (ad : Addr) (c n : Nat) (hn : ys.length = n) (h0 : 0 < n) (hx : a.eval x = .slice (some ad) n c) (hr : RdN .u8 w B (some ad) ys)
    (h63 : xs.length + n ≤ 1000000) (hbase : base ≤ w.heap.size)
    (h : ∀ v' w', OwnN .u8 5 w' base v' (xs ++ ys) → Below base w w' → wpList Try.prog ops Q rest (a.put o.dst v') w') : wpList Try.prog ops Q (o :: rest) a w := by
  rcases hE with hown | ⟨b, rfl, hf, hne⟩
  · exact wpList_append_bytes hgd s x ho base v xs ys hs hown B (some ad) c n hn hx hr h63 hbase fun v' w' h1 h2 => h v' w' h1 ((Below.refl base w).grown h2 hbase (fun q hq => (hown.block q hq).1))
  · subst hn
    obtain ⟨i0, hi, hz0, hz1, hz2⟩ := info_parts bytes_info
    refine wpList_plain hgd fun K hK => ?_
    have hrun := run_append_grow (P := Try.prog) w 24 o.type 5 i0 (.int .u8 0) Try.underlying24 hi hz0 b xs.length xs.length (ncells .u8 xs) (by rw [ncells_length, hz1, Nat.mul_one]) hf.cells_ ad ys.length c (ncells .u8 ys) (by rw [ncells_length, hz1, Nat.mul_one]) hr.cells_
      (by omega) (by omega) (by rw [hz2, Nat.mul_one]; have := nextslicecap_le (need := xs.length + ys.length) (old := xs.length) (by omega); omega)
    unfold Oper.wp
    simp only [execOp, ho, resolve, invoke, builtin, Sem.run_bind, Sem.run_pure, Result.andThen_ok, List.map_toArray, List.map_cons, List.map_nil, hs, hx, hrun]
    refine hK _ _ (h _ _ ?_ ?_)
    · refine ⟨by rw [ncells_length, Nat.mul_one], .inr ⟨w.heap.size, _, _, by rw [List.length_append], hbase, heap_alloc_new w.drew _, by rw [List.length_append]; exact grownCap_ge w _ _ _, grownCap_le_maxLen w _ _ _ (by unfold maxLen; omega), ?_, ?_⟩⟩
      · have hge := grownCap_ge w (xs.length + ys.length) xs.length 5
        simp only [Array.size_append, List.size_toArray, size_zeroCells, ncells_length]
        simp only [Value.cells]
        simp
        omega
      · simp only [Array.toList_append, ncells_app, Nat.mul_one]
        rw [show (xs ++ ys).length = (ncells .u8 xs ++ ncells .u8 ys).length by simp [ncells_length]]
        exact List.take_left
    · exact ((Below.refl base w).drew).alloc (by simpa using hbase) _

theorem lit_u8 (x : World) (y : Nat) : RdN .u8 (x.alloc (.cells #[.int .u8 (y : Int)] 5)) (x.heap.size + 1) (some ⟨x.heap.size, 0, none⟩) [y] := by
  refine fun _ => ⟨x.heap.size, 0, rfl, by omega, fun j z hj => ?_⟩
  rw [World.cell?_alloc_at _ _ _ _ rfl, Nat.zero_add]
  match j, hj with
  | 0, hj => simp at hj; subst hj; rfl
  | j + 1, hj => simp at hj

/-- At withSum's round's head: j bytes of the sum lie there. -/
def LapRel (xs : List Nat) (s base : Nat) (w : World) (vo vi : Value) (wr : World) : Prop :=
  ∃ j : Nat, j ≤ 4 ∧ vi = .int .i64 (j : Int) ∧ Ext wr base vo (xs ++ Wig.le j s) ∧ (0 < j → OwnN .u8 5 wr base vo (xs ++ Wig.le j s)) ∧ Below base w wr

set_option maxHeartbeats 1000000 in
theorem withSum_any (v : Value) (xs : List Nat) (w : World) (base : Nat) (hE : Ext w base v xs) (hb : base ≤ w.heap.size) (hx : Wig.Bytes xs) (hl : xs.length ≤ 100000) :
    Calls Try.prog 21 #[v] w fun e w' => ∃ v', e = .returned v' ∧ OwnN .u8 5 w' base v' (Wig.sealed xs) ∧ Below base w w' := by
  obtain ⟨A, c, rfl, hr⟩ := hE.rd hb
  obtain ⟨s, hs⟩ : ∃ s, s = Wig.csum xs := ⟨_, rfl⟩
  have C := sum_any A xs.length c xs w hx rfl (by omega) hr
  rw [← hs] at C
  have HC := Lib.hid C
  have HE := Lib.hid hE
  have HB := Lib.hid hb
  have HL := Lib.hid hl
  have HS := Lib.hid (And.intro hs (show s < 4294967296 by rw [hs]; exact Wig.csum_lt xs))
  obtain ⟨n, hn⟩ : ∃ n, n = xs.length := ⟨_, rfl⟩
  rw [← hn] at HC HE
  have HN := Lib.hid hn
  rw [← hn]
  clear C hE hb hx hl hr hs hn
  go_enter Try.func21, Try.ntmps21
  go_wp2_with fail
  refine (HC.out).mono ?_
  rintro e w1 ⟨rfl, hb1⟩
  have B1 := Lib.hid hb1
  have E1 := Lib.hid (HE.out.below hb1 (Nat.le_refl _) HB.out)
  have S1 := Lib.hid (Nat.le_trans HB.out hb1.size)
  clear hb1
  go_wp2_with fail
  go_loopw [0, 7] (fun vo vi wr => LapRel xs s base w1 vo vi wr) (fun _ i _ => 4 - (intOf i).toNat)
  case atStart => exact ⟨0, by omega, rfl, by rw [Wig.le, List.append_nil]; exact E1.out, fun h => absurd h (Nat.lt_irrefl _), Below.refl _ _⟩
  case round =>
    obtain ⟨j, hj, rfl, hext, hown, hbel⟩ := hrel
    have KE := Lib.hid hext
    have KO := Lib.hid hown
    have KB := Lib.hid hbel
    clear hext hown hbel
    by_cases hlt : j < 4
    · obtain ⟨y, hy⟩ : ∃ y, y = s / 256 ^ j % 256 := ⟨_, rfl⟩
      have ob := byte_out s j (by omega)
      rw [← hy, show min ((8 * (j : Int)).toNat) 64 = 8 * j by omega, IntKind.wrap_u8] at ob
      have SZ := Lib.hid (Nat.le_trans S1.out KB.out.size)
      have EA := Lib.hid (KE.out.alloc SZ.out (.cells #[.int .u8 (y : Int)] 5))
      have BA := Lib.hid (KB.out.alloc SZ.out (.cells #[.int .u8 (y : Int)] 5))
      have HY := Lib.hid hy
      have LE := Lib.hid (show (xs ++ Wig.le j s).length + 1 ≤ 1000000 by rw [List.length_append, Wig.le_length]; have := HL.out; omega)
      clear hy
      go_wp2_with (at_builtin; refine wpList_append_ext rfl _ _ rfl base _ _ [y] rfl EA.out (wr.heap.size + 1) ⟨wr.heap.size, 0, none⟩ 1 1 rfl (by decide) rfl (lit_u8 wr y) LE.out (by have := SZ.out; simp; omega) ?_)
      intro v2 w2 hown2 hb2
      have e : xs ++ (Wig.le j s ++ [y]) = xs ++ Wig.le (j + 1) s := by rw [Wig.le_snoc, HY.out]
      rw [e] at hown2
      have O2 := Lib.hid hown2
      have B2 := Lib.hid (BA.out.trans hb2)
      clear hown2 hb2 ob e
      go_wp2_with fail
      go_roundw
      case rel => exact ⟨j + 1, by omega, rfl, .inl O2.out, fun _ => O2.out, B2.out⟩
      case measure => simp [intOf]; omega
    · obtain rfl : j = 4 := by omega
      have R := Lib.hid (And.intro (KO.out (by omega)) (B1.out.mono HB.out |>.trans KB.out))
      go_wp2_with fail
      go_ret
      exact ⟨_, rfl, by unfold Wig.sealed; rw [← HS.out.1]; exact R.out.1, R.out.2⟩

/-- At layPart's round's head: i bytes of the part lie there. -/
def PartRel (bs : List Nat) (s p base : Nat) (w : World) (vo vi : Value) (wr : World) : Prop :=
  ∃ i : Nat, i ≤ s ∧ vi = .int .i64 (i : Int) ∧ OwnN .u8 5 wr base vo (bs ++ (Wig.be s p).take i) ∧ Below base w wr

set_option maxHeartbeats 1000000 in
theorem layPart_any (vo : Value) (bs : List Nat) (p s : Nat) (w : World) (base : Nat) (hown : OwnN .u8 5 w base vo bs) (hb : base ≤ w.heap.size) (hs : s ≤ 4) (hl : bs.length ≤ 100000) :
    Calls Try.prog 19 #[vo, .int .u64 (p : Int), .int .i64 (s : Int)] w fun e w' => ∃ v', e = .returned v' ∧ OwnN .u8 5 w' base v' (bs ++ Wig.be s p) ∧ Below base w w' := by
  have HO := Lib.hid hown
  have HB := Lib.hid hb
  have HL := Lib.hid hl
  have H4 := Lib.hid hs
  clear hown hb hl hs
  go_enter Try.func19, Try.ntmps19
  go_wp2_with fail
  go_loopw [0, 9] (fun vo vi wr => PartRel bs s p base w vo vi wr) (fun _ i _ => s - (intOf i).toNat)
  case atStart => exact ⟨0, by omega, rfl, by rw [List.take_zero, List.append_nil]; exact HO.out, Below.refl _ _⟩
  case round =>
    obtain ⟨i, hi, rfl, hown, hbel⟩ := hrel
    have KO := Lib.hid hown
    have KB := Lib.hid hbel
    clear hown hbel
    by_cases hlt : i < s
    · obtain ⟨m, hm⟩ : ∃ m, m = s - 1 - i := ⟨_, rfl⟩
      obtain ⟨y, hy⟩ : ∃ y, y = p / 256 ^ m % 256 := ⟨_, rfl⟩
      have s4 : s ≤ 4 := H4.out
      have m8 : m < 8 := by omega
      have ob := byte_out p m m8
      rw [← hy, show min ((8 * (m : Int)).toNat) 64 = 8 * m by omega, IntKind.wrap_u8] at ob
      have e1 : (s : Int) - 1 - (i : Int) = (m : Int) := by omega
      have hat := Wig.be_at s p i hlt
      rw [← hm, ← hy] at hat
      have ht := take_one hat
      have SZ := Lib.hid (Nat.le_trans HB.out KB.out.size)
      have OA := Lib.hid (show OwnN .u8 5 (wr.alloc (.cells #[.int .u8 (y : Int)] 5)) base u0 (bs ++ (Wig.be s p).take i) from KO.out.below ((Below.refl _ _).alloc (Nat.le_refl _) _) (Nat.le_refl _))
      have BA := Lib.hid (KB.out.alloc SZ.out (.cells #[.int .u8 (y : Int)] 5))
      have LE := Lib.hid (show (bs ++ (Wig.be s p).take i).length + 1 ≤ 1000000 by rw [List.length_append, List.length_take]; have := HL.out; omega)
      have HT := Lib.hid ht
      have HI := Lib.hid hlt
      clear hy hm hat ht hi
      go_wp2_with (at_builtin; refine wpList_append_bytes rfl _ _ rfl base _ _ [y] rfl OA.out (wr.heap.size + 1) (some ⟨wr.heap.size, 0, none⟩) 1 1 rfl rfl (lit_u8 wr y) LE.out (by have := SZ.out; simp; omega) ?_)
      intro v2 w2 hown2 hg2
      have hb2 : Below base (wr.alloc (.cells #[.int .u8 (y : Int)] 5)) w2 := (Below.refl base _).grown hg2 (by have := SZ.out; simp; omega) (fun q hq => (OA.out.block q hq).1)
      rw [← HT.out] at hown2
      have O2 := Lib.hid hown2
      have B2 := Lib.hid (BA.out.trans hb2)
      have hlt2 : i < s := HI.out
      clear hown2 hb2 hg2 ob e1 m8
      go_wp2_with fail
      go_roundw
      case rel => exact ⟨i + 1, by omega, rfl, O2.out, B2.out⟩
      case measure => simp [intOf]; omega
    · obtain rfl : i = s := by omega
      have e : (Wig.be i p).take i = Wig.be i p := List.take_of_length_le (by rw [Wig.be_length]; exact Nat.le_refl _)
      have O := KO.out
      rw [e] at O
      have R := Lib.hid (And.intro O KB.out)
      clear O e
      go_wp2_with fail
      go_ret
      exact ⟨_, rfl, R.out⟩

theorem val_more {xs : List Nat} {k x : Nat} (h : xs[k]? = some x) : Wig.val (xs.take (k + 1)) = Wig.val (xs.take k) * 256 + x := by rw [take_one h, Wig.val_snoc]
theorem val_seven {xs : List Nat} (hx : Wig.Bytes xs) {k : Nat} (hk : k ≤ 7) : Wig.val (xs.take k) < 72057594037927936 := by
  have h1 := Wig.val_lt (xs.take k) (bytes_take hx k)
  have h2 : 256 ^ (xs.take k).length ≤ 256 ^ 7 := Nat.pow_le_pow_right (by omega) (by rw [List.length_take]; omega)
  have h3 : (256 : Nat) ^ 7 = 72057594037927936 := by decide
  omega
def ReadRel (xs : List Nat) (r i : Value) : Prop := ∃ k : Nat, k ≤ xs.length ∧ i = .int .i64 (k : Int) ∧ r = .int .u64 ((Wig.val (xs.take k) : Nat) : Int)

set_option maxHeartbeats 1000000 in
theorem readPart_any (A : Option Addr) (n c : Nat) (xs : List Nat) (w : World) (hx : Wig.Bytes xs) (hn : n = xs.length) (hm : n ≤ 7) (B : Nat) (hr : RdN .u8 w B A xs) :
    Calls Try.prog 29 #[.slice A n c] w fun e w' => e = .returned (.int .u64 ((Wig.val xs : Nat) : Int)) ∧ w = w' := by
  have HR := Lib.hid hr
  have HN := Lib.hid hn
  have HX := Lib.hid hx
  have HM := fun _ : Unit => hm
  clear hr hn hx hm
  go_enter Try.func29, Try.ntmps29
  go_wp2_with fail
  go_loop [3, 8] (fun r i => ReadRel xs r i) (fun _ i => n - (intOf i).toNat)
  case atStart => exact ⟨0, by omega, rfl, rfl⟩
  case round =>
    obtain ⟨k, hk, rfl, rfl⟩ := hrel
    rw [← HN.out] at hk
    obtain ⟨y, hye⟩ : ∃ y, y = Wig.val (xs.take k) := ⟨_, rfl⟩
    rw [← hye]
    by_cases hlt : k < n
    · obtain ⟨z, hz⟩ : ∃ z, xs[k]? = some z := ⟨_, List.getElem?_eq_getElem (by rw [← HN.out]; exact hlt)⟩
      obtain ⟨b, off, rfl, -, hcell⟩ := HR.out.at_ hz
      have z256 : z < 256 := HX.out z (List.mem_of_getElem? hz)
      have hy : y < 72057594037927936 := by rw [hye]; exact val_seven HX.out (by have := HM (); omega)
      have hnext := val_more hz
      rw [← hye] at hnext
      have f1 := byte_in_shl hy
      have f2 := byte_in_or hy z256
      have f3 := byte_wide z256
      have i0 : (0 : Int) ≤ (k : Int) := by omega
      have i1 : (k : Int) < (n : Int) := by omega
      generalize y * 256 = y2 at *
      obtain ⟨y3, hy3⟩ : ∃ y3, y3 = y2 + z := ⟨_, rfl⟩
      rw [← hy3] at f2 hnext
      have R := Lib.hid hnext
      have k8 : k < 8 := by have := HM (); omega
      clear hnext hy3 hye hy z256 hz hk
      go_wp2_with fail
      go_round
      case rel => exact ⟨k + 1, by rw [← HN.out]; omega, rfl, by rw [R.out]⟩
      case measure => simp [intOf]; omega
    · obtain rfl : k = n := by omega
      rw [HN.out, List.take_length] at hye
      have HV := Lib.hid hye
      clear hye
      go_wp2_with fail
      go_ret
      exact ⟨congrArg (fun x : Nat => Ending.returned (.int .u64 (x : Int))) HV.out, rfl⟩
end Go.Proofs.Ytmodafmnokiceaa
