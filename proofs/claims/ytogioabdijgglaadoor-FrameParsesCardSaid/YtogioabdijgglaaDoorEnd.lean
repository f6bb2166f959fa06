/-
  What package frame's Encode returns. Condition: the tables hold what their texts lay.
-/
import Derived.Test.YtogioabdijgglaaDoorEnc
namespace Wig
theorem layF_len {f : Fr} (h : fine f = true) {has : List Nat} (hf : flds (knat f.kind) = some has) {k : Nat} (hk : k ∈ has) : (layF f k).length ≤ 1300 := by
  have hfit := fine_fits h hf k hk
  unfold Fits at hfit
  unfold layF
  split
  · rename_i h6
    rw [if_pos h6] at hfit
    have h1 := nums_le (spNums f.spans)
    have h2 := (spNums_small hfit).1
    omega
  · split
    · have h1 := vsize_le f.data.length
      have h2 := fine_data h
      rw [List.length_append, venc_length]
      omega
    · have h1 := vsize_le (f.get k)
      rw [venc_length]
      omega
theorem lay_take {f : Fr} {has : List Nat} {k j : Nat} (h : has[k]? = some j) : (has.take (k + 1)).flatMap (layF f) = (has.take k).flatMap (layF f) ++ layF f j := by
  rw [List.take_add_one, h]
  simp
theorem lay_take_len {f : Fr} {has : List Nat} (h : ∀ k ∈ has, (layF f k).length ≤ 1300) : ∀ k, ((has.take k).flatMap (layF f)).length ≤ 1300 * k
  | 0 => by simp
  | k + 1 => by
    have ih := lay_take_len h k
    by_cases hk : k < has.length
    · rw [lay_take (List.getElem?_eq_getElem hk), List.length_append]
      have := h _ (List.getElem_mem hk)
      omega
    · rw [List.take_of_length_le (by omega)] at ih ⊢
      omega
end Wig
namespace Go.Proofs.YtogioabdijgglaaDoor
open Go.ChangeShapes Go.WideShapes Go.ChangeAt Go.RowKit Go.Deep
set_option linter.unusedVariables false

/-- What Encode answers. -/
def EncAt (f : Wig.Fr) (w : World) (e : Ending) (w' : World) : Prop :=
  ∃ v, e = .returned (.tuple #[v, .int .i64 ((Wig.ferr f : Nat) : Int)]) ∧ Has .u8 w' w.heap.size v (Wig.fenc f) ∧ Below w.heap.size w w'
theorem encAt_no {f : Wig.Fr} {w w' : World} (h : Wig.fine f = false) (hb : Below w.heap.size w w') : EncAt f w (.returned (.tuple #[.slice none 0 0, .int .i64 50])) w' := by
  have e : Wig.fenc f = [] := by unfold Wig.fenc; rw [if_neg (by rw [h]; simp)]
  refine ⟨.slice none 0 0, by rw [ferr_no h]; rfl, ?_, hb⟩
  rw [e]
  exact ⟨none, 0, 0, rfl, rfl, Nat.le_refl _, Nat.zero_le _, RdN.empty, fun _ _ _ e => by cases e⟩
theorem encAt_ok {f : Wig.Fr} {has : List Nat} {w w' : World} {base : Nat} {v : Value} (h : Wig.fine f = true) (hf : Wig.flds (Wig.knat f.kind) = some has) (hb : Below w.heap.size w w') (hB : w.heap.size ≤ base) (ho : OwnN .u8 5 w' base v (Wig.venc (Wig.wkind f) ++ has.flatMap (Wig.layF f))) :
    EncAt f w (.returned (.tuple #[v, .int .i64 0])) w' := by
  have e : Wig.fenc f = Wig.venc (Wig.wkind f) ++ has.flatMap (Wig.layF f) := by unfold Wig.fenc; rw [if_pos h, hf]; rfl
  refine ⟨v, by rw [ferr_ok h]; rfl, ?_, hb⟩
  rw [e]
  obtain ⟨A, n, c, e1, e2, e3, e4, e5, e6⟩ := ho.has
  exact ⟨A, n, c, e1, e2, e3, e4, e5, fun b o s e => ⟨Nat.le_trans hB (e6 b o s e).1, (e6 b o s e).2⟩⟩
/-- At a round's head. -/
def EncRel (f : Wig.Fr) (has : List Nat) (base : Nat) (w : World) (vo vi : Value) (wr : World) : Prop :=
  ∃ k, k ≤ has.length ∧ vi = .int .i64 ((k : Nat) : Int) ∧ OwnN .u8 5 wr base vo (Wig.venc (Wig.wkind f) ++ (has.take k).flatMap (Wig.layF f)) ∧ Below base w wr

set_option maxHeartbeats 4000000 in
theorem encode_any (v : Value) (f : Wig.Fr) (w : World) (hv : Fv w w.heap.size v f) (ho : f.Ok) (h2 : 2 ≤ w.heap.size) (hT : Tab w ∧ NTab w) :
    Calls Tryd.prog 7 #[v] w (EncAt f w) := by
  obtain ⟨D, dc, S, sc, rfl, hl⟩ := hv
  have hat := at_box w f D dc S sc 26
  have hbel : Below w.heap.size w (w.alloc (.cells (farr f D dc S sc) 26)) := (Below.refl _ _).alloc (Nat.le_refl _) _
  obtain ⟨wn, hwn⟩ : ∃ wn, wn = w.alloc (.cells (farr f D dc S sc) 26) := ⟨_, rfl⟩
  rw [← hwn] at hat hbel
  have hsz : wn.heap.size = w.heap.size + 1 := by rw [hwn]; simp
  have HB := Lib.hid hbel
  have HA := Lib.hid hat
  have HL := Lib.hid (hl.step hbel)
  have HT := Lib.hid (And.intro (hT.1.below hbel) (hT.2.below hbel))
  have HS := Lib.hid (And.intro hsz h2)
  have HO := Lib.hid ho
  have CK := Lib.hid (check_any (.agg #[.int .i64 f.kind, .int .u64 (f.id : Int), .int .u64 (f.off : Int), .int .u64 (f.max : Int), .int .u64 (f.code : Int), .int .u64 (f.delay : Int), .int .u64 (f.ce : Int), .bool f.fin, .slice D f.data.length dc, .slice S f.spans.length sc]) f wn (Lies.fv HL.out) (ho.num 1) HT.out.2)
  have hk : IntKind.u64.wrap f.kind = ((Wig.knat f.kind : Nat) : Int) := by rw [IntKind.wrap_u64]; unfold Wig.knat; omega
  obtain ⟨kn, hkn⟩ : ∃ kn, kn = Wig.knat f.kind := ⟨_, rfl⟩
  rw [← hkn] at hk
  have HKN := Lib.hid hkn
  have HK := Lib.hid hk
  clear hat hbel hl hT hsz h2 ho hkn hk
  simp only [farr] at hwn ⊢
  cases hfi : Wig.fine f with
  | false =>
    rw [ferr_no hfi] at CK
    have R := Lib.hid fun w' hb => encAt_no (w := w) (w' := w') hfi hb
    clear hfi
    go_enter Tryd.func7, Tryd.ntmps7
    go_wp2_with fail
    rw [← hwn]
    clear hwn
    refine (CK.out).mono ?_
    rintro e w1 ⟨rfl, hb1⟩
    have R' := Lib.hid (R.out w1 (below_trans' HB.out hb1))
    clear R hb1
    go_wp2_with fail
    go_ret2
    exact R'.out
  | true =>
    rw [ferr_ok hfi] at CK
    obtain ⟨has, hf⟩ : ∃ has, Wig.flds kn = some has := by
      obtain ⟨has, e, _⟩ := Wig.fine_parts hfi
      exact ⟨has, by rw [HKN.out]; exact e⟩
    have hf' : Wig.flds (Wig.knat f.kind) = some has := by rw [← HKN.out]; exact hf
    have hn8 := flds_len hf
    have h8 := (Wig.flds_lt hf).2
    have hlen := Wig.lay_take_len (f := f) (has := has) (fun k hk => Wig.layF_len hfi hf' hk)
    have hfits := Wig.fine_fits hfi hf'
    have hwk := (Wig.wkind_of hfi hf').2.2
    have hdl := Wig.fine_data hfi
    obtain ⟨n, hn⟩ : ∃ n, n = has.length := ⟨_, rfl⟩
    have H1 := Lib.hid (And.intro hn (And.intro h8 (And.intro hlen (And.intro hfits (And.intro hfi hf')))))
    have H2 := fun _ : Unit => And.intro hwk hdl
    have FO := Lib.hid fun (w1 : World) => fieldsOf_any kn w1
    unfold FieldsAt at FO
    rw [hf] at FO
    simp only [] at FO
    rw [← hn] at FO
    have hn8' : n ≤ 8 := by rw [hn]; exact hn8
    have hk := HK.out
    clear hfi hf hf' hn8 h8 hlen hfits hn hwk hdl
    go_enter Tryd.func7, Tryd.ntmps7
    go_wp2_with fail
    rw [← hwn]
    clear hwn
    refine (CK.out).mono ?_
    rintro e w1 ⟨rfl, hb1⟩
    have A1 := Lib.hid (HA.out.below hb1)
    have B1 := Lib.hid (below_trans' HB.out hb1)
    have N1 := Lib.hid hb1
    clear hb1 CK
    have k0 := A1.out.c0
    have k1 := A1.out.c1
    have k2 := A1.out.c2
    have k3 := A1.out.c3
    have k4 := A1.out.c4
    have k5 := A1.out.c5
    have k6 := A1.out.c6
    have k7 := A1.out.c7
    have k8 := A1.out.c8
    have k9 := A1.out.c9
    simp only [Nat.zero_add] at k0 k1 k2 k3 k4 k5 k6 k7 k8 k9
    go_wp2_with fail
    refine (FO.out _).mono ?_
    rintro e w2 ⟨A, rfl, hA, hb2, -⟩
    have A2 := Lib.hid (A1.out.below hb2)
    have B2 := Lib.hid (below_trans' B1.out hb2)
    have N2 := Lib.hid (below_trans' N1.out hb2)
    have R2 := Lib.hid hA
    clear hb2 hA k0 k1 k2 k3 k4 k5 k6 k7 k8 k9 FO
    have k0 := A2.out.c0
    have k1 := A2.out.c1
    have k2 := A2.out.c2
    have k3 := A2.out.c3
    have k4 := A2.out.c4
    have k5 := A2.out.c5
    have k6 := A2.out.c6
    have k7 := A2.out.c7
    have k8 := A2.out.c8
    have k9 := A2.out.c9
    simp only [Nat.zero_add] at k0 k1 k2 k3 k4 k5 k6 k7 k8 k9
    have WK := Lib.hid (writtenKind_any (.agg #[.int .i64 f.kind, .int .u64 (f.id : Int), .int .u64 (f.off : Int), .int .u64 (f.max : Int), .int .u64 (f.code : Int), .int .u64 (f.delay : Int), .int .u64 (f.ce : Int), .bool f.fin, .slice D f.data.length dc, .slice S f.spans.length sc]) f w2 w2.heap.size (Lies.fv (HL.out.step N2.out)))
    obtain ⟨wk, hwk⟩ : ∃ wk, wk = Wig.wkind f := ⟨_, rfl⟩
    rw [← hwk] at WK
    have HWK := Lib.hid hwk
    clear hwk
    go_wp2_with fail
    refine (WK.out).mono ?_
    rintro e w3 ⟨rfl, hb3⟩
    have A3 := Lib.hid (A2.out.below hb3)
    have B3 := Lib.hid (below_trans' B2.out hb3)
    have N3 := Lib.hid (below_trans' N2.out hb3)
    have R3 := Lib.hid (R2.out.step hb3)
    obtain ⟨base, hbase⟩ : ∃ base, base = w3.heap.size := ⟨_, rfl⟩
    have hb4 : Below w3.heap.size w3 (w3.alloc (.cells #[.int .u64 (wk : Int)] 22)) := (Below.refl _ _).alloc (Nat.le_refl _) _
    have SZ := Lib.hid (show w.heap.size < base ∧ base = w3.heap.size by refine ⟨?_, hbase⟩; have h1 := HS.out.1; have h2 := N3.out.size; omega)
    have LA := Lib.hid (lay_any (.slice none 0 0) (some ⟨w3.heap.size, 0, none⟩) 1 1 [] [wk] (w3.alloc (.cells #[.int .u64 (wk : Int)] 22)) base (nil_own _ _ _ _) rfl (lit_one w3 wk).2 (lit_one w3 wk).1 (by rw [hbase]; exact hb4.size) (by have := SZ.out; have := HS.out; omega) (by intro y hy; simp at hy; rw [hy, HWK.out]; have := (H2 ()).1; omega) (by simp) ((HT.out.1.below N3.out).below hb4))
    have hb4' : Below base w3 (w3.alloc (.cells #[.int .u64 (wk : Int)] 22)) := by rw [hbase]; exact hb4
    have B4 := Lib.hid hb4'
    clear hb3 k0 k1 k2 k3 k4 k5 k6 k7 k8 k9 WK hb4 hb4' hbase
    go_wp2_with fail
    refine (LA.out).mono ?_
    rintro e w5 ⟨v5, rfl, ho5, hb5, -⟩
    have A0 : EncRel f has base w3 v5 (.int .i64 0) w5 := ⟨0, Nat.zero_le _, rfl, by simpa [Wig.nums, HWK.out] using ho5, B4.out.trans hb5⟩
    have A0' := Lib.hid A0
    clear ho5 hb5 A0 LA B4
    go_wp2_with fail
    go_loopw [7, 28] (fun vo vi wr => EncRel f has base w3 vo vi wr) (fun _ vi _ => n - (intOf vi).toNat)
    case atStart => exact A0'.out
    case round =>
      obtain ⟨k, hk', rfl, hown, hbel⟩ := hrel
      rw [← H1.out.1] at hk'
      have KO := Lib.hid hown
      have KB := Lib.hid hbel
      clear A0'
      have hsz3 : base ≤ wr.heap.size := by have := hbel.size; have := SZ.out.2; omega
      have kb : Below w3.heap.size w3 wr := by have := hbel; rwa [SZ.out.2] at this
      by_cases hlt : k < n
      · obtain ⟨j, hj⟩ : ∃ j, has[k]? = some j := ⟨_, List.getElem?_eq_getElem (by have := H1.out.1; omega)⟩
        obtain ⟨ab, ao, rfl, hab, hcell⟩ := (R3.out.below kb).at_ hj
        have i0 : (0 : Int) ≤ (k : Int) := by omega
        have i1 : (k : Int) < (n : Int) := by omega
        have KA := A3.out.below kb
        have k0 := KA.c0
        have k1 := KA.c1
        have k2 := KA.c2
        have k3 := KA.c3
        have k4 := KA.c4
        have k5 := KA.c5
        have k6 := KA.c6
        have k7 := KA.c7
        have k8 := KA.c8
        have k9 := KA.c9
        simp only [Nat.zero_add] at k0 k1 k2 k3 k4 k5 k6 k7 k8 k9
        have hjm := List.mem_of_getElem? hj
        have hbl : (Wig.venc (Wig.wkind f) ++ (has.take k).flatMap (Wig.layF f)).length ≤ 100000 := by
          have h1 := H1.out.2.2.1 k
          have h2 := Wig.vsize_le (Wig.wkind f)
          rw [List.length_append, Wig.venc_length]
          omega
        have LF := Lib.hid (layField_any u7 (.agg #[.int .i64 f.kind, .int .u64 (f.id : Int), .int .u64 (f.off : Int), .int .u64 (f.max : Int), .int .u64 (f.code : Int), .int .u64 (f.delay : Int), .int .u64 (f.ce : Int), .bool f.fin, .slice D f.data.length dc, .slice S f.spans.length sc]) f j _ wr base (H1.out.2.1 j hjm) ⟨D, dc, S, sc, rfl, ((HL.out.step N3.out).wide (Nat.le_of_eq SZ.out.2.symm)).below hbel⟩ HO.out (H1.out.2.2.2.1 j hjm) hown hsz3 (by have := SZ.out; have := HS.out; omega) hbl (by have := (H2 ()).2; omega) ((HT.out.1.below N3.out).below kb))
        have HJ := Lib.hid hj
        clear hown hbel hsz3 kb hab KA hjm hbl hj hk'
        go_wp2_with fail
        refine (LF.out).mono ?_
        rintro e w6 ⟨v6, rfl, ho6, hb6⟩
        have R : EncRel f has base w3 v6 (.int .i64 ((k : Int) + 1)) w6 := ⟨k + 1, by have := H1.out.1; omega, rfl, by rw [Wig.lay_take HJ.out, ← List.append_assoc]; exact ho6, KB.out.trans hb6⟩
        have R' := Lib.hid R
        clear ho6 hb6 R
        go_wp2_with fail
        go_roundw
        case rel => exact R'.out
        case measure => simp [intOf]; omega
      · have t : decide (k < n) = false := decide_eq_false hlt
        have e : has.take k = has := List.take_of_length_le (by rw [← H1.out.1]; omega)
        rw [e] at hown
        have R := Lib.hid (encAt_ok (w := w) H1.out.2.2.2.2.1 H1.out.2.2.2.2.2 (B3.out.trans (hbel.mono (by have := SZ.out; omega))) (by have := SZ.out; omega) hown)
        clear hown hbel hsz3 kb e hlt hk' KO KB
        go_wp2_with fail
        go_ret2
        exact R.out
end Go.Proofs.YtogioabdijgglaaDoor
