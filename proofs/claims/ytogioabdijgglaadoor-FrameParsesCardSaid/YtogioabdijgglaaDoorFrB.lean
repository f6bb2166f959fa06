/-
  What package frame's Check returns. Condition: the table of fields that are numbers holds what its text lays.
-/
import Derived.Test.YtogioabdijgglaaDoorFrA
import Derived.Deep.RegionHeld3
import Derived.Deep.RegionWith
import Derived.Deep.DrawnRows
import Derived.Deep.CutRange
import Derived.Deep.DeepCutAuto
namespace Go.Proofs.YtogioabdijgglaaDoor
open Go.ChangeShapes Go.WideShapes Go.ChangeAt Go.RowKit Go.Deep
set_option linter.unusedVariables false
attribute [local go_sem ↓] Go.wp_at_zero Go.wp_at_succ

theorem held_ten {c0 c1 c2 c3 c4 c5 c6 c7 c8 c9 : Prop} {B : Nat} {w1 w' : World} (h : c0 ∧ c1 ∧ c2 ∧ c3 ∧ c4 ∧ c5 ∧ c6 ∧ c7 ∧ c8 ∧ c9 ∧ Below B w1 w') : Below B w1 w' := h.2.2.2.2.2.2.2.2.2.2
theorem at_ten {w1 w' : World} {b : Nat} {f : Wig.Fr} {D S : Option Addr} {dc sc : Nat} (h : At w1 b 0 f D dc S sc) (hw : b < w1.heap.size) (hb : Below w1.heap.size w1 w') :
    w'.cell? ⟨b, 0, none⟩ = some (.int .i64 f.kind) ∧ w'.cell? ⟨b, 1, none⟩ = some (.int .u64 (f.id : Int)) ∧ w'.cell? ⟨b, 2, none⟩ = some (.int .u64 (f.off : Int)) ∧ w'.cell? ⟨b, 3, none⟩ = some (.int .u64 (f.max : Int)) ∧ w'.cell? ⟨b, 4, none⟩ = some (.int .u64 (f.code : Int)) ∧ w'.cell? ⟨b, 5, none⟩ = some (.int .u64 (f.delay : Int)) ∧ w'.cell? ⟨b, 6, none⟩ = some (.int .u64 (f.ce : Int)) ∧ w'.cell? ⟨b, 7, none⟩ = some (.bool f.fin) ∧ w'.cell? ⟨b, 8, none⟩ = some (.slice D f.data.length dc) ∧ w'.cell? ⟨b, 9, none⟩ = some (.slice S f.spans.length sc) ∧ Below w1.heap.size w1 w' :=
  ⟨(hb.cell hw).trans h.c0, (hb.cell hw).trans h.c1, (hb.cell hw).trans h.c2, (hb.cell hw).trans h.c3, (hb.cell hw).trans h.c4, (hb.cell hw).trans h.c5, (hb.cell hw).trans h.c6, (hb.cell hw).trans h.c7, (hb.cell hw).trans h.c8, (hb.cell hw).trans h.c9, hb⟩
theorem At.below {w w' : World} {b o : Nat} {f : Wig.Fr} {D S : Option Addr} {dc sc : Nat} (h : At w b o f D dc S sc) (hb : Below w.heap.size w w') : At w' b o f D dc S sc := h.keeps fun j => hb.cell (World.block_lt_of_cell? w _ h.c0 : b < _)
theorem Lies.fv {w : World} {B : Nat} {f : Wig.Fr} {D S : Option Addr} {dc sc : Nat} (h : Lies w B f D dc S sc) : Fv w B (.agg #[.int .i64 f.kind, .int .u64 (f.id : Int), .int .u64 (f.off : Int), .int .u64 (f.max : Int), .int .u64 (f.code : Int), .int .u64 (f.delay : Int), .int .u64 (f.ce : Int), .bool f.fin, .slice D f.data.length dc, .slice S f.spans.length sc]) f := ⟨D, dc, S, sc, rfl, h⟩
theorem ferr_no {f : Wig.Fr} (h : Wig.fine f = false) : Wig.ferr f = 50 := by unfold Wig.ferr; rw [h]; rfl
theorem ferr_ok {f : Wig.Fr} (h : Wig.fine f = true) : Wig.ferr f = 0 := by unfold Wig.ferr; rw [h]; rfl
theorem fine_some {f : Wig.Fr} {has : List Nat} (h : Wig.flds (Wig.knat f.kind) = some has) : Wig.fine f = (Wig.numsFit f has && Wig.spansFit f.spans (has.contains 6) && Wig.dataFit f (has.contains 7)) := by
  unfold Wig.fine
  rw [h]
theorem fine_none {f : Wig.Fr} (h : Wig.flds (Wig.knat f.kind) = none) : Wig.fine f = false := by
  unfold Wig.fine
  rw [h]
theorem flds_len {k : Nat} {has : List Nat} (h : Wig.flds k = some has) : has.length ≤ 8 := by
  rcases Wig.flds_cases h with ⟨_, rfl⟩ | ⟨_, rfl⟩ | ⟨_, rfl⟩ | ⟨_, rfl⟩ | ⟨_, rfl⟩ | ⟨_, rfl⟩ | ⟨_, rfl⟩ | ⟨_, rfl⟩ | ⟨_, rfl⟩ | ⟨_, rfl⟩ | ⟨_, rfl⟩ | ⟨_, rfl⟩ | ⟨_, rfl⟩ | ⟨_, rfl⟩ | ⟨_, rfl⟩ <;> simp

set_option maxHeartbeats 4000000 in
theorem check_any (v : Value) (f : Wig.Fr) (w : World) (hv : Fv w w.heap.size v f) (ho : f.get 1 < 18446744073709551616) (hT : NTab w) :
    Calls Tryd.prog 9 #[v] w fun e w' => e = .returned (.int .i64 ((Wig.ferr f : Nat) : Int)) ∧ Below w.heap.size w w' := by
  obtain ⟨D, dc, S, sc, rfl, hl⟩ := hv
  have hat := at_box w f D dc S sc 26
  have hbel : Below w.heap.size w (w.alloc (.cells (farr f D dc S sc) 26)) := (Below.refl _ _).alloc (Nat.le_refl _) _
  obtain ⟨wn, hwn⟩ : ∃ wn, wn = w.alloc (.cells (farr f D dc S sc) 26) := ⟨_, rfl⟩
  rw [← hwn] at hat hbel
  have hsz : wn.heap.size = w.heap.size + 1 := by rw [hwn]; simp
  have hlw := (hl.step hbel)
  have hTw := hT.below hbel
  have hk : IntKind.u64.wrap f.kind = ((Wig.knat f.kind : Nat) : Int) := by rw [IntKind.wrap_u64]; unfold Wig.knat; omega
  have C0 := Lib.hid (fieldsOf_any (Wig.knat f.kind) wn)
  obtain ⟨kn, hkn⟩ : ∃ kn, kn = Wig.knat f.kind := ⟨_, rfl⟩
  rw [← hkn] at hk C0
  have hoff := ho
  have HO := fun _ : Unit => hoff
  have HB := Lib.hid hbel
  have HA := Lib.hid hat
  have HL := Lib.hid hlw
  have HT := Lib.hid hTw
  have HS := Lib.hid hsz
  unfold FieldsAt at C0
  simp only [farr] at hwn
  cases hf : Wig.flds kn with
  | none =>
    rw [hf] at C0
    have R := Lib.hid (ferr_no (fine_none (f := f) (by rw [← hkn]; exact hf)))
    clear hl hT ho hkn hoff hat hbel hlw hTw hsz hf
    simp only [farr]
    go_enter Tryd.func9, Tryd.ntmps9
    go_wp2_with fail
    rw [← hwn]
    clear hwn
    refine (C0.out).mono ?_
    rintro e w1 ⟨rfl, rfl⟩
    go_wp2_with fail
    go_ret
    exact ⟨by rw [R.out]; rfl, HB.out⟩
  | some has =>
    rw [hf] at C0
    have hfin := fine_some (f := f) (has := has) (by rw [← hkn]; exact hf)
    obtain ⟨n, hn⟩ : ∃ n, n = has.length := ⟨_, rfl⟩
    have hn8 : n ≤ 8 := by rw [hn]; exact flds_len hf
    have N8 := Lib.hid (And.intro hn hn8)
    have NF := Lib.hid fun (w1 : World) (A : Option Addr) (hr : RdN .i64 w1 w1.heap.size A has) (hb : Below wn.heap.size wn w1) => numbersFit_any (.agg #[.int .i64 f.kind, .int .u64 (f.id : Int), .int .u64 (f.off : Int), .int .u64 (f.max : Int), .int .u64 (f.code : Int), .int .u64 (f.delay : Int), .int .u64 (f.ce : Int), .bool f.fin, .slice D f.data.length dc, .slice S f.spans.length sc]) f A n n has w1.heap.size w1 (Lies.fv (HL.out.step hb)) hn hn8 hr (Nat.le_refl _) (HT.out.below hb)
    have SF := Lib.hid fun (w1 : World) (hb : Below wn.heap.size wn w1) => spansFit_any S f.spans.length sc f.spans (has.contains 6) w1 rfl (Nat.le_trans hl.sl hl.sm) (HL.out.step hb).sr
    have DF := Lib.hid fun (w1 : World) (hb : Below wn.heap.size wn w1) => dataFits_any (.agg #[.int .i64 f.kind, .int .u64 (f.id : Int), .int .u64 (f.off : Int), .int .u64 (f.max : Int), .int .u64 (f.code : Int), .int .u64 (f.delay : Int), .int .u64 (f.ce : Int), .bool f.fin, .slice D f.data.length dc, .slice S f.spans.length sc]) f (has.contains 7) w1 (Lies.fv (HL.out.step hb)) hoff
    have CO := Lib.hid fun (w1 : World) (A : Option Addr) (x : Nat) (hr : RdN .i64 w1 w1.heap.size A has) => contains_any A n n x has w1.heap.size w1 hn hn8 hr
    simp only [] at C0
    rw [← hn] at C0
    obtain ⟨h6, hh6⟩ : ∃ h6, h6 = has.contains 6 := ⟨_, rfl⟩
    obtain ⟨h7, hh7⟩ : ∃ h7, h7 = has.contains 7 := ⟨_, rfl⟩
    have CO6 := Lib.hid fun (w1 : World) (A : Option Addr) (hr : RdN .i64 w1 w1.heap.size A has) => CO.out w1 A 6 hr
    have CO7 := Lib.hid fun (w1 : World) (A : Option Addr) (hr : RdN .i64 w1 w1.heap.size A has) => CO.out w1 A 7 hr
    rw [← hh6] at CO6 SF
    rw [← hh7] at CO7 DF
    have hfin' : Wig.fine f = (Wig.numsFit f has && Wig.spansFit f.spans h6 && Wig.dataFit f h7) := by rw [hfin, hh6, hh7]
    clear hl hT ho hkn hoff hat hbel hlw hTw hsz hf hn hn8 hfin CO hh6 hh7
    simp only [farr]
    cases hnum : Wig.numsFit f has with
    | false =>
      rw [hnum, Bool.false_and, Bool.false_and] at hfin'
      rw [hnum] at NF
      have R := Lib.hid (ferr_no hfin')
      clear hfin' hnum
      go_enter Tryd.func9, Tryd.ntmps9
      go_wp2_with fail
      rw [← hwn]
      clear hwn
      refine (C0.out).mono ?_
      rintro e w1 ⟨A, rfl, hr, hb, -⟩
      have k := HA.out.below hb
      obtain ⟨k0, k1, k2, k3, k4, k5, k6, k7, k8, k9, -⟩ := at_ten k (by have := HS.out; have := hb.size; omega) (Below.refl w1.heap.size w1)
      have C1 := Lib.hid (NF.out w1 A hr hb)
      have B1 := Lib.hid (below_trans' HB.out hb)
      clear k hr hb
      go_wp2_with fail
      refine (C1.out).mono ?_
      rintro e w2 ⟨rfl, hb2⟩
      have B2 := Lib.hid (below_trans' B1.out hb2)
      clear hb2
      go_wp2_with fail
      go_ret
      exact ⟨by rw [R.out]; rfl, B2.out⟩
    | true =>
      rw [hnum, Bool.true_and] at hfin'
      rw [hnum] at NF
      cases hsp : Wig.spansFit f.spans h6 with
      | false =>
        rw [hsp, Bool.false_and] at hfin'
        rw [hsp] at SF
        have R := Lib.hid (ferr_no hfin')
        clear hfin' hnum hsp DF
        go_enter Tryd.func9, Tryd.ntmps9
        go_wp2_with fail
        rw [← hwn]
        clear hwn
        refine (C0.out).mono ?_
        rintro e w1 ⟨A, rfl, hr, hb, -⟩
        have k := HA.out.below hb
        have hlt : w.heap.size < w1.heap.size := by have := HS.out; have := hb.size; omega
        obtain ⟨k0, k1, k2, k3, k4, k5, k6, k7, k8, k9, -⟩ := at_ten k hlt (Below.refl w1.heap.size w1)
        have C1 := Lib.hid (NF.out w1 A hr hb)
        have B1 := Lib.hid hb
        have KA := Lib.hid k
        have HR := Lib.hid hr
        have LT := Lib.hid hlt
        clear k hr hb hlt
        go_wp2_with fail
        refine (C1.out).mono ?_
        rintro e w2 ⟨rfl, hb2⟩
        have B2 := Lib.hid (below_trans' B1.out hb2)
        have K2 := Lib.hid (KA.out.below hb2)
        have R2 := Lib.hid (HR.out.step hb2)
        have L2 := Lib.hid (show w.heap.size < w2.heap.size by have := LT.out; have := hb2.size; omega)
        clear hb2 k0 k1 k2 k3 k4 k5 k6 k7 k8 k9 C1
        go_wp2_with fail
        have k9 := (Below.refl w2.heap.size w2).drew.cell (p := ⟨w.heap.size, 9, none⟩) L2.out |>.trans K2.out.c9
        first | go_region_with (first
            | (go_at_call 25; refine (CO6.out _ A ?_).mono ?_; (exact R2.out.step (Below.refl _ _).drew); rintro e wa ⟨rfl, rfl⟩)
            | (go_at_call 24; refine (SF.out _ ?_).mono ?_; (exact below_trans' B2.out (Below.refl _ _).drew); rintro e wb ⟨rfl, hbb⟩; have hbn := below_trans' (a := w2) (Below.refl _ _).drew hbb; have kb9 := (hbn.cell L2.out).trans K2.out.c9; clear hbb)) | fail
        all_goals (go_wp2_with fail; go_ret; exact ⟨by rw [R.out]; rfl, below_trans' HB.out (below_trans' B2.out hbn)⟩)
      | true =>
        rw [hsp, Bool.true_and] at hfin'
        rw [hsp] at SF
        cases hdf : Wig.dataFit f h7 with
        | false =>
          rw [hdf] at DF hfin'
          have R := Lib.hid (ferr_no hfin')
          clear hfin' hnum hsp hdf
          go_enter Tryd.func9, Tryd.ntmps9
          go_wp2_with fail
          rw [← hwn]
          clear hwn
          refine (C0.out).mono ?_
          rintro e w1 ⟨A, rfl, hr, hb, -⟩
          have k := HA.out.below hb
          have hlt : w.heap.size < w1.heap.size := by have := HS.out; have := hb.size; omega
          obtain ⟨k0, k1, k2, k3, k4, k5, k6, k7, k8, k9, -⟩ := at_ten k hlt (Below.refl w1.heap.size w1)
          have C1 := Lib.hid (NF.out w1 A hr hb)
          have B1 := Lib.hid hb
          have KA := Lib.hid k
          have HR := Lib.hid hr
          have LT := Lib.hid hlt
          clear k hr hb hlt
          go_wp2_with fail
          refine (C1.out).mono ?_
          rintro e w2 ⟨rfl, hb2⟩
          have B2 := Lib.hid (below_trans' B1.out hb2)
          have K2 := Lib.hid (KA.out.below hb2)
          have R2 := Lib.hid (HR.out.step hb2)
          have L2 := Lib.hid (show w.heap.size < w2.heap.size by have := LT.out; have := hb2.size; omega)
          clear hb2 k0 k1 k2 k3 k4 k5 k6 k7 k8 k9 C1
          go_wp2_with fail
          go_region_held3 (fun w' => w'.cell? ⟨w.heap.size, 0, none⟩ = some (.int .i64 f.kind) ∧ w'.cell? ⟨w.heap.size, 1, none⟩ = some (.int .u64 (f.id : Int)) ∧ w'.cell? ⟨w.heap.size, 2, none⟩ = some (.int .u64 (f.off : Int)) ∧ w'.cell? ⟨w.heap.size, 3, none⟩ = some (.int .u64 (f.max : Int)) ∧ w'.cell? ⟨w.heap.size, 4, none⟩ = some (.int .u64 (f.code : Int)) ∧ w'.cell? ⟨w.heap.size, 5, none⟩ = some (.int .u64 (f.delay : Int)) ∧ w'.cell? ⟨w.heap.size, 6, none⟩ = some (.int .u64 (f.ce : Int)) ∧ w'.cell? ⟨w.heap.size, 7, none⟩ = some (.bool f.fin) ∧ w'.cell? ⟨w.heap.size, 8, none⟩ = some (.slice D f.data.length dc) ∧ w'.cell? ⟨w.heap.size, 9, none⟩ = some (.slice S f.spans.length sc) ∧ Below w2.heap.size w2 w')
            ((refine at_ten K2.out L2.out ?_; first | exact (Below.refl _ _).drew | assumption | exact below_drewN' (by assumption) _))
            (first
              | (go_at_call 25; refine (CO6.out _ A ?_).mono ?_; (exact R2.out.step (held_ten (by assumption))); rintro e wa ⟨rfl, rfl⟩)
              | (go_at_call 24; refine (SF.out _ ?_).mono ?_; (exact below_trans' B2.out (held_ten (by assumption))); rintro e wb ⟨rfl, hbb⟩; have hbn := below_trans' (a := w2) (held_ten (by assumption)) hbb; clear hbb)
              | (go_at_call 25; refine (CO7.out _ A ?_).mono ?_; (exact R2.out.step (held_ten (by assumption))); rintro e wc ⟨rfl, rfl⟩)
              | (go_at_call 26; refine (DF.out _ ?_).mono ?_; (exact below_trans' B2.out (held_ten (by assumption))); rintro e wd ⟨rfl, hbd⟩; have hbm := below_trans' (a := w2) (held_ten (by assumption)) hbd; clear hbd))
          go_wp2_with fail
          go_ret
          exact ⟨by rw [R.out]; rfl, below_trans' HB.out (below_trans' B2.out hbm)⟩
        | true =>
          rw [hdf] at DF hfin'
          have R := Lib.hid (ferr_ok hfin')
          clear hfin' hnum hsp hdf
          go_enter Tryd.func9, Tryd.ntmps9
          go_wp2_with fail
          rw [← hwn]
          clear hwn
          refine (C0.out).mono ?_
          rintro e w1 ⟨A, rfl, hr, hb, -⟩
          have k := HA.out.below hb
          have hlt : w.heap.size < w1.heap.size := by have := HS.out; have := hb.size; omega
          obtain ⟨k0, k1, k2, k3, k4, k5, k6, k7, k8, k9, -⟩ := at_ten k hlt (Below.refl w1.heap.size w1)
          have C1 := Lib.hid (NF.out w1 A hr hb)
          have B1 := Lib.hid hb
          have KA := Lib.hid k
          have HR := Lib.hid hr
          have LT := Lib.hid hlt
          clear k hr hb hlt
          go_wp2_with fail
          refine (C1.out).mono ?_
          rintro e w2 ⟨rfl, hb2⟩
          have B2 := Lib.hid (below_trans' B1.out hb2)
          have K2 := Lib.hid (KA.out.below hb2)
          have R2 := Lib.hid (HR.out.step hb2)
          have L2 := Lib.hid (show w.heap.size < w2.heap.size by have := LT.out; have := hb2.size; omega)
          clear hb2 k0 k1 k2 k3 k4 k5 k6 k7 k8 k9 C1
          go_wp2_with fail
          go_region_held3 (fun w' => w'.cell? ⟨w.heap.size, 0, none⟩ = some (.int .i64 f.kind) ∧ w'.cell? ⟨w.heap.size, 1, none⟩ = some (.int .u64 (f.id : Int)) ∧ w'.cell? ⟨w.heap.size, 2, none⟩ = some (.int .u64 (f.off : Int)) ∧ w'.cell? ⟨w.heap.size, 3, none⟩ = some (.int .u64 (f.max : Int)) ∧ w'.cell? ⟨w.heap.size, 4, none⟩ = some (.int .u64 (f.code : Int)) ∧ w'.cell? ⟨w.heap.size, 5, none⟩ = some (.int .u64 (f.delay : Int)) ∧ w'.cell? ⟨w.heap.size, 6, none⟩ = some (.int .u64 (f.ce : Int)) ∧ w'.cell? ⟨w.heap.size, 7, none⟩ = some (.bool f.fin) ∧ w'.cell? ⟨w.heap.size, 8, none⟩ = some (.slice D f.data.length dc) ∧ w'.cell? ⟨w.heap.size, 9, none⟩ = some (.slice S f.spans.length sc) ∧ Below w2.heap.size w2 w')
            ((refine at_ten K2.out L2.out ?_; first | exact (Below.refl _ _).drew | assumption | exact below_drewN' (by assumption) _))
            (first
              | (go_at_call 25; refine (CO6.out _ A ?_).mono ?_; (exact R2.out.step (held_ten (by assumption))); rintro e wa ⟨rfl, rfl⟩)
              | (go_at_call 24; refine (SF.out _ ?_).mono ?_; (exact below_trans' B2.out (held_ten (by assumption))); rintro e wb ⟨rfl, hbb⟩; have hbn := below_trans' (a := w2) (held_ten (by assumption)) hbb; clear hbb)
              | (go_at_call 25; refine (CO7.out _ A ?_).mono ?_; (exact R2.out.step (held_ten (by assumption))); rintro e wc ⟨rfl, rfl⟩)
              | (go_at_call 26; refine (DF.out _ ?_).mono ?_; (exact below_trans' B2.out (held_ten (by assumption))); rintro e wd ⟨rfl, hbd⟩; have hbm := below_trans' (a := w2) (held_ten (by assumption)) hbd; clear hbd))
          go_wp2_with fail
          go_ret
          exact ⟨by rw [R.out]; rfl, below_trans' HB.out (below_trans' B2.out hbm)⟩
end Go.Proofs.YtogioabdijgglaaDoor
