/-
  What the document's Encode of layer 5 returns. No condition.
-/
import Derived.Test.YthgblgdmcjeaiaaDoorRen
import Derived.Deep.RegionHeld3
import Derived.Deep.DrawnRows
namespace Go.Proofs.YthgblgdmcjeaiaaDoor
open Go.ChangeShapes Go.WideShapes Go.ChangeAt Go.RowKit Go.Deep
set_option linter.unusedVariables false

set_option maxHeartbeats 4000000 in
set_option maxRecDepth 100000 in
theorem rencode_any (v : Value) (f : Wig.Fr) (w : World) (hv : Fv w w.heap.size v f) (ho : f.Ok) :
    Calls Tryd.prog 8 #[v] w (EncAt f w) := by
  obtain ⟨D, dc, S, sc, rfl, hl⟩ := hv
  have hat := at_box w f D dc S sc 26
  have hbel : Below w.heap.size w (w.alloc (.cells (farr f D dc S sc) 26)) := (Below.refl _ _).alloc (Nat.le_refl _) _
  obtain ⟨wn, hwn⟩ : ∃ wn, wn = w.alloc (.cells (farr f D dc S sc) 26) := ⟨_, rfl⟩
  rw [← hwn] at hat hbel
  have hsz : wn.heap.size = w.heap.size + 1 := by rw [hwn]; simp
  have HB := Lib.hid hbel
  have HA := Lib.hid hat
  have HL := Lib.hid (hl.step hbel)
  have HS := Lib.hid hsz
  have HO := Lib.hid ho
  have CK := Lib.hid (rcheck_any (.agg #[.int .i64 f.kind, .int .u64 (f.id : Int), .int .u64 (f.off : Int), .int .u64 (f.max : Int), .int .u64 (f.code : Int), .int .u64 (f.delay : Int), .int .u64 (f.ce : Int), .bool f.fin, .slice D f.data.length dc, .slice S f.spans.length sc]) f wn (Lies.fv HL.out) ho)
  clear hat hbel hl hsz ho
  simp only [farr] at hwn ⊢
  cases hfi : Wig.fine f with
  | false =>
    rw [ferr_no hfi] at CK
    have R := Lib.hid fun w' hb => encAt_no (w := w) (w' := w') hfi hb
    clear hfi
    go_enter Tryd.func8, Tryd.ntmps8
    go_wp2_with fail
    rw [← hwn]
    clear hwn
    refine (CK.out).mono ?_
    rintro e w1 ⟨rfl, hb1⟩
    have R' := Lib.hid (R.out w1 (below_trans' HB.out hb1))
    clear R hb1
    go_wp2_with fail
    go_ret2
    exact R'.out
  | true =>
    rw [ferr_ok hfi] at CK
    have HF := Lib.hid hfi
    have hfit := Wig.rlaid_fit hfi
    have hdl := Wig.fine_data hfi
    have HN := Lib.hid (And.intro hfit hdl)
    have CL := Lib.hid (fun (w' : World) (hb : Below wn.heap.size wn w') => (rlaid_any (.agg #[.int .i64 f.kind, .int .u64 (f.id : Int), .int .u64 (f.off : Int), .int .u64 (f.max : Int), .int .u64 (f.code : Int), .int .u64 (f.delay : Int), .int .u64 (f.ce : Int), .bool f.fin, .slice D f.data.length dc, .slice S f.spans.length sc]) f w' (Lies.fv (HL.out.step hb)) HO.out hfi))
    have CN := Lib.hid (fun (w' : World) A n c hn hr => rnumbers_any A n c (Wig.rlaid f) w' hn (by rw [hn]; exact hfit.1) hfit.2 hr)
    clear hfi hfit hdl
    go_enter Tryd.func8, Tryd.ntmps8
    go_wp2_with fail
    rw [← hwn]
    clear hwn
    refine (CK.out).mono ?_
    rintro e w1 ⟨rfl, hb1⟩
    have KA := Lib.hid (HA.out.below hb1)
    have LT := Lib.hid (show w.heap.size < w1.heap.size by have := HS.out; have := hb1.size; omega)
    have B1 := Lib.hid hb1
    clear hb1 CK
    go_wp2_with fail
    go_region_held3 (fun w' => w'.cell? ⟨w.heap.size, 0, none⟩ = some (.int .i64 f.kind) ∧ w'.cell? ⟨w.heap.size, 1, none⟩ = some (.int .u64 (f.id : Int)) ∧ w'.cell? ⟨w.heap.size, 2, none⟩ = some (.int .u64 (f.off : Int)) ∧ w'.cell? ⟨w.heap.size, 3, none⟩ = some (.int .u64 (f.max : Int)) ∧ w'.cell? ⟨w.heap.size, 4, none⟩ = some (.int .u64 (f.code : Int)) ∧ w'.cell? ⟨w.heap.size, 5, none⟩ = some (.int .u64 (f.delay : Int)) ∧ w'.cell? ⟨w.heap.size, 6, none⟩ = some (.int .u64 (f.ce : Int)) ∧ w'.cell? ⟨w.heap.size, 7, none⟩ = some (.bool f.fin) ∧ w'.cell? ⟨w.heap.size, 8, none⟩ = some (.slice D f.data.length dc) ∧ w'.cell? ⟨w.heap.size, 9, none⟩ = some (.slice S f.spans.length sc) ∧ Below w1.heap.size w1 w')
      ((refine at_ten KA.out LT.out ?_; first | exact (Below.refl _ _).drew | assumption | exact below_drewN' (by assumption) _ | fail))
      (first
        | (go_at_call 22; refine (CL.out _ ?_).mono ?_; (exact below_trans' B1.out (held_ten (by assumption))); rintro e wa ⟨va, rfl, ha, hba⟩; obtain ⟨Aa, ca, rfl, -, -, ra, -⟩ := ha.rd; have RA := Lib.hid ra; have hbn := below_trans' (a := w1) (held_ten (by assumption)) hba; clear ha hba ra)
        | (go_at_call 21; refine (CN.out _ _ _ _ rfl RA.out).mono ?_; rintro e wb ⟨vb, rfl, hvb, hbb⟩; have OB := Lib.hid (hvb.base_le (base' := w1.heap.size) (held_ten (by assumption)).size); have hbm := below_trans' (a := w1) (held_ten (by assumption)) hbb; have BM := Lib.hid hbm; clear hvb hbb)
        | (refine step_append_bytes (by rfl) _ _ (by rfl) w1.heap.size _ _ f.data (by rfl) OB.out wn.heap.size D dc _ rfl (by rfl) (HL.out.dr.below (below_trans' B1.out BM.out)) ?_ ?_ ?_; (have h1 := HN.out; have h2 := Wig.nums_le (Wig.rlaid f); omega); (exact BM.out.size); intro v4 w4 hown4 hgr4; have hbp := BM.out.grown hgr4 BM.out.size (fun q hq => (OB.out.block q hq).1); have O4 := Lib.hid hown4; clear hown4 hgr4)
        | fail)
    have R := Lib.hid (show EncAt f w (.returned (.tuple #[v4, .int .i64 0])) w4 from by
      have e := Wig.fenc_laid HF.out
      obtain ⟨A, n, c, e1, e2, e3, e4, e5, e6⟩ := (O4.out.base_le (base' := w.heap.size) (by have := LT.out; omega)).has
      refine ⟨v4, by rw [ferr_ok HF.out]; rfl, ?_, below_trans' HB.out (below_trans' B1.out hbp)⟩
      rw [e]
      exact ⟨A, n, c, e1, e2, e3, e4, e5, e6⟩)
    go_wp2_with fail
    go_ret2
    exact R.out
end Go.Proofs.YthgblgdmcjeaiaaDoor
