/-
  What the document's Put and Get return, for all numbers of 64 bits and all bytes: the same as the package's. Condition of neither.
-/
import Derived.Test.YtogioabdijgglaaDoorVarB
import Derived.Test.YtogioabdijgglaaDoorVarC
namespace Go.Proofs.YtogioabdijgglaaDoor
open Go.ChangeShapes Go.WideShapes Go.ChangeAt Go.RowKit Go.Deep
set_option linter.unusedVariables false

theorem be_take_more {s j v : Nat} (hj : j < s) : (Wig.be s v).take (j + 1) = (Wig.be s v).take j ++ [v / 256 ^ (s - 1 - j) % 256] := by
  rw [List.take_add_one, Wig.be_at s v j hj]
  rfl
/-- At a round's head: j bytes stand behind each other. -/
def RputRel (v s : Nat) (w : World) (o i : Value) (wr : World) : Prop :=
  ∃ j : Nat, j ≤ s ∧ i = .int .i64 ((s : Int) - 1 - (j : Int)) ∧ OwnN .u8 5 wr w.heap.size o ((Wig.be s v).take j) ∧ Below w.heap.size w wr
theorem cell_byte_new (w : World) (y : Nat) : ∀ j u, (ncells .u8 [y])[j]? = some u → (w.alloc (.cells #[.int .u8 (y : Int)] 5)).cell? ((⟨w.heap.size, 0, none⟩ : Addr).add j) = some u := by
  intro j u hj
  rw [add_plain, Nat.zero_add, World.cell?_alloc_at _ _ _ _ rfl]
  simpa [ncells] using hj
theorem rput_step {v s j y : Nat} {w wr : World} {o : Value} (h : OwnN .u8 5 wr w.heap.size o ((Wig.be s v).take j ++ [y])) (hb : Below w.heap.size w wr) (hj : j < s) (hy : y = v / 256 ^ (s - 1 - j) % 256) :
    RputRel v s w o (.int .i64 ((s : Int) - 1 - (j : Int) - 1)) wr := by
  refine ⟨j + 1, by omega, by congr 1; omega, ?_, hb⟩
  rw [be_take_more hj, ← hy]
  exact h
theorem rput_end {v n j g c x z : Nat} {w wr wz : World} (h : OwnN .u8 5 wr w.heap.size (.slice (some ⟨g, 0, none⟩) j c) (x :: Wig.be n v)) (hb : Below w.heap.size w wr) (hwz : wz = wr.setCell ⟨g, 0, none⟩ (.int .u8 (z : Int)))
    (hs : Wig.vsize v = n + 1) (hx : x = v / 256 ^ n % 256) (hz : z = x + Wig.vplace v * 64) (hj : j = n + 1) (hv : v < 4611686018427387904) :
    PutsAt v w (.returned (.tuple #[.slice (some ⟨g, 0, none⟩) j c, .int .i64 0])) wz := by
  subst hwz
  have e : Wig.venc v = z :: Wig.be n v := by rw [Wig.venc_cons hs, hz, hx]
  have hg := (OwnN.block h g rfl).1
  have h' := h.stored (by simp [Wig.be_length, hj]) 0 z
  rw [List.set_cons_zero] at h'
  obtain ⟨A, c', e1, hc1, hc2, hr, _⟩ := h'.rd
  injection e1 with e1 e2 e3
  subst e1 e3
  exact ⟨some ⟨g, 0, none⟩, j, c, by rw [Wig.verr_fits hv]; rfl, by rw [e]; simp [Wig.be_length, hj], by rw [e2]; exact hc1, hc2, by rw [e]; exact hr, fun h0 => (by rw [e] at h0; cases h0), hb.setCell hg _⟩
theorem rput_same {v n j g c x : Nat} {w wr : World} (h : OwnN .u8 5 wr w.heap.size (.slice (some ⟨g, 0, none⟩) j c) (x :: Wig.be n v)) (hb : Below w.heap.size w wr)
    (hs : Wig.vsize v = n + 1) (hx : x = v / 256 ^ n % 256) (hz : Wig.vplace v = 0) (hj : j = n + 1) (hv : v < 4611686018427387904) :
    PutsAt v w (.returned (.tuple #[.slice (some ⟨g, 0, none⟩) j c, .int .i64 0])) wr := by
  have e : Wig.venc v = x :: Wig.be n v := by rw [Wig.venc_cons hs, hz, hx]; simp
  obtain ⟨A, c', e1, hc1, hc2, hr, _⟩ := h.rd
  injection e1 with e1 e2 e3
  subst e1 e3
  exact ⟨some ⟨g, 0, none⟩, j, c, by rw [Wig.verr_fits hv]; rfl, by rw [e]; simp [Wig.be_length, hj], by rw [e2]; exact hc1, hc2, by rw [e]; exact hr, fun h0 => (by rw [e] at h0; cases h0), hb⟩

theorem own_whole {v n j x base : Nat} {w : World} {o : Value} (h : OwnN .u8 5 w base o ((Wig.be j v).take j)) (hj : j = n + 1) (hx : x = v / 256 ^ n % 256) : OwnN .u8 5 w base o (x :: Wig.be n v) := by
  rw [List.take_of_length_le (by rw [Wig.be_length]; exact Nat.le_refl _), hj] at h
  rw [hx]
  exact h

set_option maxHeartbeats 2000000 in
theorem rput_any (v : Nat) (w : World) (hv : v < 18446744073709551616) :
    Calls Tryd.prog 37 #[.int .u64 (v : Int)] w (PutsAt v w) := by
  obtain ⟨i0, hi, hz0, hz1, hz2⟩ := info_parts byte_info
  have C := Lib.hid (rsize_any v w)
  by_cases h : v < 4611686018427387904
  · obtain ⟨n, h1, h2, h3, h4, h5⟩ := Wig.vfits h
    obtain ⟨s, hs⟩ : ∃ s, s = n + 1 := ⟨_, rfl⟩
    rw [h1, ← hs] at C
    have t : ((s : Int) == 0) = false := by simp; omega
    have H := Lib.hid h
    have HV := Lib.hid h3
    have HS := Lib.hid h1
    have HP := Lib.hid h4
    have HS5 := Lib.hid (show s ≤ 8 by omega)
    have HSN := Lib.hid hs
    have HK := Lib.hid h2
    have s8 : s ≤ 8 := HS5.out
    have s1 : 0 < s := by omega
    clear h1 h3 h4 h hv hs h5 h2
    go_enter Tryd.func37, Tryd.ntmps37
    go_wp2_with fail
    refine (C.out).mono ?_
    rintro e w' ⟨rfl, rfl⟩
    go_wp2_with fail
    go_loopw [5, 6] (fun o i wr => RputRel v s w o i wr) (fun _ i _ => (intOf i + 1).toNat)
    case atStart => exact ⟨0, by omega, by simp, ⟨rfl, .inl ⟨rfl, rfl⟩⟩, Below.refl _ _⟩
    case round =>
      obtain ⟨j, hj, rfl, hown, hbel⟩ := hrel
      have KO := Lib.hid hown
      have KB := Lib.hid hbel
      clear hown hbel
      by_cases hlt : j < s
      · obtain ⟨p, hp⟩ : ∃ p, p = s - 1 - j := ⟨_, rfl⟩
        have e1 : (s : Int) - 1 - (j : Int) = (p : Int) := by omega
        have p8 : p < 8 := by omega
        have ob := byte_out v p p8
        obtain ⟨y, hy⟩ : ∃ y, y = v / 256 ^ p % 256 := ⟨_, rfl⟩
        rw [← hy, show min ((8 * (p : Int)).toNat) 64 = 8 * p by omega, IntKind.wrap_u8] at ob
        have y8 : IntKind.u64.wrap (8 * (p : Int)) = 8 * (p : Int) := by rw [IntKind.wrap_u64]; omega
        have R := Lib.hid (fun o wz hO hB => rput_step (v := v) (s := s) (j := j) (y := y) (w := w) (wr := wz) (o := o) hO hB hlt (by rw [hy, hp]))
        rw [e1] at R ⊢
        have hsz := KB.out.size
        have hlen : ((Wig.be s v).take j).length = j := by rw [List.length_take, Wig.be_length]; omega
        have HL := Lib.hid hlen
        clear hy hp e1 hlen
        go_wp2_with (at_builtin; refine wpList_append_own _ rfl _ _ 23 rfl w.heap.size 5 i0 (.int .u8 0) 1 1 Tryd.underlying23 hi hz0 hz1 hz2 rfl (by decide) _ _ _ rfl (World.ownsRow.alloc KO.out _) ⟨wr.heap.size, 0, none⟩ 1 1 (ncells .u8 [y]) rfl rfl ?c1 ?c2 ?c3 ?c4 ?c5 ?_)
        case c1 => exact cell_byte_new wr y
        case c2 => exact ncells_one .u8 [y]
        case c3 => have := HL.out; unfold maxLen; omega
        case c4 => have := HL.out; omega
        case c5 => simp; omega
        intro o' w3 hown' hgrow _
        have RO : OwnN .u8 5 w3 w.heap.size o' ((Wig.be s v).take j ++ [y]) := by
          unfold OwnN
          rw [ncells_app, List.length_append, List.length_take]
          exact hown'
        have R1 := Lib.hid (R.out o' w3 RO ((KB.out.alloc hsz (.cells #[.int .u8 (y : Int)] 5)).grown hgrow (by simp; omega) (fun q hq => (KO.out.block q hq).1)))
        clear hown' hgrow RO
        go_wp2_with fail
        go_roundw
        case rel => exact R1.out
        case measure => simp [intOf]
      · obtain rfl : j = s := by omega
        obtain ⟨x, hx⟩ : ∃ x, x = v / 256 ^ n % 256 := ⟨_, rfl⟩
        have x64 : x < 64 := by rw [hx, Nat.mod_eq_of_lt (by have := Wig.div_small HV.out; omega)]; exact Wig.div_small HV.out
        have own := own_whole KO.out HSN.out hx
        obtain ⟨A, c, ho, _, _, _, hA⟩ := own.rd
        rcases hA with hA | ⟨g, rfl, _⟩
        · cases hA
        rw [show (x :: Wig.be n v).length = j by simp [Wig.be_length, HSN.out]] at ho
        subst ho
        obtain ⟨cu, hcu, hcx⟩ := own.cell_some (j := 0) rfl (by simp)
        obtain rfl : x = cu := by simpa using hcx
        have hfz := own.frozen_no 0
        have tneg : decide ((0 : Int) ≤ (j : Int) - 1 - (j : Int)) = false := decide_eq_false (by omega)
        have HX := Lib.hid hx
        have HO := Lib.hid own
        have HX64 := Lib.hid x64
        clear hx own hcx hlt hj x64 KO
        have hc : (Wig.vplace v = 0 ∧ j = 1) ∨ (Wig.vplace v = 1 ∧ j = 2) ∨ (Wig.vplace v = 2 ∧ j = 4) ∨ (Wig.vplace v = 3 ∧ j = 8) := by
          have h1 := HK.out
          have h2 := HP.out
          have h3 := HSN.out
          have : Wig.vplace v = 0 ∨ Wig.vplace v = 1 ∨ Wig.vplace v = 2 ∨ Wig.vplace v = 3 := by omega
          rcases this with e | e | e | e <;> rw [e] at h2 <;> simp [Wig.vsz] at h2 <;> omega
        rcases hc with ⟨hp, rfl⟩ | ⟨hp, rfl⟩ | ⟨hp, rfl⟩ | ⟨hp, rfl⟩
        · have F := Lib.hid (rput_same HO.out KB.out HS.out HX.out hp HSN.out H.out)
          clear hp tneg
          go_wp2_with fail
          go_ret2
          exact F.out
        · obtain ⟨z, hz⟩ : ∃ z, z = x + 64 := ⟨_, rfl⟩
          have w8 : IntKind.u8.wrap ((x : Int) + 64) = (z : Int) := by rw [IntKind.wrap_u8]; have := HX64.out; omega
          have F := Lib.hid (rput_end (z := z) HO.out KB.out rfl HS.out HX.out (by rw [hz, hp]) HSN.out H.out)
          clear hp hz tneg
          go_wp2_with fail
          go_ret2
          exact F.out
        · obtain ⟨z, hz⟩ : ∃ z, z = x + 128 := ⟨_, rfl⟩
          have w8 : IntKind.u8.wrap ((x : Int) + 128) = (z : Int) := by rw [IntKind.wrap_u8]; have := HX64.out; omega
          have F := Lib.hid (rput_end (z := z) HO.out KB.out rfl HS.out HX.out (by rw [hz, hp]) HSN.out H.out)
          clear hp hz tneg
          go_wp2_with fail
          go_ret2
          exact F.out
        · obtain ⟨z, hz⟩ : ∃ z, z = x + 192 := ⟨_, rfl⟩
          have w8 : IntKind.u8.wrap ((x : Int) + 192) = (z : Int) := by rw [IntKind.wrap_u8]; have := HX64.out; omega
          have F := Lib.hid (rput_end (z := z) HO.out KB.out rfl HS.out HX.out (by rw [hz, hp]) HSN.out H.out)
          clear hp hz tneg
          go_wp2_with fail
          go_ret2
          exact F.out
  · have R1 := Lib.hid (Wig.verr_great (v := v) (by omega))
    have R2 := Lib.hid (Wig.venc_great (v := v) (by omega))
    rw [Wig.vsize_great (v := v) (by omega)] at C
    clear h hv
    go_enter Tryd.func37, Tryd.ntmps37
    go_wp2_with fail
    refine (C.out).mono ?_
    rintro e w' ⟨rfl, rfl⟩
    go_wp2_with fail
    go_ret2
    exact ⟨none, 0, 0, by rw [R1.out]; rfl, by rw [R2.out]; rfl, by simp, by simp, by rw [R2.out]; exact RdN.empty, fun _ => rfl, Below.refl _ _⟩
end Go.Proofs.YtogioabdijgglaaDoor
