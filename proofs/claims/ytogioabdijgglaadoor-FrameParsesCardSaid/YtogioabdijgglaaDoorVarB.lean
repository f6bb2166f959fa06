/-
  What package varint's Put returns, for all numbers of 64 bits: the bytes that the document gives, in memory of its own, or the error. Condition: the table of sizes holds what its text lays.
-/
import Derived.Test.YtogioabdijgglaaDoorVarA
import Derived.Test.YtogioabdijgglaaDoorBit
namespace Go.Proofs.YtogioabdijgglaaDoor
open Go.ChangeShapes Go.WideShapes Go.ChangeAt Go.RowKit Go.Deep
set_option linter.unusedVariables false

theorem byte_info : (Tryd.prog.info? 5).map (fun i => (i.zero, i.size, i.bytes)) = some (some (.int .u8 0), 1, 1) := by kernel_rfl

/-- What Put and the document's Put return: bytes in memory of the call's own, or none and the error. -/
def PutsAt (v : Nat) (w : World) (e : Ending) (w' : World) : Prop :=
  ∃ A n c, e = .returned (.tuple #[.slice A n c, .int .i64 ((Wig.verr v : Nat) : Int)]) ∧ n = (Wig.venc v).length ∧ n ≤ c ∧ c ≤ maxLen ∧ RdN .u8 w' w'.heap.size A (Wig.venc v) ∧ (Wig.venc v = [] → A = none) ∧ Below w.heap.size w w'

theorem zero_bytes (v s : Nat) : (madeCells #[Value.int .u8 0] s).toList = ncells .u8 (List.replicate (s - 0) 0 ++ Wig.be 0 v) := by
  rw [toList_madeCells_one]
  simp [ncells, Wig.be]
theorem own_zero {v s base : Nat} {w : World} {t : TypeId} {u : Value} (h : w.ownsRow base t 1 u s (madeCells #[Value.int .u8 0] s).toList) : OwnN .u8 t w base u (List.replicate (s - 0) 0 ++ Wig.be 0 v) := by
  unfold OwnN
  rw [← zero_bytes]
  simpa [Wig.be] using h
/-- At a round's head: j bytes are laid, the others are 0. -/
def PutRel (v s : Nat) (w : World) (i : Value) (wr : World) : Prop :=
  ∃ j : Nat, j ≤ s ∧ i = .int .i64 (j : Int) ∧ OwnN .u8 5 wr w.heap.size (.slice (some ⟨w.heap.size, 0, none⟩) s s) (List.replicate (s - j) 0 ++ Wig.be j v) ∧ Below w.heap.size w wr
theorem OwnN.cell_some {k : IntKind} {t : TypeId} {w : World} {base g n c : Nat} {xs : List Nat} (h : OwnN k t w base (.slice (some ⟨g, 0, none⟩) n c) xs) {j : Nat} (hn : n = n) (hj : j < xs.length) :
    ∃ x : Nat, w.cell? ⟨g, j, none⟩ = some (.int k (x : Int)) ∧ xs[j]? = some x := by
  obtain ⟨x, hx⟩ : ∃ x, xs[j]? = some x := ⟨_, List.getElem?_eq_getElem hj⟩
  obtain ⟨A, c', e, _, _, hr, hc⟩ := h.rd
  injection e with e1
  subst e1
  obtain ⟨b, off, e, _, hcell⟩ := hr (by intro e; subst e; simp at hj)
  injection e with e
  injection e with e1 e2
  subst e1 e2
  have := hcell j x hx
  rw [Nat.zero_add] at this
  exact ⟨x, this, hx⟩
theorem OwnN.frozen_no {k : IntKind} {t : TypeId} {w : World} {base g n c : Nat} {xs : List Nat} (h : OwnN k t w base (.slice (some ⟨g, 0, none⟩) n c) xs) (j : Nat) : w.frozen? ⟨g, j, none⟩ = false := by
  obtain ⟨A, c', e, _⟩ := h.rd
  injection e with e1 e2 e3
  subst e2
  exact World.ownsRow.frozenAt h j
theorem put_step {v s j p y : Nat} {w wr : World} (h : OwnN .u8 5 wr w.heap.size (.slice (some ⟨w.heap.size, 0, none⟩) s s) (List.replicate (s - j) 0 ++ Wig.be j v)) (hb : Below w.heap.size w wr)
    (hy : y = v / 256 ^ j % 256) (hp : p = s - 1 - j) (hj : j < s) : PutRel v s w (.int .i64 ((j + 1 : Nat) : Int)) (wr.setCell ⟨w.heap.size, p, none⟩ (.int .u8 (y : Int))) := by
  have e : (List.replicate (s - j) 0 ++ Wig.be j v).set p y = List.replicate (s - (j + 1)) 0 ++ Wig.be (j + 1) v := by
    rw [show s - j = (s - (j + 1)) + 1 by omega, List.replicate_succ', List.append_assoc, hp, List.set_append, if_neg (by rw [List.length_replicate]; omega)]
    congr 1
    simp only [List.length_replicate, show s - 1 - j - (s - (j + 1)) = 0 by omega, List.cons_append, List.nil_append, List.set_cons_zero]
    rw [Wig.be, hy]
  refine ⟨j + 1, by omega, rfl, ?_, hb.setCell (Nat.le_refl _) _⟩
  rw [← e]
  exact h.stored (by simp [Wig.be_length]; omega) p y

theorem top_or {x k : Nat} (hx : x < 64) (hk : k < 4) : bits .or .u8 (x : Int) ((k * 64 : Nat) : Int) = ((x + k * 64 : Nat) : Int) := by
  rw [bits_or_u8_nat _ _ (by omega) (by omega), Nat.or_comm]
  have := or_high (a := k) (b := x) (s := 6) (by omega)
  rw [show (2 : Nat) ^ 6 = 64 from rfl] at this
  rw [this, Nat.add_comm]
theorem put_end {v n k j x z : Nat} {w wr : World} (h : OwnN .u8 5 wr w.heap.size (.slice (some ⟨w.heap.size, 0, none⟩) j j) (x :: Wig.be n v)) (hb : Below w.heap.size w wr)
    (hs : Wig.vsize v = n + 1) (hx : x = v / 256 ^ n % 256) (hz : z = x + Wig.vplace v * 64) (hj : j = n + 1) (hv : v < 64 * 256 ^ n) (hk : k = Wig.vplace v) (hk4 : k < 4) (h8 : j ≤ 8) :
    PutsAt v w (.returned (.tuple #[.slice (some ⟨w.heap.size, 0, none⟩) j j, .int .i64 0])) (wr.setCell ⟨w.heap.size, 0, none⟩ (.int .u8 (z : Int))) := by
  have e : Wig.venc v = z :: Wig.be n v := by rw [Wig.venc_cons hs, hz, hx]
  have h' := h.stored (by simp [Wig.be_length, hj]) 0 z
  rw [List.set_cons_zero] at h'
  obtain ⟨A, c, e1, _, _, hr, _⟩ := h'.rd
  injection e1 with e1 e2 e3
  subst e1
  have el : Wig.verr v = 0 := by unfold Wig.verr; rw [if_neg (by omega)]
  refine ⟨some ⟨w.heap.size, 0, none⟩, j, j, by rw [el]; rfl, by rw [e]; simp [Wig.be_length, hj], Nat.le_refl _, by simp only [maxLen]; omega, by rw [e]; exact hr, fun h0 => (by rw [e] at h0; cases h0), hb.setCell (Nat.le_refl _) _⟩

set_option maxHeartbeats 1000000 in
theorem put_any (v : Nat) (w : World) (hv : v < 18446744073709551616) (hT : Tab w) :
    Calls Tryd.prog 34 #[.int .u64 (v : Int)] w (PutsAt v w) := by
  obtain ⟨i0, hi, hz0, hz1, hz2⟩ := info_parts byte_info
  have C := Lib.hid (placeOf_any v w hT)
  by_cases h : v < 4611686018427387904
  · obtain ⟨n, h1, h2, h3, h4, h5⟩ := Wig.vfits h
    have hc := hT.at_ _ h2
    obtain ⟨k, hk⟩ : ∃ k, k = Wig.vplace v := ⟨_, rfl⟩
    rw [h4] at hc
    rw [← hk] at C hc h2
    have t : ((k : Int) == 4) = false := by simp; omega
    have b0 : (0 : Int) ≤ (k : Int) := by omega
    have b1 : (k : Int) < 4 := by omega
    have HK := Lib.hid hk
    have HV := Lib.hid h3
    have HS := Lib.hid h1
    obtain ⟨s, hs⟩ : ∃ s, s = n + 1 := ⟨_, rfl⟩
    rw [← hs] at hc
    clear hk h1 h3 h4 hT h hv
    go_enter Tryd.func34, Tryd.ntmps34
    go_wp2_with fail
    refine (C.out).mono ?_
    rintro e w' ⟨rfl, rfl⟩
    have HS5 := Lib.hid (show s ≤ 8 by omega)
    have HSN := Lib.hid hs
    clear hs h5
    go_wp2_with (at_make; refine wpList_make_full _ rfl _ _ 23 rfl w.heap.size 5 i0 _ 1 Tryd.underlying23 hi hz0 hz1 _ _ _ _ s rfl rfl rfl rfl (by rw [hz2]; have := HS5.out; omega) (by have := HS5.out; simp only [maxLen]; omega) (Nat.le_refl _) ?_)
    intro w1 hown hg
    have HO := Lib.hid hown
    have HB := Lib.hid ((Below.refl w.heap.size w).grown hg (Nat.le_refl _) (fun _ h => by cases h))
    clear hown hg
    go_wp2_with fail
    go_loopw [18] (fun i wr => PutRel v s w i wr) (fun i _ => s - (intOf i).toNat)
    case atStart => exact ⟨0, by omega, rfl, own_zero HO.out, HB.out⟩
    case round =>
      obtain ⟨j, hj, rfl, hown, hbel⟩ := hrel
      have KO := Lib.hid hown
      have KB := Lib.hid hbel
      clear hown hbel
      by_cases hlt : j < s
      · obtain ⟨p, hp⟩ : ∃ p, p = s - 1 - j := ⟨_, rfl⟩
        have j8 : j < 8 := by have := HS5.out; omega
        have s8 : s ≤ 8 := HS5.out
        have e1 : (s : Int) - 1 - (j : Int) = (p : Int) := by omega
        have p0 : (0 : Int) ≤ (p : Int) := by omega
        have p1 : (p : Int) < (s : Int) := by omega
        have ob := byte_out v j j8
        obtain ⟨y, hy⟩ : ∃ y, y = v / 256 ^ j % 256 := ⟨_, rfl⟩
        rw [← hy, show min ((8 * (j : Int)).toNat) 64 = 8 * j by omega, IntKind.wrap_u8] at ob
        obtain ⟨cu, hcu, -⟩ := KO.out.cell_some (j := p) rfl (by simp [Wig.be_length]; omega)
        have hfz := KO.out.frozen_no p
        have R := Lib.hid (put_step KO.out KB.out hy hp hlt)
        clear hy hp
        go_wp2_with fail
        go_roundw
        case rel => exact R.out
        case measure => simp [intOf]; omega
      · obtain rfl : j = s := by omega
        obtain ⟨x, hx⟩ : ∃ x, x = v / 256 ^ n % 256 := ⟨_, rfl⟩
        have x64 : x < 64 := by rw [hx, Nat.mod_eq_of_lt (by have := Wig.div_small HV.out; omega)]; exact Wig.div_small HV.out
        have own : OwnN .u8 5 wr w.heap.size (.slice (some ⟨w.heap.size, 0, none⟩) j j) (x :: Wig.be n v) := by
          have := KO.out
          rw [Nat.sub_self, List.replicate_zero, List.nil_append] at this
          rw [hx]
          have e : Wig.be j v = v / 256 ^ n % 256 :: Wig.be n v := by rw [HSN.out]; rfl
          rwa [e] at this
        obtain ⟨cu, hcu, hcx⟩ := own.cell_some (j := 0) rfl (by simp)
        obtain rfl : x = cu := by simpa using hcx
        have hfz := own.frozen_no 0
        obtain ⟨q, hq⟩ : ∃ q, q = k * 64 := ⟨_, rfl⟩
        obtain ⟨z, hz⟩ : ∃ z, z = x + q := ⟨_, rfl⟩
        have w8 : IntKind.u8.wrap ((k : Int) * 64) = (q : Int) := by rw [IntKind.wrap_u8]; omega
        have bo : bits .or .u8 (x : Int) (q : Int) = (z : Int) := by rw [hz, hq]; exact top_or x64 h2
        have i1 : (0 : Int) < (j : Int) := by have := HSN.out; omega
        have F := Lib.hid (put_end (z := z) own KB.out HS.out hx (by rw [hz, hq, HK.out]) (by rw [HSN.out]) HV.out HK.out h2 HS5.out)
        clear hx x64 own hcx hq hz hlt hj
        go_wp2_with fail
        go_ret2
        exact F.out
  · have e4 : Wig.vplace v = 4 := by have := Wig.vplace_cases v; omega
    rw [e4] at C
    have R1 := Lib.hid (Wig.verr_great (v := v) (by omega))
    have R2 := Lib.hid (Wig.venc_great (v := v) (by omega))
    clear e4 h hv hT
    go_enter Tryd.func34, Tryd.ntmps34
    go_wp2_with fail
    refine (C.out).mono ?_
    rintro e w' ⟨rfl, rfl⟩
    go_wp2_with fail
    go_ret2
    exact ⟨none, 0, 0, by rw [R1.out]; rfl, by rw [R2.out]; rfl, by simp, by simp, by rw [R2.out]; exact RdN.empty, fun _ => rfl, Below.refl _ _⟩
end Go.Proofs.YtogioabdijgglaaDoor
