/-
  What package ledger's part, first, Take and Lost return: new lists of the call's own. Conditions: the lists read as packets of 64 bits, as spans; they are not too long.
-/
import Derived.Test.YthdhcppgpnnccaaLedA
namespace Go.Proofs.Ythdhcppgpnnccaa
open Go.ChangeShapes Go.WideShapes Go.ChangeAt Go.RowKit Go.Deep
set_option linter.unusedVariables false

theorem filt_hit {g : Wig.Snt → Bool} {l : List Wig.Snt} {k : Nat} {x : Wig.Snt} (h : l[k]? = some x) (hg : g x = true) : (l.take (k + 1)).filter g = (l.take k).filter g ++ [x] ∧ ((l.take (k + 1)).filter fun x => !g x) = (l.take k).filter fun x => !g x :=
  ⟨Wig.filter_take_yes h hg, Wig.filter_take_no h (by simp [hg])⟩
theorem filt_miss {g : Wig.Snt → Bool} {l : List Wig.Snt} {k : Nat} {x : Wig.Snt} (h : l[k]? = some x) (hg : g x = false) : (l.take (k + 1)).filter g = (l.take k).filter g ∧ ((l.take (k + 1)).filter fun x => !g x) = ((l.take k).filter fun x => !g x) ++ [x] :=
  ⟨Wig.filter_take_no h hg, Wig.filter_take_yes h (by simp [hg])⟩
theorem filt_len (g : Wig.Snt → Bool) (l : List Wig.Snt) (k : Nat) : ((l.take k).filter g).length ≤ k := Nat.le_trans (List.length_filter_le _ _) (List.length_take_le _ _)

set_option maxHeartbeats 2000000 in
theorem partT_any (g : Wig.Snt → Bool) (l : List Wig.Snt) (A : Option Addr) (n c q : Nat) (w : World) (hn : n = l.length) (hm : n ≤ 10000) (hf : Wig.TFits l) (hr : RdT w w.heap.size A l)
    (ht : TestsT w w.heap.size 25 #[.pointer (some ⟨q, 0, none⟩)] g) :
    Calls Try.prog 24 #[.slice A n c, .func (.func 25) #[] #[.pointer (some ⟨q, 0, none⟩)]] w fun e w' =>
      ∃ v u, e = .returned (.tuple #[v, u]) ∧ Two w' w.heap.size v u (l.filter g) (l.filter fun x => !g x) ∧ Below w.heap.size w w' := by
  obtain ⟨i0, hi, hz0, hz1, hz2⟩ := info_parts sent_info
  have HR := Lib.hid hr
  have HT := Lib.hid ht
  have HF0 := Lib.hid hf
  have HN := Lib.hid hn
  clear hr ht hf hn
  go_enter Try.func24, Try.ntmps24
  go_wp2_with fail
  go_loopw [4, 5, 10] (fun v u i wr => PaRel g l w v u i wr) (fun _ _ i _ => n - (intOf i).toNat)
  case atStart => exact ⟨0, Nat.zero_le _, rfl, Two.nil _ _, Below.refl _ _⟩
  case round =>
    obtain ⟨k, hk, rfl, htwo, hbel⟩ := hrel
    rw [← HN.out] at hk
    have KT := Lib.hid htwo
    have KB := Lib.hid hbel
    have LEN := Lib.hid (And.intro (filt_len g l k) (And.intro (filt_len (fun x => !g x) l k) (show k ≤ 10000 by omega)))
    by_cases hlt : k < n
    · obtain ⟨⟨pn, pa, pz, pb⟩, hp⟩ : ∃ p, l[k]? = some p := ⟨_, List.getElem?_eq_getElem (by have := HN.out; omega)⟩
      obtain ⟨b, off, rfl, _, c0, c1, c2, c3⟩ := (HR.out.below hbel).at_ hp
      simp only [] at c0 c1 c2 c3
      have i0' : (0 : Int) ≤ (k : Int) := by omega
      have i1' : (k : Int) < (n : Int) := by omega
      have ok := Wig.tfits_at HF0.out hp
      obtain ⟨wb, hwb⟩ : ∃ wb, wb = wr.alloc (.cells #[.int .u64 (pn : Int), .int .u64 (pa : Int), .int .u64 (pz : Int), .bool pb] 37) := ⟨_, rfl⟩
      have hb1 : Below w.heap.size w wb := by rw [hwb]; exact hbel.alloc hbel.size _
      have B1 := Lib.hid hb1
      have X1 := Lib.hid (show BxT wr.heap.size pn pa pz pb wb by rw [hwb]; exact BxT.new wr _ _ _ _)
      have S1 := Lib.hid (show wr.heap.size < wb.heap.size by rw [hwb]; simp)
      have T1 := Lib.hid (show Two wb w.heap.size u4 u5 ((l.take k).filter g) ((l.take k).filter fun x => !g x) by rw [hwb]; exact htwo.below ((Below.refl wr.heap.size wr).alloc (Nat.le_refl _) _) (Nat.le_refl _))
      obtain ⟨r, hgr⟩ : ∃ r, g ⟨pn, pa, pz, pb⟩ = r := ⟨_, rfl⟩
      have CT := HT.out wb pn pa pz pb ok hb1 hb1.size
      rw [hgr] at CT
      replace CT := Lib.hid CT
      obtain ⟨m0, m1, m2, m3⟩ := X1.out
      cases r with
      | true =>
        have HF := Lib.hid (filt_hit hp hgr)
        clear hp hbel htwo hb1 ok hgr hk
        go_wp2_with fail
        rw [← hwb]
        clear hwb
        go_wp2_with fail
        refine (CT.out).mono ?_
        rintro e w2 ⟨rfl, hb2⟩
        have B2 := Lib.hid (B1.out.trans (hb2.mono B1.out.size))
        have T2 := Lib.hid (T1.out.below hb2 (Nat.le_refl _))
        have SB := Lib.hid B2.out.size
        have X2 := Lib.hid (X1.out.below hb2 S1.out)
        clear hb2 m0 m1 m2 m3
        obtain ⟨m0, m1, m2, m3⟩ := X2.out
        go_wp2_with (at_builtin; refine wpList_append_own_at _ rfl _ _ 22 rfl w.heap.size 37 i0 (.agg #[.int .u64 0, .int .u64 0, .int .u64 0, .bool false]) 4 32 Try.underlying22 hi hz0 hz1 hz2 rfl (by decide) _ _ _ rfl (World.ownsRow.alloc T2.out.one _) ⟨w2.heap.size, 0, none⟩ 1 1 (four ⟨pn, pa, pz, pb⟩) rfl rfl ?c1 ?c2 ?c3 ?c4 ?c5 ?_)
        case c1 => exact cell_four_new w2 pn pa pz pb
        case c2 => exact one_four _
        case c3 => have := LEN.out; unfold maxLen; omega
        case c4 => have := LEN.out; omega
        case c5 => have := SB.out; simp; omega
        intro v' w3 hown hgrow _ hat
        have R1 := Lib.hid (T2.out.left hown hgrow hat)
        have R2 := Lib.hid (below_app B2.out T2.out.one SB.out hgrow)
        clear hown hgrow hat m0 m1 m2 m3
        go_wp2_with fail
        go_roundw
        case rel => exact ⟨k + 1, by have := HN.out; omega, rfl, by rw [HF.out.1, HF.out.2]; exact R1.out, R2.out⟩
        case measure => simp [intOf]; omega
      | false =>
        have HF := Lib.hid (filt_miss hp hgr)
        clear hp hbel htwo hb1 ok hgr hk
        go_wp2_with fail
        rw [← hwb]
        clear hwb
        go_wp2_with fail
        refine (CT.out).mono ?_
        rintro e w2 ⟨rfl, hb2⟩
        have B2 := Lib.hid (B1.out.trans (hb2.mono B1.out.size))
        have T2 := Lib.hid (T1.out.below hb2 (Nat.le_refl _))
        have SB := Lib.hid B2.out.size
        have X2 := Lib.hid (X1.out.below hb2 S1.out)
        clear hb2 m0 m1 m2 m3
        obtain ⟨m0, m1, m2, m3⟩ := X2.out
        go_wp2_with (at_builtin; refine wpList_append_own_at _ rfl _ _ 22 rfl w.heap.size 37 i0 (.agg #[.int .u64 0, .int .u64 0, .int .u64 0, .bool false]) 4 32 Try.underlying22 hi hz0 hz1 hz2 rfl (by decide) _ _ _ rfl (World.ownsRow.alloc T2.out.two _) ⟨w2.heap.size, 0, none⟩ 1 1 (four ⟨pn, pa, pz, pb⟩) rfl rfl ?c1 ?c2 ?c3 ?c4 ?c5 ?_)
        case c1 => exact cell_four_new w2 pn pa pz pb
        case c2 => exact one_four _
        case c3 => have := LEN.out; unfold maxLen; omega
        case c4 => have := LEN.out; omega
        case c5 => have := SB.out; simp; omega
        intro v' w3 hown hgrow _ hat
        have R1 := Lib.hid (T2.out.right hown hgrow hat)
        have R2 := Lib.hid (below_app B2.out T2.out.two SB.out hgrow)
        clear hown hgrow hat m0 m1 m2 m3
        go_wp2_with fail
        go_roundw
        case rel => exact ⟨k + 1, by have := HN.out; omega, rfl, by rw [HF.out.1, HF.out.2]; exact R1.out, R2.out⟩
        case measure => simp [intOf]; omega
    · have hkn : k = n := by omega
      have R := Lib.hid (show Two wr w.heap.size u4 u5 (l.filter g) (l.filter fun x => !g x) by
        have h := htwo
        rw [hkn, HN.out, List.take_length] at h
        exact h)
      subst hkn
      clear hbel htwo hk
      go_wp2_with fail
      go_ret2
      exact ⟨_, _, rfl, R.out, KB.out⟩

set_option maxHeartbeats 2000000 in
theorem partB_any (g : Wig.Snt → Bool) (l : List Wig.Snt) (A : Option Addr) (n c q : Nat) (w : World) (hn : n = l.length) (hm : n ≤ 10000) (hf : Wig.TFits l) (hr : RdT w w.heap.size A l)
    (ht : TestsT w w.heap.size 29 #[.pointer (some ⟨q, 0, none⟩)] g) :
    Calls Try.prog 24 #[.slice A n c, .func (.func 29) #[] #[.pointer (some ⟨q, 0, none⟩)]] w fun e w' =>
      ∃ v u, e = .returned (.tuple #[v, u]) ∧ Two w' w.heap.size v u (l.filter g) (l.filter fun x => !g x) ∧ Below w.heap.size w w' := by
  obtain ⟨i0, hi, hz0, hz1, hz2⟩ := info_parts sent_info
  have HR := Lib.hid hr
  have HT := Lib.hid ht
  have HF0 := Lib.hid hf
  have HN := Lib.hid hn
  clear hr ht hf hn
  go_enter Try.func24, Try.ntmps24
  go_wp2_with fail
  go_loopw [4, 5, 10] (fun v u i wr => PaRel g l w v u i wr) (fun _ _ i _ => n - (intOf i).toNat)
  case atStart => exact ⟨0, Nat.zero_le _, rfl, Two.nil _ _, Below.refl _ _⟩
  case round =>
    obtain ⟨k, hk, rfl, htwo, hbel⟩ := hrel
    rw [← HN.out] at hk
    have KT := Lib.hid htwo
    have KB := Lib.hid hbel
    have LEN := Lib.hid (And.intro (filt_len g l k) (And.intro (filt_len (fun x => !g x) l k) (show k ≤ 10000 by omega)))
    by_cases hlt : k < n
    · obtain ⟨⟨pn, pa, pz, pb⟩, hp⟩ : ∃ p, l[k]? = some p := ⟨_, List.getElem?_eq_getElem (by have := HN.out; omega)⟩
      obtain ⟨b, off, rfl, _, c0, c1, c2, c3⟩ := (HR.out.below hbel).at_ hp
      simp only [] at c0 c1 c2 c3
      have i0' : (0 : Int) ≤ (k : Int) := by omega
      have i1' : (k : Int) < (n : Int) := by omega
      have ok := Wig.tfits_at HF0.out hp
      obtain ⟨wb, hwb⟩ : ∃ wb, wb = wr.alloc (.cells #[.int .u64 (pn : Int), .int .u64 (pa : Int), .int .u64 (pz : Int), .bool pb] 37) := ⟨_, rfl⟩
      have hb1 : Below w.heap.size w wb := by rw [hwb]; exact hbel.alloc hbel.size _
      have B1 := Lib.hid hb1
      have X1 := Lib.hid (show BxT wr.heap.size pn pa pz pb wb by rw [hwb]; exact BxT.new wr _ _ _ _)
      have S1 := Lib.hid (show wr.heap.size < wb.heap.size by rw [hwb]; simp)
      have T1 := Lib.hid (show Two wb w.heap.size u4 u5 ((l.take k).filter g) ((l.take k).filter fun x => !g x) by rw [hwb]; exact htwo.below ((Below.refl wr.heap.size wr).alloc (Nat.le_refl _) _) (Nat.le_refl _))
      obtain ⟨r, hgr⟩ : ∃ r, g ⟨pn, pa, pz, pb⟩ = r := ⟨_, rfl⟩
      have CT := HT.out wb pn pa pz pb ok hb1 hb1.size
      rw [hgr] at CT
      replace CT := Lib.hid CT
      obtain ⟨m0, m1, m2, m3⟩ := X1.out
      cases r with
      | true =>
        have HF := Lib.hid (filt_hit hp hgr)
        clear hp hbel htwo hb1 ok hgr hk
        go_wp2_with fail
        rw [← hwb]
        clear hwb
        go_wp2_with fail
        refine (CT.out).mono ?_
        rintro e w2 ⟨rfl, hb2⟩
        have B2 := Lib.hid (B1.out.trans (hb2.mono B1.out.size))
        have T2 := Lib.hid (T1.out.below hb2 (Nat.le_refl _))
        have SB := Lib.hid B2.out.size
        have X2 := Lib.hid (X1.out.below hb2 S1.out)
        clear hb2 m0 m1 m2 m3
        obtain ⟨m0, m1, m2, m3⟩ := X2.out
        go_wp2_with (at_builtin; refine wpList_append_own_at _ rfl _ _ 22 rfl w.heap.size 37 i0 (.agg #[.int .u64 0, .int .u64 0, .int .u64 0, .bool false]) 4 32 Try.underlying22 hi hz0 hz1 hz2 rfl (by decide) _ _ _ rfl (World.ownsRow.alloc T2.out.one _) ⟨w2.heap.size, 0, none⟩ 1 1 (four ⟨pn, pa, pz, pb⟩) rfl rfl ?c1 ?c2 ?c3 ?c4 ?c5 ?_)
        case c1 => exact cell_four_new w2 pn pa pz pb
        case c2 => exact one_four _
        case c3 => have := LEN.out; unfold maxLen; omega
        case c4 => have := LEN.out; omega
        case c5 => have := SB.out; simp; omega
        intro v' w3 hown hgrow _ hat
        have R1 := Lib.hid (T2.out.left hown hgrow hat)
        have R2 := Lib.hid (below_app B2.out T2.out.one SB.out hgrow)
        clear hown hgrow hat m0 m1 m2 m3
        go_wp2_with fail
        go_roundw
        case rel => exact ⟨k + 1, by have := HN.out; omega, rfl, by rw [HF.out.1, HF.out.2]; exact R1.out, R2.out⟩
        case measure => simp [intOf]; omega
      | false =>
        have HF := Lib.hid (filt_miss hp hgr)
        clear hp hbel htwo hb1 ok hgr hk
        go_wp2_with fail
        rw [← hwb]
        clear hwb
        go_wp2_with fail
        refine (CT.out).mono ?_
        rintro e w2 ⟨rfl, hb2⟩
        have B2 := Lib.hid (B1.out.trans (hb2.mono B1.out.size))
        have T2 := Lib.hid (T1.out.below hb2 (Nat.le_refl _))
        have SB := Lib.hid B2.out.size
        have X2 := Lib.hid (X1.out.below hb2 S1.out)
        clear hb2 m0 m1 m2 m3
        obtain ⟨m0, m1, m2, m3⟩ := X2.out
        go_wp2_with (at_builtin; refine wpList_append_own_at _ rfl _ _ 22 rfl w.heap.size 37 i0 (.agg #[.int .u64 0, .int .u64 0, .int .u64 0, .bool false]) 4 32 Try.underlying22 hi hz0 hz1 hz2 rfl (by decide) _ _ _ rfl (World.ownsRow.alloc T2.out.two _) ⟨w2.heap.size, 0, none⟩ 1 1 (four ⟨pn, pa, pz, pb⟩) rfl rfl ?c1 ?c2 ?c3 ?c4 ?c5 ?_)
        case c1 => exact cell_four_new w2 pn pa pz pb
        case c2 => exact one_four _
        case c3 => have := LEN.out; unfold maxLen; omega
        case c4 => have := LEN.out; omega
        case c5 => have := SB.out; simp; omega
        intro v' w3 hown hgrow _ hat
        have R1 := Lib.hid (T2.out.right hown hgrow hat)
        have R2 := Lib.hid (below_app B2.out T2.out.two SB.out hgrow)
        clear hown hgrow hat m0 m1 m2 m3
        go_wp2_with fail
        go_roundw
        case rel => exact ⟨k + 1, by have := HN.out; omega, rfl, by rw [HF.out.1, HF.out.2]; exact R1.out, R2.out⟩
        case measure => simp [intOf]; omega
    · have hkn : k = n := by omega
      have R := Lib.hid (show Two wr w.heap.size u4 u5 (l.filter g) (l.filter fun x => !g x) by
        have h := htwo
        rw [hkn, HN.out, List.take_length] at h
        exact h)
      subst hkn
      clear hbel htwo hk
      go_wp2_with fail
      go_ret2
      exact ⟨_, _, rfl, R.out, KB.out⟩

set_option maxHeartbeats 2000000 in
theorem partL_any (g : Wig.Snt → Bool) (l : List Wig.Snt) (A : Option Addr) (n c q1 q2 q3 q4 : Nat) (w : World) (hn : n = l.length) (hm : n ≤ 10000) (hf : Wig.TFits l) (hr : RdT w w.heap.size A l)
    (ht : TestsT w w.heap.size 30 #[.pointer (some ⟨q1, 0, none⟩), .pointer (some ⟨q2, 0, none⟩), .pointer (some ⟨q3, 0, none⟩), .pointer (some ⟨q4, 0, none⟩)] g) :
    Calls Try.prog 24 #[.slice A n c, .func (.func 30) #[] #[.pointer (some ⟨q1, 0, none⟩), .pointer (some ⟨q2, 0, none⟩), .pointer (some ⟨q3, 0, none⟩), .pointer (some ⟨q4, 0, none⟩)]] w fun e w' =>
      ∃ v u, e = .returned (.tuple #[v, u]) ∧ Two w' w.heap.size v u (l.filter g) (l.filter fun x => !g x) ∧ Below w.heap.size w w' := by
  obtain ⟨i0, hi, hz0, hz1, hz2⟩ := info_parts sent_info
  have HR := Lib.hid hr
  have HT := Lib.hid ht
  have HF0 := Lib.hid hf
  have HN := Lib.hid hn
  clear hr ht hf hn
  go_enter Try.func24, Try.ntmps24
  go_wp2_with fail
  go_loopw [4, 5, 10] (fun v u i wr => PaRel g l w v u i wr) (fun _ _ i _ => n - (intOf i).toNat)
  case atStart => exact ⟨0, Nat.zero_le _, rfl, Two.nil _ _, Below.refl _ _⟩
  case round =>
    obtain ⟨k, hk, rfl, htwo, hbel⟩ := hrel
    rw [← HN.out] at hk
    have KT := Lib.hid htwo
    have KB := Lib.hid hbel
    have LEN := Lib.hid (And.intro (filt_len g l k) (And.intro (filt_len (fun x => !g x) l k) (show k ≤ 10000 by omega)))
    by_cases hlt : k < n
    · obtain ⟨⟨pn, pa, pz, pb⟩, hp⟩ : ∃ p, l[k]? = some p := ⟨_, List.getElem?_eq_getElem (by have := HN.out; omega)⟩
      obtain ⟨b, off, rfl, _, c0, c1, c2, c3⟩ := (HR.out.below hbel).at_ hp
      simp only [] at c0 c1 c2 c3
      have i0' : (0 : Int) ≤ (k : Int) := by omega
      have i1' : (k : Int) < (n : Int) := by omega
      have ok := Wig.tfits_at HF0.out hp
      obtain ⟨wb, hwb⟩ : ∃ wb, wb = wr.alloc (.cells #[.int .u64 (pn : Int), .int .u64 (pa : Int), .int .u64 (pz : Int), .bool pb] 37) := ⟨_, rfl⟩
      have hb1 : Below w.heap.size w wb := by rw [hwb]; exact hbel.alloc hbel.size _
      have B1 := Lib.hid hb1
      have X1 := Lib.hid (show BxT wr.heap.size pn pa pz pb wb by rw [hwb]; exact BxT.new wr _ _ _ _)
      have S1 := Lib.hid (show wr.heap.size < wb.heap.size by rw [hwb]; simp)
      have T1 := Lib.hid (show Two wb w.heap.size u4 u5 ((l.take k).filter g) ((l.take k).filter fun x => !g x) by rw [hwb]; exact htwo.below ((Below.refl wr.heap.size wr).alloc (Nat.le_refl _) _) (Nat.le_refl _))
      obtain ⟨r, hgr⟩ : ∃ r, g ⟨pn, pa, pz, pb⟩ = r := ⟨_, rfl⟩
      have CT := HT.out wb pn pa pz pb ok hb1 hb1.size
      rw [hgr] at CT
      replace CT := Lib.hid CT
      obtain ⟨m0, m1, m2, m3⟩ := X1.out
      cases r with
      | true =>
        have HF := Lib.hid (filt_hit hp hgr)
        clear hp hbel htwo hb1 ok hgr hk
        go_wp2_with fail
        rw [← hwb]
        clear hwb
        go_wp2_with fail
        refine (CT.out).mono ?_
        rintro e w2 ⟨rfl, hb2⟩
        have B2 := Lib.hid (B1.out.trans (hb2.mono B1.out.size))
        have T2 := Lib.hid (T1.out.below hb2 (Nat.le_refl _))
        have SB := Lib.hid B2.out.size
        have X2 := Lib.hid (X1.out.below hb2 S1.out)
        clear hb2 m0 m1 m2 m3
        obtain ⟨m0, m1, m2, m3⟩ := X2.out
        go_wp2_with (at_builtin; refine wpList_append_own_at _ rfl _ _ 22 rfl w.heap.size 37 i0 (.agg #[.int .u64 0, .int .u64 0, .int .u64 0, .bool false]) 4 32 Try.underlying22 hi hz0 hz1 hz2 rfl (by decide) _ _ _ rfl (World.ownsRow.alloc T2.out.one _) ⟨w2.heap.size, 0, none⟩ 1 1 (four ⟨pn, pa, pz, pb⟩) rfl rfl ?c1 ?c2 ?c3 ?c4 ?c5 ?_)
        case c1 => exact cell_four_new w2 pn pa pz pb
        case c2 => exact one_four _
        case c3 => have := LEN.out; unfold maxLen; omega
        case c4 => have := LEN.out; omega
        case c5 => have := SB.out; simp; omega
        intro v' w3 hown hgrow _ hat
        have R1 := Lib.hid (T2.out.left hown hgrow hat)
        have R2 := Lib.hid (below_app B2.out T2.out.one SB.out hgrow)
        clear hown hgrow hat m0 m1 m2 m3
        go_wp2_with fail
        go_roundw
        case rel => exact ⟨k + 1, by have := HN.out; omega, rfl, by rw [HF.out.1, HF.out.2]; exact R1.out, R2.out⟩
        case measure => simp [intOf]; omega
      | false =>
        have HF := Lib.hid (filt_miss hp hgr)
        clear hp hbel htwo hb1 ok hgr hk
        go_wp2_with fail
        rw [← hwb]
        clear hwb
        go_wp2_with fail
        refine (CT.out).mono ?_
        rintro e w2 ⟨rfl, hb2⟩
        have B2 := Lib.hid (B1.out.trans (hb2.mono B1.out.size))
        have T2 := Lib.hid (T1.out.below hb2 (Nat.le_refl _))
        have SB := Lib.hid B2.out.size
        have X2 := Lib.hid (X1.out.below hb2 S1.out)
        clear hb2 m0 m1 m2 m3
        obtain ⟨m0, m1, m2, m3⟩ := X2.out
        go_wp2_with (at_builtin; refine wpList_append_own_at _ rfl _ _ 22 rfl w.heap.size 37 i0 (.agg #[.int .u64 0, .int .u64 0, .int .u64 0, .bool false]) 4 32 Try.underlying22 hi hz0 hz1 hz2 rfl (by decide) _ _ _ rfl (World.ownsRow.alloc T2.out.two _) ⟨w2.heap.size, 0, none⟩ 1 1 (four ⟨pn, pa, pz, pb⟩) rfl rfl ?c1 ?c2 ?c3 ?c4 ?c5 ?_)
        case c1 => exact cell_four_new w2 pn pa pz pb
        case c2 => exact one_four _
        case c3 => have := LEN.out; unfold maxLen; omega
        case c4 => have := LEN.out; omega
        case c5 => have := SB.out; simp; omega
        intro v' w3 hown hgrow _ hat
        have R1 := Lib.hid (T2.out.right hown hgrow hat)
        have R2 := Lib.hid (below_app B2.out T2.out.two SB.out hgrow)
        clear hown hgrow hat m0 m1 m2 m3
        go_wp2_with fail
        go_roundw
        case rel => exact ⟨k + 1, by have := HN.out; omega, rfl, by rw [HF.out.1, HF.out.2]; exact R1.out, R2.out⟩
        case measure => simp [intOf]; omega
    · have hkn : k = n := by omega
      have R := Lib.hid (show Two wr w.heap.size u4 u5 (l.filter g) (l.filter fun x => !g x) by
        have h := htwo
        rw [hkn, HN.out, List.take_length] at h
        exact h)
      subst hkn
      clear hbel htwo hk
      go_wp2_with fail
      go_ret2
      exact ⟨_, _, rfl, R.out, KB.out⟩
end Go.Proofs.Ythdhcppgpnnccaa
