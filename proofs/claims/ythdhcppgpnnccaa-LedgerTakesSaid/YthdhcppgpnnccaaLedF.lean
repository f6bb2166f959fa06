/-
  What the document's Take, Lost and Same of packets return: the same lists. Conditions: the lists read as packets of 64 bits, as spans; they are not too long.
-/
import Derived.Test.YthdhcppgpnnccaaLedB
import Derived.Laws.StructEq
namespace Go.Proofs.Ythdhcppgpnnccaa
open Go.ChangeShapes Go.WideShapes Go.ChangeAt Go.RowKit Go.Deep
set_option linter.unusedVariables false

def RtRel (g : Wig.Snt → Bool) (l : List Wig.Snt) (w : World) (v u i : Value) (wr : World) : Prop := PaRel g l w v u i wr
set_option maxHeartbeats 4000000 in
theorem rtake_any (l : List Wig.Snt) (s : List Wig.Spn) (A B : Option Addr) (n c m d : Nat) (w : World) (hn : n = l.length) (hm : m = s.length) (hn1 : n ≤ 10000) (hm1 : m ≤ 10000) (hr : RdT w w.heap.size A l) (hs : RdS w w.heap.size B s) :
    Calls Try.prog 13 #[.slice A n c, .slice B m d] w fun e w' =>
      ∃ v u, e = .returned (.tuple #[v, u]) ∧ Two w' w.heap.size v u (l.filter (Wig.tin s)) (l.filter fun x => !Wig.tin s x) ∧ Below w.heap.size w w' := by
  obtain ⟨i0, hi, hz0, hz1, hz2⟩ := info_parts sent_info
  have HR := Lib.hid hr
  have HS := Lib.hid hs
  have HN := Lib.hid hn
  have HM := Lib.hid (And.intro hm hm1)
  clear hr hs hn hm hm1
  go_enter Try.func13, Try.ntmps13
  go_wp2_with fail
  go_loopw [6, 7, 8] (fun v u i wr => RtRel (Wig.tin s) l w v u i wr) (fun _ _ i _ => n - (intOf i).toNat)
  case atStart => exact ⟨0, Nat.zero_le _, rfl, Two.nil _ _, Below.refl _ _⟩
  case round =>
    obtain ⟨k, hk, rfl, htwo, hbel⟩ := hrel
    rw [← HN.out] at hk
    have KT := Lib.hid htwo
    have KB := Lib.hid hbel
    have LEN := Lib.hid (And.intro (filt_len (Wig.tin s) l k) (And.intro (filt_len (fun x => !Wig.tin s x) l k) (show k ≤ 10000 by omega)))
    by_cases hlt : k < n
    · obtain ⟨⟨pn, pa, pz, pb⟩, hp⟩ : ∃ p, l[k]? = some p := ⟨_, List.getElem?_eq_getElem (by have := HN.out; omega)⟩
      have HP := Lib.hid hp
      obtain ⟨b, off, rfl, _, c0, c1, c2, c3⟩ := (HR.out.below hbel).at_ hp
      simp only [] at c0 c1 c2 c3
      have i0' : (0 : Int) ≤ (k : Int) := by omega
      have i1' : (k : Int) < (n : Int) := by omega
      obtain ⟨r, hgr⟩ : ∃ r, Wig.tin s ⟨pn, pa, pz, pb⟩ = r := ⟨_, rfl⟩
      have CH := Lib.hid (rhas_any s pn r B m d wr HM.out.1 (by have := HM.out; omega) ((HS.out.below hbel).wide hbel.size) hgr)
      cases r with
      | true =>
        have HF := Lib.hid (filt_hit hp hgr)
        clear hp hbel htwo hgr hk
        go_wp2_with fail
        refine (CH.out).mono ?_
        rintro e w2 ⟨rfl, hb2⟩
        have B2 := Lib.hid (KB.out.trans (hb2.mono KB.out.size))
        have TT := Lib.hid (KT.out.below hb2 (Nat.le_refl _))
        clear hb2 c0 c1 c2 c3
        obtain ⟨b', off', e', _, c0, c1, c2, c3⟩ := (HR.out.below B2.out).at_ HP.out
        injection e' with e'
        injection e' with ea eb
        subst ea eb
        simp only [] at c0 c1 c2 c3
        go_wp2_with (at_builtin; refine wpList_append_own_at _ rfl _ _ 22 rfl w.heap.size 37 i0 (.agg #[.int .u64 0, .int .u64 0, .int .u64 0, .bool false]) 4 32 Try.underlying22 hi hz0 hz1 hz2 rfl (by decide) _ _ _ rfl (World.ownsRow.alloc TT.out.one _) ⟨w2.heap.size, 0, none⟩ 1 1 (four ⟨pn, pa, pz, pb⟩) rfl rfl ?c1 ?c2 ?c3 ?c4 ?c5 ?_)
        case c1 => exact cell_four_new w2 pn pa pz pb
        case c2 => exact one_four _
        case c3 => have := LEN.out; unfold maxLen; omega
        case c4 => have := LEN.out; omega
        case c5 => have := B2.out.size; simp; omega
        intro v' w3 hown hgrow _ hat
        have R1 := Lib.hid (TT.out.left hown hgrow hat)
        have R2 := Lib.hid (below_app B2.out TT.out.one B2.out.size hgrow)
        clear hown hgrow hat c0 c1 c2 c3
        go_wp2_with fail
        go_roundw
        case rel => exact ⟨k + 1, by have := HN.out; omega, rfl, by rw [HF.out.1, HF.out.2]; exact R1.out, R2.out⟩
        case measure => simp [intOf]; omega
      | false =>
        have HF := Lib.hid (filt_miss hp hgr)
        clear hp hbel htwo hgr hk
        go_wp2_with fail
        refine (CH.out).mono ?_
        rintro e w2 ⟨rfl, hb2⟩
        have B2 := Lib.hid (KB.out.trans (hb2.mono KB.out.size))
        have TT := Lib.hid (KT.out.below hb2 (Nat.le_refl _))
        clear hb2 c0 c1 c2 c3
        obtain ⟨b', off', e', _, c0, c1, c2, c3⟩ := (HR.out.below B2.out).at_ HP.out
        injection e' with e'
        injection e' with ea eb
        subst ea eb
        simp only [] at c0 c1 c2 c3
        go_wp2_with (at_builtin; refine wpList_append_own_at _ rfl _ _ 22 rfl w.heap.size 37 i0 (.agg #[.int .u64 0, .int .u64 0, .int .u64 0, .bool false]) 4 32 Try.underlying22 hi hz0 hz1 hz2 rfl (by decide) _ _ _ rfl (World.ownsRow.alloc TT.out.two _) ⟨w2.heap.size, 0, none⟩ 1 1 (four ⟨pn, pa, pz, pb⟩) rfl rfl ?c1 ?c2 ?c3 ?c4 ?c5 ?_)
        case c1 => exact cell_four_new w2 pn pa pz pb
        case c2 => exact one_four _
        case c3 => have := LEN.out; unfold maxLen; omega
        case c4 => have := LEN.out; omega
        case c5 => have := B2.out.size; simp; omega
        intro v' w3 hown hgrow _ hat
        have R1 := Lib.hid (TT.out.right hown hgrow hat)
        have R2 := Lib.hid (below_app B2.out TT.out.two B2.out.size hgrow)
        clear hown hgrow hat c0 c1 c2 c3
        go_wp2_with fail
        go_roundw
        case rel => exact ⟨k + 1, by have := HN.out; omega, rfl, by rw [HF.out.1, HF.out.2]; exact R1.out, R2.out⟩
        case measure => simp [intOf]; omega
    · have hkn : k = n := by omega
      have R := Lib.hid (show Two wr w.heap.size u6 u7 (l.filter (Wig.tin s)) (l.filter fun x => !Wig.tin s x) by
        have h := htwo
        rw [hkn, HN.out, List.take_length] at h
        exact h)
      have t2 : decide (k < n) = false := decide_eq_false hlt
      clear hbel htwo hk hkn hlt
      go_wp2_with fail
      go_ret2
      exact ⟨_, _, rfl, R.out, KB.out⟩

/-- At the loop's head: when the next one is lost, and whether one was found. -/
def RwAt (next now late : Nat) (l : List Wig.Snt) (t : Nat) (f : Bool) : Prop := Wig.twhenO next now late l = (if f then some t else none) ∧ (f = false → t = 0)
theorem rw_same {next now late : Nat} {l : List Wig.Snt} {k t : Nat} {f : Bool} {x : Wig.Snt} (h : RwAt next now late (l.take k) t f) (hx : l[k]? = some x) (hw : Wig.twait next now late x = false) : RwAt next now late (l.take (k + 1)) t f := by
  refine ⟨?_, h.2⟩
  rw [Wig.twhenO_take hx, if_neg (by simp [hw])]
  exact h.1
theorem rw_new {next now late : Nat} {l : List Wig.Snt} {k t e : Nat} {x : Wig.Snt} (h : RwAt next now late (l.take k) t false) (hx : l[k]? = some x) (hw : Wig.twait next now late x = true) (he : Wig.tend late x = e) : RwAt next now late (l.take (k + 1)) e true := by
  refine ⟨?_, fun h => by cases h⟩
  rw [Wig.twhenO_take hx, if_pos hw, h.1, he]
  rfl
theorem rw_min {next now late : Nat} {l : List Wig.Snt} {k t e z : Nat} {x : Wig.Snt} (h : RwAt next now late (l.take k) t true) (hx : l[k]? = some x) (hw : Wig.twait next now late x = true) (he : Wig.tend late x = e) (hz : min t e = z) : RwAt next now late (l.take (k + 1)) z true := by
  refine ⟨?_, fun h => by cases h⟩
  rw [Wig.twhenO_take hx, if_pos hw, h.1, he, ← hz]
  rfl
theorem rw_end {next now late : Nat} {l : List Wig.Snt} {t r : Nat} {f : Bool} (h : RwAt next now late l t f) (hr : Wig.twhen next now late l = r) : t = r := by
  obtain ⟨h1, h2⟩ := h
  cases f with
  | false => rw [h2 rfl, ← hr, Wig.twhen_none h1]
  | true => rw [← hr, Wig.twhen_some h1]

def RlRel (next now late : Nat) (l : List Wig.Snt) (w : World) (v u t f i : Value) (wr : World) : Prop :=
  ∃ (k tt : Nat) (ff : Bool), k ≤ l.length ∧ i = .int .i64 (k : Int) ∧ t = .int .u64 (tt : Int) ∧ f = .bool ff ∧ RwAt next now late (l.take k) tt ff ∧ Two wr w.heap.size v u ((l.take k).filter (Wig.tlost next now late)) ((l.take k).filter fun x => !Wig.tlost next now late x) ∧ Below w.heap.size w wr
set_option maxHeartbeats 8000000 in
theorem rlost_any (l : List Wig.Snt) (next now late r : Nat) (A : Option Addr) (n c : Nat) (w : World) (hn : n = l.length) (hn1 : n ≤ 10000) (hf : Wig.TFits l) (hl : late < 18446744073709551616) (hr : RdT w w.heap.size A l) (he : Wig.twhen next now late l = r) :
    Calls Try.prog 20 #[.slice A n c, .int .u64 (next : Int), .int .u64 (now : Int), .int .u64 (late : Int)] w fun e w' =>
      ∃ v u, e = .returned (.tuple #[v, u, .int .u64 (r : Int)]) ∧ Two w' w.heap.size v u (l.filter (Wig.tlost next now late)) (l.filter fun x => !Wig.tlost next now late x) ∧ Below w.heap.size w w' := by
  obtain ⟨i0, hi, hz0, hz1, hz2⟩ := info_parts sent_info
  have HR := Lib.hid hr
  have HN := Lib.hid hn
  have HFT := Lib.hid hf
  have HL := Lib.hid hl
  have HE := Lib.hid he
  clear hr hn hf hl he
  go_enter Try.func20, Try.ntmps20
  go_wp2_with fail
  go_loopw [11, 12, 13, 14, 15] (fun v u t f i wr => RlRel next now late l w v u t f i wr) (fun _ _ _ _ i _ => n - (intOf i).toNat)
  case atStart => exact ⟨0, 0, false, Nat.zero_le _, rfl, rfl, rfl, ⟨rfl, fun _ => rfl⟩, Two.nil _ _, Below.refl _ _⟩
  case round =>
    obtain ⟨k, tt, ff, hk, rfl, rfl, rfl, hrw, htwo, hbel⟩ := hrel
    rw [← HN.out] at hk
    have TT := Lib.hid htwo
    have KB := Lib.hid hbel
    have KW := Lib.hid hrw
    have LEN := Lib.hid (And.intro (filt_len (Wig.tlost next now late) l k) (And.intro (filt_len (fun x => !Wig.tlost next now late x) l k) (show k ≤ 10000 by omega)))
    by_cases hlt : k < n
    · obtain ⟨⟨pn, pa, pz, pb⟩, hp⟩ : ∃ p, l[k]? = some p := ⟨_, List.getElem?_eq_getElem (by have := HN.out; omega)⟩
      have HP := Lib.hid hp
      obtain ⟨b, off, rfl, _, c0, c1, c2, c3⟩ := (HR.out.below hbel).at_ hp
      simp only [] at c0 c1 c2 c3
      have i0' : (0 : Int) ≤ (k : Int) := by omega
      have i1' : (k : Int) < (n : Int) := by omega
      have ok := Wig.tfits_at HFT.out hp
      obtain ⟨z, hz⟩ : ∃ z, Wig.fadd pn 1 = z := ⟨_, rfl⟩
      obtain ⟨q, hq⟩ : ∃ q, Wig.fadd pa late = q := ⟨_, rfl⟩
      obtain ⟨y, hy⟩ : ∃ y, Wig.fadd pn 4 = y := ⟨_, rfl⟩
      have C1 := Lib.hid (fun w => show Calls Try.prog 23 #[.int .u64 (pn : Int), .int .u64 1] w (fun e w' => e = .returned (.int .u64 (z : Int)) ∧ w = w') by rw [← hz]; exact radd_any pn 1 w ok.1 (by omega))
      have C2 := Lib.hid (fun w => radd_any pa late w ok.2.1 HL.out)
      rw [hq] at C2
      have C3 := Lib.hid (fun w => show Calls Try.prog 23 #[.int .u64 (pn : Int), .int .u64 4] w (fun e w' => e = .returned (.int .u64 (y : Int)) ∧ w = w') by rw [← hy]; exact radd_any pn 4 w ok.1 (by omega))
      have EB : Wig.tback next ⟨pn, pa, pz, pb⟩ = decide (z < next) := by rw [← hz]; rfl
      have EL : Wig.tlost next now late ⟨pn, pa, pz, pb⟩ = (decide (z < next) && (decide (y ≤ next) || decide (q ≤ now))) := by rw [← hz, ← hy, ← hq]; rfl
      have EW : Wig.twait next now late ⟨pn, pa, pz, pb⟩ = (Wig.tback next ⟨pn, pa, pz, pb⟩ && !Wig.tlost next now late ⟨pn, pa, pz, pb⟩) := rfl
      have EE : Wig.tend late ⟨pn, pa, pz, pb⟩ = q := hq
      rw [EB, EL] at EW
      have HEE := Lib.hid EE
      clear EB EE ok hz hq hy hk hbel htwo hrw
      by_cases h1 : z < next
      · have t1 : decide (z < next) = true := decide_eq_true h1
        by_cases h2 : y ≤ next
        · have t2 : decide (y ≤ next) = true := decide_eq_true h2
          have HF := Lib.hid (filt_hit (g := Wig.tlost next now late) hp (by rw [EL]; simp [h1, h2]))
          have W0 := Lib.hid (rw_same KW.out hp (by rw [EW]; simp [h1, h2]))
          clear hp EL EW
          clear h1 h2
          go_wp2_with fail
          refine (C1.out _).mono ?_
          rintro e _ ⟨rfl, rfl⟩
          go_wp2_with fail
          refine (C2.out _).mono ?_
          rintro e _ ⟨rfl, rfl⟩
          go_wp2_with fail
          refine (C3.out _).mono ?_
          rintro e _ ⟨rfl, rfl⟩
          go_wp2_with (at_builtin; refine wpList_append_own_at _ rfl _ _ 22 rfl w.heap.size 37 i0 (.agg #[.int .u64 0, .int .u64 0, .int .u64 0, .bool false]) 4 32 Try.underlying22 hi hz0 hz1 hz2 rfl (by decide) _ _ _ rfl (World.ownsRow.alloc TT.out.one _) ⟨wr.heap.size, 0, none⟩ 1 1 (four ⟨pn, pa, pz, pb⟩) rfl rfl ?c1 ?c2 ?c3 ?c4 ?c5 ?_)
          case c1 => exact cell_four_new wr pn pa pz pb
          case c2 => exact one_four _
          case c3 => have := LEN.out; unfold maxLen; omega
          case c4 => have := LEN.out; omega
          case c5 => have := KB.out.size; simp; omega
          intro v' w3 hown hgrow _ hat
          have R1 := Lib.hid (TT.out.left hown hgrow hat)
          have R2 := Lib.hid (below_app KB.out TT.out.one KB.out.size hgrow)
          clear hown hgrow hat c0 c1 c2 c3
          go_wp2_with fail
          go_roundw
          case rel => exact ⟨k + 1, tt, ff, by have := HN.out; omega, rfl, rfl, rfl, W0.out, by rw [HF.out.1, HF.out.2]; exact R1.out, R2.out⟩
          case measure => simp [intOf]; omega
        · have t2 : decide (y ≤ next) = false := decide_eq_false h2
          by_cases h3 : q ≤ now
          · have t3 : decide (q ≤ now) = true := decide_eq_true h3
            have HF := Lib.hid (filt_hit (g := Wig.tlost next now late) hp (by rw [EL]; simp [h1, h2, h3]))
            have W0 := Lib.hid (rw_same KW.out hp (by rw [EW]; simp [h1, h2, h3]))
            clear hp EL EW
            clear h1 h2 h3
            go_wp2_with fail
            refine (C1.out _).mono ?_
            rintro e _ ⟨rfl, rfl⟩
            go_wp2_with fail
            refine (C2.out _).mono ?_
            rintro e _ ⟨rfl, rfl⟩
            go_wp2_with fail
            refine (C3.out _).mono ?_
            rintro e _ ⟨rfl, rfl⟩
            go_wp2_with (at_builtin; refine wpList_append_own_at _ rfl _ _ 22 rfl w.heap.size 37 i0 (.agg #[.int .u64 0, .int .u64 0, .int .u64 0, .bool false]) 4 32 Try.underlying22 hi hz0 hz1 hz2 rfl (by decide) _ _ _ rfl (World.ownsRow.alloc TT.out.one _) ⟨wr.heap.size, 0, none⟩ 1 1 (four ⟨pn, pa, pz, pb⟩) rfl rfl ?c1 ?c2 ?c3 ?c4 ?c5 ?_)
            case c1 => exact cell_four_new wr pn pa pz pb
            case c2 => exact one_four _
            case c3 => have := LEN.out; unfold maxLen; omega
            case c4 => have := LEN.out; omega
            case c5 => have := KB.out.size; simp; omega
            intro v' w3 hown hgrow _ hat
            have R1 := Lib.hid (TT.out.left hown hgrow hat)
            have R2 := Lib.hid (below_app KB.out TT.out.one KB.out.size hgrow)
            clear hown hgrow hat c0 c1 c2 c3
            go_wp2_with fail
            go_roundw
            case rel => exact ⟨k + 1, tt, ff, by have := HN.out; omega, rfl, rfl, rfl, W0.out, by rw [HF.out.1, HF.out.2]; exact R1.out, R2.out⟩
            case measure => simp [intOf]; omega
          · have t3 : decide (q ≤ now) = false := decide_eq_false h3
            have HF := Lib.hid (filt_miss (g := Wig.tlost next now late) hp (by rw [EL]; simp [h1, h2, h3]))
            have WW : Wig.twait next now late ⟨pn, pa, pz, pb⟩ = true := by rw [EW]; simp [h1, h2, h3]
            cases ff with
            | false =>
              have W0 := Lib.hid (rw_new KW.out hp WW HEE.out)
              clear hp EL EW WW h1 h2 h3
              go_wp2_with fail
              refine (C1.out _).mono ?_
              rintro e _ ⟨rfl, rfl⟩
              go_wp2_with fail
              refine (C2.out _).mono ?_
              rintro e _ ⟨rfl, rfl⟩
              go_wp2_with fail
              refine (C3.out _).mono ?_
              rintro e _ ⟨rfl, rfl⟩
              go_wp2_with (at_builtin; refine wpList_append_own_at _ rfl _ _ 22 rfl w.heap.size 37 i0 (.agg #[.int .u64 0, .int .u64 0, .int .u64 0, .bool false]) 4 32 Try.underlying22 hi hz0 hz1 hz2 rfl (by decide) _ _ _ rfl (World.ownsRow.alloc TT.out.two _) ⟨wr.heap.size, 0, none⟩ 1 1 (four ⟨pn, pa, pz, pb⟩) rfl rfl ?c1 ?c2 ?c3 ?c4 ?c5 ?_)
              case c1 => exact cell_four_new wr pn pa pz pb
              case c2 => exact one_four _
              case c3 => have := LEN.out; unfold maxLen; omega
              case c4 => have := LEN.out; omega
              case c5 => have := KB.out.size; simp; omega
              intro v' w3 hown hgrow _ hat
              have R1 := Lib.hid (TT.out.right hown hgrow hat)
              have R2 := Lib.hid (below_app KB.out TT.out.two KB.out.size hgrow)
              clear hown hgrow hat c0 c1 c2 c3
              go_wp2_with fail
              go_roundw
              case rel => exact ⟨k + 1, q, true, by have := HN.out; omega, rfl, rfl, rfl, W0.out, by rw [HF.out.1, HF.out.2]; exact R1.out, R2.out⟩
              case measure => simp [intOf]; omega
            | true =>
              by_cases h4 : q < tt
              · have t4 : decide (q < tt) = true := decide_eq_true h4
                have W0 := Lib.hid (rw_min KW.out hp WW HEE.out (show min tt q = q by omega))
                clear hp EL EW WW h1 h2 h3 h4
                go_wp2_with fail
                refine (C1.out _).mono ?_
                rintro e _ ⟨rfl, rfl⟩
                go_wp2_with fail
                refine (C2.out _).mono ?_
                rintro e _ ⟨rfl, rfl⟩
                go_wp2_with fail
                refine (C3.out _).mono ?_
                rintro e _ ⟨rfl, rfl⟩
                go_wp2_with (at_builtin; refine wpList_append_own_at _ rfl _ _ 22 rfl w.heap.size 37 i0 (.agg #[.int .u64 0, .int .u64 0, .int .u64 0, .bool false]) 4 32 Try.underlying22 hi hz0 hz1 hz2 rfl (by decide) _ _ _ rfl (World.ownsRow.alloc TT.out.two _) ⟨wr.heap.size, 0, none⟩ 1 1 (four ⟨pn, pa, pz, pb⟩) rfl rfl ?c1 ?c2 ?c3 ?c4 ?c5 ?_)
                case c1 => exact cell_four_new wr pn pa pz pb
                case c2 => exact one_four _
                case c3 => have := LEN.out; unfold maxLen; omega
                case c4 => have := LEN.out; omega
                case c5 => have := KB.out.size; simp; omega
                intro v' w3 hown hgrow _ hat
                have R1 := Lib.hid (TT.out.right hown hgrow hat)
                have R2 := Lib.hid (below_app KB.out TT.out.two KB.out.size hgrow)
                clear hown hgrow hat c0 c1 c2 c3
                go_wp2_with fail
                go_roundw
                case rel => exact ⟨k + 1, q, true, by have := HN.out; omega, rfl, rfl, rfl, W0.out, by rw [HF.out.1, HF.out.2]; exact R1.out, R2.out⟩
                case measure => simp [intOf]; omega
              · have t4 : decide (q < tt) = false := decide_eq_false h4
                have W0 := Lib.hid (rw_min KW.out hp WW HEE.out (show min tt q = tt by omega))
                clear hp EL EW WW h1 h2 h3 h4
                go_wp2_with fail
                refine (C1.out _).mono ?_
                rintro e _ ⟨rfl, rfl⟩
                go_wp2_with fail
                refine (C2.out _).mono ?_
                rintro e _ ⟨rfl, rfl⟩
                go_wp2_with fail
                refine (C3.out _).mono ?_
                rintro e _ ⟨rfl, rfl⟩
                go_wp2_with (at_builtin; refine wpList_append_own_at _ rfl _ _ 22 rfl w.heap.size 37 i0 (.agg #[.int .u64 0, .int .u64 0, .int .u64 0, .bool false]) 4 32 Try.underlying22 hi hz0 hz1 hz2 rfl (by decide) _ _ _ rfl (World.ownsRow.alloc TT.out.two _) ⟨wr.heap.size, 0, none⟩ 1 1 (four ⟨pn, pa, pz, pb⟩) rfl rfl ?c1 ?c2 ?c3 ?c4 ?c5 ?_)
                case c1 => exact cell_four_new wr pn pa pz pb
                case c2 => exact one_four _
                case c3 => have := LEN.out; unfold maxLen; omega
                case c4 => have := LEN.out; omega
                case c5 => have := KB.out.size; simp; omega
                intro v' w3 hown hgrow _ hat
                have R1 := Lib.hid (TT.out.right hown hgrow hat)
                have R2 := Lib.hid (below_app KB.out TT.out.two KB.out.size hgrow)
                clear hown hgrow hat c0 c1 c2 c3
                go_wp2_with fail
                go_roundw
                case rel => exact ⟨k + 1, tt, true, by have := HN.out; omega, rfl, rfl, rfl, W0.out, by rw [HF.out.1, HF.out.2]; exact R1.out, R2.out⟩
                case measure => simp [intOf]; omega
      · have t1 : decide (z < next) = false := decide_eq_false h1
        have HF := Lib.hid (filt_miss (g := Wig.tlost next now late) hp (by rw [EL]; simp [h1]))
        have W0 := Lib.hid (rw_same KW.out hp (by rw [EW]; simp [h1]))
        clear hp EL EW h1 C3
        go_wp2_with fail
        refine (C1.out _).mono ?_
        rintro e _ ⟨rfl, rfl⟩
        go_wp2_with fail
        refine (C2.out _).mono ?_
        rintro e _ ⟨rfl, rfl⟩
        go_wp2_with (at_builtin; refine wpList_append_own_at _ rfl _ _ 22 rfl w.heap.size 37 i0 (.agg #[.int .u64 0, .int .u64 0, .int .u64 0, .bool false]) 4 32 Try.underlying22 hi hz0 hz1 hz2 rfl (by decide) _ _ _ rfl (World.ownsRow.alloc TT.out.two _) ⟨wr.heap.size, 0, none⟩ 1 1 (four ⟨pn, pa, pz, pb⟩) rfl rfl ?c1 ?c2 ?c3 ?c4 ?c5 ?_)
        case c1 => exact cell_four_new wr pn pa pz pb
        case c2 => exact one_four _
        case c3 => have := LEN.out; unfold maxLen; omega
        case c4 => have := LEN.out; omega
        case c5 => have := KB.out.size; simp; omega
        intro v' w3 hown hgrow _ hat
        have R1 := Lib.hid (TT.out.right hown hgrow hat)
        have R2 := Lib.hid (below_app KB.out TT.out.two KB.out.size hgrow)
        clear hown hgrow hat c0 c1 c2 c3
        go_wp2_with fail
        go_roundw
        case rel => exact ⟨k + 1, tt, ff, by have := HN.out; omega, rfl, rfl, rfl, W0.out, by rw [HF.out.1, HF.out.2]; exact R1.out, R2.out⟩
        case measure => simp [intOf]; omega
    · have hkn : k = n := by omega
      have R := Lib.hid (show Two wr w.heap.size u11 u12 (l.filter (Wig.tlost next now late)) (l.filter fun x => !Wig.tlost next now late x) ∧ tt = r by
        have h := htwo
        have h2 := hrw
        rw [hkn, HN.out, List.take_length] at h h2
        exact ⟨h, rw_end h2 HE.out⟩)
      have t2 : decide (k < n) = false := decide_eq_false hlt
      clear hbel htwo hrw hk hkn hlt
      go_wp2_with fail
      exact bodyPost_ret (v := .tuple #[u11, u12, .int .u64 (tt : Int)]) (by simp [results, Try.results20, go_sem]) rfl ⟨_, _, by rw [R.out.2], R.out.1, KB.out⟩

theorem sent_guard : Try.prog.eqGuardType Try.prog.depth 37 = false := by kernel_rfl
theorem sent_ne (a b c : Nat) (d : Bool) (w : World) : (binOp .neq 37 (.agg #[.int .u64 (a : Int), .int .u64 (b : Int), .int .u64 (c : Int), .bool d]) (.agg #[.int .u64 (a : Int), .int .u64 (b : Int), .int .u64 (c : Int), .bool d])).run Try.prog w = .ok (.bool false) w := by
  have u := Try.underlying29
  have a1 := Try.isAgg29
  have z := Try.sizeOf29
  have u2 := Try.underlying4
  have a2 := Try.isAgg4
  have z2 := Try.sizeOf4
  have hS : Try.prog.underlying 37 = some (.struct (Try.prog.fieldsOf 37)) := by kernel_rfl
  have hp : Try.prog.stoodInHeld 37 = false := by kernel_rfl
  rw [run_neq_struct, show (10000 : Nat) = 9999 + 1 from rfl, run_equalIn_agg w 9999 37 _ _ hS hp]
  simp only [Program.fieldsOf, Try.underlying37]
  go_simp
def SaRel (n : Nat) (w : World) (i : Value) (wr : World) : Prop := ∃ k : Nat, k ≤ n ∧ i = .int .i64 (k : Int) ∧ Below w.heap.size w wr
set_option maxHeartbeats 1000000 in
theorem same_any (l : List Wig.Snt) (A A2 : Option Addr) (n c c2 : Nat) (w : World) (hn : n = l.length) (hm : n ≤ 10000) (h1 : RdT w w.heap.size A l) (h2 : RdT w w.heap.size A2 l) :
    Calls Try.prog 14 #[.slice A n c, .slice A2 n c2] w fun e w' => e = .returned (.bool true) ∧ Below w.heap.size w w' := by
  have H1 := Lib.hid h1
  have H2 := Lib.hid h2
  have HN := Lib.hid hn
  have t : ((n : Int) != (n : Int)) = false := by simp
  have g := sent_guard
  clear h1 h2 hn
  go_enter Try.func14, Try.ntmps14
  go_wp2_with fail
  go_loopw [5] (fun i wr => SaRel n w i wr) (fun i _ => n - (intOf i).toNat)
  case atStart => exact ⟨0, Nat.zero_le _, rfl, Below.refl _ _⟩
  case round =>
    obtain ⟨k, hk, rfl, hbel⟩ := hrel
    have KB := Lib.hid hbel
    by_cases hlt : k < n
    · obtain ⟨⟨pn, pa, pz, pb⟩, hp⟩ : ∃ p, l[k]? = some p := ⟨_, List.getElem?_eq_getElem (by have := HN.out; omega)⟩
      obtain ⟨b, off, rfl, _, c0, c1, c2, c3⟩ := (H1.out.below hbel).at_ hp
      obtain ⟨b2, off2, rfl, _, d0, d1, d2, d3⟩ := (H2.out.below hbel).at_ hp
      simp only [] at c0 c1 c2 c3 d0 d1 d2 d3
      have i0 : (0 : Int) ≤ (k : Int) := by omega
      have i1 : (k : Int) < (n : Int) := by omega
      have ne := sent_ne pn pa pz pb
      have R := Lib.hid fun nq => (show SaRel n w (.int .i64 ((k : Int) + 1)) (wr.drewN nq) from ⟨k + 1, hlt, rfl, below_drewN' KB.out nq⟩)
      clear hp hbel
      go_wp2_with fail
      go_quiet (fail)
      go_wp2_with fail
      go_roundw
      case rel => exact R.out _
      case measure => simp [intOf]; omega
    · have t2 : decide (k < n) = false := decide_eq_false hlt
      clear hbel hk hlt
      go_wp2_with fail
      go_ret
      exact ⟨rfl, KB.out⟩
end Go.Proofs.Ythdhcppgpnnccaa
