/-
  FiltFalls: behind a push the sample is the last one, the samples ahead of it beat it, and the list that was given stays as it was, whatever the list of at most three hundred samples. No condition.
-/
import Derived.Test.YtmfldjdkmfpdkaaFiltL
import Derived.Test.YtmfldjdkmfpdkaaOpen
import Derived.Deep.CutBlock
namespace Wig
theorem kept_beats {great : Bool} {win : Nat} {s p : Smp} {ss : List Smp} {j : Nat} (h : (kept great win s ss)[j]? = some p) : better great p.2 s.2 = true := by
  have := (List.mem_filter.1 (List.mem_of_getElem? h)).2
  unfold stays at this
  rw [Bool.and_eq_true] at this
  exact this.2
end Wig
namespace Go.Proofs.Ytmfldjdkmfpdkaa.filtFalls
open Go.ChangeShapes Go.WideShapes Go.ChangeAt Go.RowKit Go.Deep
set_option linter.unusedVariables false

theorem rd_step {w1 w' : World} {A : Option Addr} {ss : List Wig.Smp} (h : Rd w1 w1.heap.size A ss) (hb : Below w1.heap.size w1 w') : Rd w' w'.heap.size A ss := (h.below hb).wide hb.size

/-- A list that a push left: its block g, its last place k holds s, all places ahead of it hold what beats s. -/
structure Left_ (great : Bool) (w : World) (g k s0 s1 : Nat) : Prop where
  lt : g < w.heap.size
  last0 : w.cell? ⟨g, k * 2, none⟩ = some (.int .u64 (s0 : Int))
  last1 : w.cell? ⟨g, k * 2 + 1, none⟩ = some (.int .u64 (s1 : Int))
  first : ∃ u : Int, w.cell? ⟨g, 1, none⟩ = some (.int .u64 u)
  free : w.frozen? ⟨g, 1, none⟩ = false
  ahead : ∀ j, j < k → ∃ x0 x1 : Nat, w.cell? ⟨g, j * 2, none⟩ = some (.int .u64 (x0 : Int)) ∧ w.cell? ⟨g, j * 2 + 1, none⟩ = some (.int .u64 (x1 : Int)) ∧ Wig.better great x1 s1 = true

theorem left_below {great : Bool} {w w' : World} {g k s0 s1 B : Nat} (h : Left_ great w g k s0 s1) (hb : Below B w w') (hg : g < B) : Left_ great w' g k s0 s1 := by
  refine ⟨Nat.lt_of_lt_of_le h.lt hb.size, (hb.cell hg).trans h.last0, (hb.cell hg).trans h.last1, ?_, (hb.frozen hg).trans h.free, fun j hj => ?_⟩
  · obtain ⟨u, hu⟩ := h.first
    exact ⟨u, (hb.cell hg).trans hu⟩
  · obtain ⟨x0, x1, h1, h2, h3⟩ := h.ahead j hj
    exact ⟨x0, x1, (hb.cell hg).trans h1, (hb.cell hg).trans h2, h3⟩
theorem left_drewN {great : Bool} {w : World} {g k s0 s1 : Nat} (h : Left_ great w g k s0 s1) (n : Nat) : Left_ great (w.drewN n) g k s0 s1 := ⟨h.lt, h.last0, h.last1, h.first, h.free, h.ahead⟩

/-- What a push leaves, in these words. -/
theorem left_of {great : Bool} {win s0 s1 k : Nat} {ss : List Wig.Smp} {F : FuncId} {args : Array Value} {w : World} (hk : (Wig.kept great win (s0, s1) ss).length = k)
    (h : Calls Try.prog F args w fun e w' => ∃ v, e = .returned v ∧ Own w' w.heap.size v (Wig.pushed great win (s0, s1) ss) ∧ Below w.heap.size w w') :
    Calls Try.prog F args w fun e w' => ∃ g c, e = .returned (.slice (some ⟨g, 0, none⟩) (k + 1) c) ∧ w.heap.size ≤ g ∧ Left_ great w' g k s0 s1 ∧ Below w.heap.size w w' := by
  refine h.mono ?_
  rintro e w' ⟨v, rfl, hown, hb⟩
  have hne : Wig.pushed great win (s0, s1) ss ≠ [] := by simp [Wig.pushed]
  obtain ⟨g, c, rfl, hg, hlt, hc, hfr⟩ := hown.form hne
  have hl : (Wig.pushed great win (s0, s1) ss).length = k + 1 := by simp [Wig.pushed, hk]
  have hlast : (Wig.pushed great win (s0, s1) ss)[k]? = some (s0, s1) := by
    unfold Wig.pushed
    rw [List.getElem?_append_right (by omega), hk]
    simp
  rw [hl]
  refine ⟨g, c, rfl, hg, ⟨hlt, (hc k _ hlast).1, (hc k _ hlast).2, ?_, hfr 1, fun j hj => ?_⟩, hb⟩
  · have h0 : (Wig.pushed great win (s0, s1) ss)[0]? = some ((Wig.pushed great win (s0, s1) ss)[0]'(by omega)) := List.getElem?_eq_getElem _
    have := (hc 0 _ h0).2
    rw [Nat.zero_mul, Nat.zero_add] at this
    exact ⟨_, this⟩
  · have hj' : j < (Wig.kept great win (s0, s1) ss).length := by omega
    have hp : (Wig.kept great win (s0, s1) ss)[j]? = some ((Wig.kept great win (s0, s1) ss)[j]'hj') := List.getElem?_eq_getElem hj'
    have hq : (Wig.pushed great win (s0, s1) ss)[j]? = some ((Wig.kept great win (s0, s1) ss)[j]'hj') := by
      unfold Wig.pushed
      rw [List.getElem?_append_left hj']
      exact hp
    exact ⟨_, _, (hc j _ hq).1, (hc j _ hq).2, Wig.kept_beats hp⟩

set_option maxHeartbeats 4000000 in
theorem walk (A : Option Addr) (c : Nat) (ss : List Wig.Smp) (win s0 s1 : Nat) (hf : Wig.Fits ss) (hl : ss.length ≤ maxLen) (hw : win < 18446744073709551616) (hs0 : s0 < 18446744073709551616) (hs1 : s1 < 18446744073709551616)
    (w : World) (hr : Rd w w.heap.size A ss) :
    Calls Try.prog 5 #[.slice A ss.length c, .int .u64 (win : Int), .agg #[.int .u64 (s0 : Int), .int .u64 (s1 : Int)]] w fun e w' => e = .returned (.bool true) ∧ Below w.heap.size w w' := by
  obtain ⟨n, hn⟩ : ∃ n, n = ss.length := ⟨_, rfl⟩
  rw [← hn] at hl ⊢
  obtain ⟨wb, hwb⟩ : ∃ wb, wb = w.alloc (.cells #[.int .u64 (s0 : Int), .int .u64 (s1 : Int)] 25) := ⟨_, rfl⟩
  have hB1 : Below w.heap.size w wb := by rw [hwb]; exact (Below.refl _ _).alloc (Nat.le_refl _) _
  have hsz : wb.heap.size = w.heap.size + 1 := by rw [hwb]; simp
  have k0 : wb.cell? ⟨w.heap.size, 0, none⟩ = some (.int .u64 (s0 : Int)) := by rw [hwb, World.cell?_alloc_at _ _ _ _ rfl]; rfl
  have k1 : wb.cell? ⟨w.heap.size, 1, none⟩ = some (.int .u64 (s1 : Int)) := by rw [hwb, World.cell?_alloc_at _ _ _ _ rfl]; rfl
  have HR := Lib.hid ((hr.below hB1).wide (B' := wb.heap.size) (by omega))
  have C0 := Lib.hid (fun w => awake_any w)
  have KS := Lib.hid hsz
  have KB1 := Lib.hid hB1
  have K0 := Lib.hid k0
  have K1 := Lib.hid k1
  by_cases h300 : n ≤ 300
  · obtain ⟨ka, hk1⟩ : ∃ ka, ka = (Wig.kept true win (s0, s1) ss).length := ⟨_, rfl⟩
    obtain ⟨kb, hk2⟩ : ∃ kb, kb = (Wig.kept false win (s0, s1) ss).length := ⟨_, rfl⟩
    have b1 : ka ≤ 300 := by have := Wig.kept_le true win (s0, s1) ss; rw [← hk1] at this; omega
    have b2 : kb ≤ 300 := by have := Wig.kept_le false win (s0, s1) ss; rw [← hk2] at this; omega
    have CA := Lib.hid (fun A c w' h => left_of hk1.symm (args := #[.slice A n c, .int .u64 (win : Int), .agg #[.int .u64 (s0 : Int), .int .u64 (s1 : Int)]]) (F := 10) (w := w') (by rw [hn]; exact pushMax_any win s0 s1 ss A c w' (by omega) hf h hw hs0 hs1))
    have CB := Lib.hid (fun A c w' h => left_of hk2.symm (args := #[.slice A n c, .int .u64 (win : Int), .agg #[.int .u64 (s0 : Int), .int .u64 (s1 : Int)]]) (F := 12) (w := w') (by rw [hn]; exact pushMin_any win s0 s1 ss A c w' (by omega) hf h hw hs0 hs1))
    have CF := Lib.hid (fun A B c d w' => same_lit ss ss n n A B c d w' rfl hn.symm hn.symm (by omega))
    have hgd := smp_guard
    have hne : ∀ w, (binOp .neq 25 (.agg #[.int .u64 (s0 : Int), .int .u64 (s1 : Int)]) (.agg #[.int .u64 (s0 : Int), .int .u64 (s1 : Int)])).run Try.prog w = .ok (.bool false) w := fun w => by
      rw [smp_ne]; simp
    have HN := Lib.hid hn
    have HK1 := Lib.hid b1
    have HK2 := Lib.hid b2
    have z1 : ((ka : Int) + 1 == 0) = false := by simp; omega
    have z2 : ((kb : Int) + 1 == 0) = false := by simp; omega
    clear hk1 hk2 hf hl hw hs0 hs1 hr hn hB1 hsz k0 k1
    go_enter Try.func5, Try.ntmps5
    go_wp2_with fail
    rw [← hwb]
    clear hwb
    refine (C0.out _).mono ?_
    rintro e w1 ⟨rfl, hb1⟩
    have BB := Lib.hid (KB1.out.trans (hb1.mono (by have := KS.out; omega)))
    have q0 := (hb1.cell (p := ⟨w.heap.size, 0, none⟩) (by have := KS.out; simp; omega)).trans K0.out
    have q1 := (hb1.cell (p := ⟨w.heap.size, 1, none⟩) (by have := KS.out; simp; omega)).trans K1.out
    have QB := Lib.hid (show w.heap.size < w1.heap.size by have := KS.out; have := hb1.size; omega)
    have RL1 := Lib.hid (HR.out.below hb1)
    have QS := Lib.hid hb1.size
    clear hb1
    have hmine : Own (w1.alloc (.cells #[] 25)) w1.heap.size (.slice (some ⟨w1.heap.size, 0, none⟩) 0 0) [] := World.ownsRow_lit w1 #[] 0 (Nat.le_refl _) (by decide) rfl
    have HM := Lib.hid hmine
    clear hmine
    go_upto_region 4 with fail
    go_step
    go_step
    go_step
    go_step
    go_step
    go_step
    go_step
    refine wpList_append_list (by rfl) (.tmp 19) (.tmp 20) (by rfl) w1.heap.size _ [] ss (by rfl) HM.out wb.heap.size A c n HN.out.symm (by rfl) (RL1.out.below ((Below.refl wb.heap.size w1).alloc QS.out _)) (by simp; omega) (by simp) ?_
    intro v8 w2 hown8 hg8
    have hb2 : Below w1.heap.size w1 w2 := ((Below.refl _ _).alloc (Nat.le_refl _) _).grown hg8 (by simp) (fun q hq => by simp [Value.ownBlock] at hq; omega)
    obtain ⟨A8, c8, e8, _, hr8, hb8⟩ := hown8.rd
    rw [List.nil_append] at e8 hr8
    rw [← HN.out] at e8
    subst e8
    have R8 := Lib.hid hr8
    have RL2 := Lib.hid (rd_step (RL1.out.wide QS.out) hb2)
    replace q0 := (hb2.cell (p := ⟨w.heap.size, 0, none⟩) QB.out).trans q0
    replace q1 := (hb2.cell (p := ⟨w.heap.size, 1, none⟩) QB.out).trans q1
    replace QB := Lib.hid (Nat.lt_of_lt_of_le QB.out hb2.size)
    have SZ2 := Lib.hid (show w.heap.size < w2.heap.size from QB.out)
    replace BB := Lib.hid (BB.out.trans (hb2.mono (by have := KS.out; have := QS.out; omega)))
    clear hown8 hg8 hb2 hr8 hb8 HM
    go_wp2_with fail
    refine (CA.out _ _ _ R8.out).mono ?_
    rintro e w3 ⟨ga, ca, rfl, hga, hla, hb3⟩
    replace q0 := (hb3.cell (p := ⟨w.heap.size, 0, none⟩) QB.out).trans q0
    replace q1 := (hb3.cell (p := ⟨w.heap.size, 1, none⟩) QB.out).trans q1
    replace QB := Lib.hid (Nat.lt_of_lt_of_le QB.out hb3.size)
    have GA := Lib.hid hga
    have LA := Lib.hid hla
    have B3 := Lib.hid hb3
    clear hga hla hb3
    go_wp2_with fail
    refine (CB.out _ _ _ (rd_step R8.out B3.out)).mono ?_
    rintro e w4 ⟨gb, cb, rfl, hgb, hlb, hb4⟩
    replace q0 := (hb4.cell (p := ⟨w.heap.size, 0, none⟩) QB.out).trans q0
    replace q1 := (hb4.cell (p := ⟨w.heap.size, 1, none⟩) QB.out).trans q1
    have GB := Lib.hid (Nat.lt_of_lt_of_le LA.out.lt hgb)
    have LA4 := Lib.hid (left_below LA.out hb4 LA.out.lt)
    have LB := Lib.hid hlb
    have B4 := Lib.hid (below_trans' B3.out hb4)
    clear hgb hlb hb4 CA CB
    have la0 := LA4.out.last0
    have la1 := LA4.out.last1
    have lb0 := LB.out.last0
    have lb1 := LB.out.last1
    have i0 : (0 : Int) ≤ (ka : Int) := by omega
    have i1 : (0 : Int) ≤ (kb : Int) := by omega
    have i2 : (ka : Int) < (ka : Int) + 1 := by omega
    have i3 : (kb : Int) < (kb : Int) + 1 := by omega
    go_wp2_with fail
    go_quiet (fail)
    clear la0 la1 lb0 lb1 i0 i1 i2 i3 z1 z2 hne hgd
    go_wp2_with fail
    go_loopw [11] (fun i wr => ∃ k q : Nat, k ≤ ka ∧ i = .int .i64 k ∧ wr = w4.drewN q)
      (fun i _ => ka - (intOf i).toNat)
    case atStart => exact ⟨0, nq, Nat.zero_le _, rfl, rfl⟩
    case round =>
      obtain ⟨k, q, hk, rfl, rfl⟩ := hrel
      by_cases hlt : k < ka
      · obtain ⟨x0, x1, hc0, hc1, hbt⟩ := LA4.out.ahead k hlt
        have hd : decide (x1 ≤ s1) = false := decide_eq_false (by simp [Wig.better] at hbt; omega)
        have i0 : (0 : Int) ≤ (k : Int) := by omega
        have i1 : (k : Int) < (ka : Int) + 1 := by omega
        have i2 : (k : Int) < (ka : Int) := by omega
        clear hbt
        go_wp2_with fail
        go_quiet (fail)
        go_wp2_with fail
        go_roundw
        case rel => exact ⟨k + 1, _, by omega, rfl, rfl⟩
        case measure => simp [intOf]; omega
      · have hkn : k = ka := by omega
        subst hkn
        go_wp2_with fail
        go_loopw [12] (fun i wr => ∃ k q : Nat, k ≤ kb ∧ i = .int .i64 k ∧ wr = w4.drewN q)
          (fun i _ => kb - (intOf i).toNat)
        case atStart => exact ⟨0, q, Nat.zero_le _, rfl, rfl⟩
        case round =>
          obtain ⟨k', q', hk', rfl, rfl⟩ := hrel
          by_cases hlt' : k' < kb
          · obtain ⟨x0, x1, hc0, hc1, hbt⟩ := LB.out.ahead k' hlt'
            have hd : decide (s1 ≤ x1) = false := decide_eq_false (by simp [Wig.better] at hbt; omega)
            have i0 : (0 : Int) ≤ (k' : Int) := by omega
            have i1 : (k' : Int) < (kb : Int) + 1 := by omega
            have i2 : (k' : Int) < (kb : Int) := by omega
            clear hbt
            go_wp2_with fail
            go_quiet (fail)
            go_wp2_with fail
            go_roundw
            case rel => exact ⟨k' + 1, _, by omega, rfl, rfl⟩
            case measure => simp [intOf]; omega
          · have hkn' : k' = kb := by omega
            subst hkn'
            obtain ⟨ua, hua⟩ := LA4.out.first
            obtain ⟨ub, hub⟩ := LB.out.first
            have fa := LA4.out.free
            have fb := LB.out.free
            have i0 : (0 : Int) < (k : Int) + 1 := by omega
            have i1 : (0 : Int) < (k' : Int) + 1 := by omega
            have hab : ga ≠ gb := by have := GB.out; omega
            go_wp2_with fail
            have HW : ∀ W, Below w2.heap.size w4 W → Rd W W.heap.size A8 ss ∧ Rd W W.heap.size A ss ∧ Below w.heap.size w W := fun W h =>
              ⟨((R8.out.below B4.out).below h).wide (Nat.le_trans B4.out.size h.size), ((RL2.out.below B4.out).below h).wide (Nat.le_trans B4.out.size h.size),
                (BB.out.trans (B4.out.mono (Nat.le_of_lt SZ2.out))).trans (h.mono (Nat.le_of_lt SZ2.out))⟩
            have ha2 : w2.heap.size ≤ ga := GA.out
            have hb2 : w2.heap.size ≤ gb := by have := GB.out; have := GA.out; omega
            refine (CF.out _ _ _ _ _ (HW _ ?_).1 (HW _ ?_).2.1).mono ?_
            · exact Below.setCell (Below.setCell (below_drewN' (Below.refl _ _) _) ha2 _) hb2 _
            · exact Below.setCell (Below.setCell (below_drewN' (Below.refl _ _) _) ha2 _) hb2 _
            rintro e wz ⟨rfl, kk, rfl⟩
            have FB := Lib.hid (below_drewN' (HW _ (Below.setCell (Below.setCell (below_drewN' (Below.refl w2.heap.size w4) q') (p := ⟨ga, 1, none⟩) ha2 (.int .u64 1)) (p := ⟨gb, 1, none⟩) hb2 (.int .u64 1))).2.2 kk)
            clear HW
            go_wp2_with fail
            go_ret
            exact ⟨rfl, FB.out⟩
  · have h300' : decide ((300 : Int) < (n : Int)) = true := decide_eq_true (by omega)
    clear hf hl hw hs0 hs1 hr hn hB1 hsz k0 k1 h300
    go_enter Try.func5, Try.ntmps5
    go_wp2_with fail
    rw [← hwb]
    clear hwb
    refine (C0.out _).mono ?_
    rintro e w1 ⟨rfl, hb1⟩
    have B1 := Lib.hid hb1
    clear hb1
    go_wp2_with fail
    go_ret
    refine ⟨rfl, KB1.out.trans (B1.out.mono (by have := KS.out; omega))⟩

set_option maxRecDepth 100000 in
theorem lifted (os : Os) (started : os.Started) (H : Type) (enc : TypeId × Value → H) :
    ReturnsInHanded {} Try.checked os 5 .any (Rows.filtFallsSpec.pre6 enc Try.prog Try.f5 Rows.filtFallsRow.domain false) (Rows.filtFallsSpec.post enc Try.prog Try.f5 false true false false) := by
  refine returnsInHanded_of_change (C := Try.checked) own started (by kernel_rfl) Try.func5
    (ChangeSpec.witness6 (enc := enc) (C := Try.checked) false ⟨#[], #[.slice none 0 0, .int .u64 0, .agg #[.int .u64 0, .int .u64 0]], []⟩ 8 (by kernel_rfl) (by kernel_rfl) (by kernel_rfl) (by kernel_rfl)) ?_
  intro W base args ds gs before hval0 hW hcnd _
  have hval : ∀ (j : Nat) t v, Try.f5.params[j]? = some t → args[j]? = some v → Value.okWide Try.prog W .any base t v := hval0
  have hW' := hW
  obtain ⟨p, q, hA0, hV, rfl, hfz, hnd⟩ := hW
  have hA : DataW.TrodAll enc Try.prog W 0 (fun _ => true) true Try.f5.params.toList args.toList ds p := hA0
  obtain ⟨rfl, rfl⟩ := trodVars_none hV
  simp only [List.append_nil] at hW'
  have hlow : ∀ x ∈ p, x.block < W.heap.size := fun x hx => hW'.lt x hx
  have hA2 := hA
  rw [Try.params5] at hval hA2
  obtain ⟨v0, vs0, d0, ds0, p0, q0, hargs, rfl, rfl, h0, r0⟩ := trodAll_cons hA2
  obtain ⟨v1, vs1, d1, ds1, p1, q1, rfl, rfl, rfl, h1, r1⟩ := trodAll_cons r0
  obtain ⟨v2, vs2, d2, ds2, p2, q2, rfl, rfl, rfl, h2, r2⟩ := trodAll_cons r1
  obtain ⟨rfl, rfl, rfl⟩ := trodAll_nil r2
  obtain rfl : args = #[v0, v1, v2] := by cases args; simp_all
  obtain ⟨A0, c0, ss0, rfl, hf0, hr0, hl0⟩ := open_samples Try.underlying22 Try.underlying25 (by kernel_rfl) (by kernel_rfl) rfl rfl Try.underlying23 (hval 0 22 v0 rfl rfl) h0 (fun x hx => hlow x (by simp [hx]))
  obtain ⟨n1, rfl, hn1⟩ := open_u64 Try.underlying23 (hval 1 23 v1 rfl rfl) h1
  obtain ⟨a2, b2, rfl, ha2, hb2⟩ := open_two Try.underlying25 (by kernel_rfl) (by kernel_rfl) rfl rfl Try.underlying23 (hval 2 25 v2 rfl rfl) h2
  refine (walk A0 c0 ss0 n1 a2 b2 hf0 hl0 hn1 ha2 hb2 W hr0).mono fun e W' ⟨he, hg⟩ => ?_
  subst he
  exact ⟨_, rfl, law_true laid_out (by kernel_rfl) rfl Try.underlying4 (by kernel_rfl) hW' hA rfl rfl rfl hg⟩

theorem over : Rows.filtFallsRow.holds Try.pinned (OpenSpec.ofChange Rows.filtFallsSpec) :=
  OpenClaim.holds_of_wide 5 Try.f5 rfl rfl rfl rfl rfl rfl rfl ⟨rfl, rfl, rfl, rfl, rfl⟩ rfl rfl rfl rfl rfl (by kernel_rfl) Try.func5 (by kernel_rfl)
    (of_decide_eq_true (by kernel_rfl)) (by unfold Func.isWrapper; first | (rw [if_pos (by decide +kernel)]; kernel_rfl) | (rw [if_neg (by decide +kernel)]; exact ⟨rfl, rfl⟩))
    (fun os started H enc _ => lifted os started H enc)

/-- The statement. -/
theorem proved : Rows.FiltFallsSaid := over
end Go.Proofs.Ytmfldjdkmfpdkaa.filtFalls
