/-
  Rpo: What the document's reader tells lies in the fields' ranges; the document's Parse as the readers' frame. Plain numbers and lists. No condition.
  Rb2: The document's ack(2, b), walked. Condition: the bytes have an address.
  Rb3: The document's ack(3, b), walked. Condition: the bytes have an address.
  Rbh: The document's behind(kind, fin, b): the frame of a Kind. Condition: the bytes have an address; there is such a Kind.
  Rbi: The document's behind(14, fin, b): a frame of a stream. Condition: the bytes have an address.
-/
import Derived.Test.YtogioabdijgglaaDoorRpn
import Derived.Test.YtogioabdijgglaaDoorRal
section
set_option linter.unusedVariables false
set_option linter.unusedSimpArgs false
namespace Wig
theorem rtake_lt : ∀ (n : Nat) {xs vs r : List Nat}, Bytes xs → rtake n xs = some (vs, r) → (∀ v ∈ vs, v < 4611686018427387904) ∧ Bytes r
  | 0, xs, vs, r, hx, h => by
    injection h with h
    injection h with h1 h2
    rw [← h1, ← h2]
    exact ⟨by simp, hx⟩
  | n + 1, xs, vs, r, hx, h => by
    obtain ⟨v, m, h1, h2⟩ := pbind_some h
    obtain ⟨vs', m', h3, h4⟩ := pbind_some h2
    injection h4 with h4
    injection h4 with h5 h6
    have f := num1_facts hx h1
    obtain ⟨_, _, e⟩ := num1_some h1
    have hm : Bytes m := by rw [e]; exact hx.drop _
    obtain ⟨q1, q2⟩ := rtake_lt n hm h3
    rw [← h5, ← h6]
    exact ⟨fun y hy => by
      rcases List.mem_cons.1 hy with rfl | hy
      · exact f.1
      · exact q1 y hy, q2⟩
theorem rpairs_lt (B : Nat) : ∀ (vs : List Nat) (at_ : Nat) (out s : List Spn), at_ ≤ B → (∀ p ∈ out, p.1 ≤ B ∧ p.2 ≤ B) → rpairs at_ out vs = some s → ∀ p ∈ s, p.1 ≤ B ∧ p.2 ≤ B
  | [], at_, out, s, ha, ho, h => by cases h; exact ho
  | [g], at_, out, s, ha, ho, h => by cases h; exact ho
  | g :: l :: vs, at_, out, s, ha, ho, h => by
    rw [rpairs] at h
    split at h
    · cases h
    · refine rpairs_lt B vs _ _ s (by omega) (fun p hp => ?_) h
      rcases List.mem_cons.1 hp with rfl | hp
      · exact ⟨by simp only []; omega, by simp only []; omega⟩
      · exact ho p hp
theorem racked_lt {vs : List Nat} {s : List Spn} (hv : ∀ v ∈ vs, v < 4611686018427387904) (h : racked vs = some s) : ∀ p ∈ s, p.1 < 18446744073709551616 ∧ p.2 < 18446744073709551616 := by
  rcases vs with _ | ⟨t, _ | ⟨l, vs⟩⟩
  · cases h
  · cases h
  · have ht := hv t (by simp)
    simp only [racked] at h
    by_cases q : t < l
    · rw [if_pos q] at h; cases h
    · rw [if_neg q] at h
      have := rpairs_lt 4611686018427387904 vs (t - l) [(t - l, t + 1)] s (by omega) (fun p hp => by rw [List.mem_singleton.1 hp]; exact ⟨by simp only []; omega, by simp only []; omega⟩) h
      intro p hp
      have := this p hp
      omega
theorem getD_lt {l : List Nat} (h : ∀ v ∈ l, v < 4611686018427387904) (i : Nat) : l.getD i 0 < 4611686018427387904 := by
  rw [List.getD_eq_getElem?_getD]
  cases e : l[i]? with
  | none => simp
  | some v => exact h v (List.mem_of_getElem? e)
theorem ok_of {f : Fr} (hk : 0 ≤ f.kind ∧ f.kind ≤ 30) (h0 : f.id < 18446744073709551616) (h1 : f.off < 18446744073709551616) (h2 : f.max < 18446744073709551616) (h3 : f.code < 18446744073709551616) (h4 : f.delay < 18446744073709551616) (h5 : f.ce < 18446744073709551616) (hd : Bytes f.data) (hs : ∀ s ∈ f.spans, s.1 < 18446744073709551616 ∧ s.2 < 18446744073709551616) : f.Ok :=
  ⟨by omega, fun k => by
    match k with
    | 0 => exact h0
    | 1 => exact h1
    | 2 => exact h2
    | 3 => exact h3
    | 4 => exact h4
    | k + 5 => exact h5, hd, hs⟩
theorem dplain_ok (k : Nat) {l : List Nat} (hk : k ≤ 30) (h : ∀ v ∈ l, v < 4611686018427387904) : (dplain k l).Ok := by
  have g0 := getD_lt h 0
  have g1 := getD_lt h 1
  have g2 := getD_lt h 2
  unfold dplain
  repeat' split
  all_goals exact ok_of ⟨by simp only []; omega, by simp only []; omega⟩ (by simp only [Fr.zero]; omega) (by simp only [Fr.zero]; omega) (by simp only [Fr.zero]; omega) (by simp only [Fr.zero]; omega) (by simp only [Fr.zero]; omega) (by simp only [Fr.zero]; omega) (by intro x hx; cases hx) (by intro x hx; cases hx)
theorem give_some {α : Type} {o : Option α} {xs r : List Nat} {a : α} (h : pgive o xs = some (a, r)) : o = some a ∧ r = xs := by
  cases o with
  | none => cases h
  | some b => injection h with h; injection h with h1 h2; exact ⟨by rw [h1], h2.symm⟩
theorem headD_lt {l : List Nat} (h : ∀ v ∈ l, v < 4611686018427387904) : l.headD 0 < 4611686018427387904 := by
  cases l with
  | nil => simp
  | cons a l => exact h a (by simp)
theorem dack_ok (k : Nat) {xs r : List Nat} {f : Fr} (hk : k ≤ 30) (hx : Bytes xs) (h : dack k xs = some (f, r)) : f.Ok := by
  obtain ⟨c, m, h1, h2⟩ := pbind_some h
  obtain ⟨_, _, e⟩ := num1_some h1
  have hm : Bytes m := by rw [e]; exact hx.drop _
  by_cases q : c < 1 ∨ 32 < c
  · rw [if_pos q] at h2; cases h2
  · rw [if_neg q] at h2
    obtain ⟨vs, m2, h3, h4⟩ := pbind_some h2
    obtain ⟨more, m3, h5, h6⟩ := pbind_some h4
    obtain ⟨s, m4, h7, h8⟩ := pbind_some h6
    obtain ⟨q1, q2⟩ := rtake_lt _ hm h3
    obtain ⟨q3, q4⟩ := rtake_lt _ q2 h5
    obtain ⟨q5, _⟩ := give_some h7
    injection h8 with h8
    injection h8 with h8 _
    have d0 := headD_lt q3
    have d1 : ((more.drop 1).headD 0) < 4611686018427387904 := headD_lt fun v hv => q3 v (List.mem_of_mem_drop hv)
    rw [← h8]
    exact ok_of ⟨by simp only []; omega, by simp only []; omega⟩ (by simp only [Fr.zero]; omega) (by simp only [Fr.zero]; omega) (by simp only [Fr.zero]; omega) (by simp only [Fr.zero]; omega) (by simp only []; omega) (by simp only []; split <;> omega) (by intro x hx; cases hx) (racked_lt q1 q5)
theorem dbehind_ok (k : Nat) (fin : Bool) {xs r : List Nat} {f : Fr} (hk : k ≤ 30) (hx : Bytes xs) (h : dbehind k fin xs = some (f, r)) : f.Ok := by
  unfold dbehind at h
  by_cases q : k = 2 ∨ k = 3
  · rw [if_pos q] at h
    exact dack_ok k hk hx h
  · rw [if_neg q] at h
    obtain ⟨l, m, h1, h2⟩ := pbind_some h
    obtain ⟨q1, q2⟩ := rtake_lt _ hx h1
    by_cases q14 : k = 14
    · rw [if_pos q14] at h2
      by_cases q3 : 1200 < l.getD 2 0
      · rw [if_pos q3] at h2; cases h2
      · rw [if_neg q3] at h2
        obtain ⟨d, m2, h3, h4⟩ := pbind_some h2
        injection h4 with h4
        injection h4 with h4 _
        unfold rdTake at h3
        split at h3
        · cases h3
        · injection h3 with h3
          injection h3 with h3 _
          have o := dplain_ok 14 (by omega) q1
          have hdat : Bytes d := by rw [← h3]; exact fun y hy => q2 y (List.mem_of_mem_take hy)
          rw [← h4]
          exact ⟨o.kind, fun k => o.num k, hdat, o.spans⟩
    · rw [if_neg q14] at h2
      injection h2 with h2
      injection h2 with h2 _
      rw [← h2]
      exact dplain_ok k hk q1
/-- The document's Parse is the readers' frame. -/
theorem parse_short {xs : List Nat} (h : vshort xs = true) : rdFrame xs = none := by
  unfold rdFrame pbind num1
  rw [h]
  rfl
theorem parse_kind {xs : List Nat} (h : vshort xs = false) : rdFrame xs = rdKind (vnum xs) (xs.drop (vneed xs)) := by
  unfold rdFrame pbind num1
  rw [h]
  rfl
theorem kind_far {k : Nat} (h : 30 < k) : rdKind k = pfail := by
  refine kind_none k ?_
  have hb : kbase k = k := by unfold kbase; rw [if_neg (by omega)]
  rw [hb]
  cases e : flds k with
  | none => rfl
  | some has => have := flds_le e; omega
theorem kind_of {k : Nat} (h : (flds (kbase k)).isSome = true) (r : List Nat) : rdKind k r = match dbehind (kbase k) (decide (k = 15)) r with | none => none | some (f, r2) => if fine f then some (f, r2) else none := by
  rw [← behind_kind k h]
  unfold pbind
  cases dbehind (kbase k) (decide (k = 15)) r with
  | none => rfl
  | some q =>
    obtain ⟨f, r2⟩ := q
    simp only []
    unfold rdEnd
    split <;> rfl
end Wig
end

section
namespace Go.Proofs.YtogioabdijgglaaDoor
open Go.ChangeShapes Go.WideShapes Go.ChangeAt Go.RowKit Go.Deep
set_option linter.unusedVariables false
set_option maxHeartbeats 16000000 in
set_option maxRecDepth 100000 in
theorem rack_2 (ab ao n c : Nat) (xs : List Nat) (w : World) (hx : Wig.Bytes xs) (hr : RdN .u8 w w.heap.size (some ⟨ab, ao, none⟩) xs) (hn : n = xs.length) (hl : n ≤ c) (hc : c ≤ maxLen) :
    Calls Tryd.prog 42 #[.int .i64 2, .slice (some ⟨ab, ao, none⟩) n c] w (FrameAt (Wig.dack 2) xs w) := by
  obtain ⟨wn, hwn⟩ : ∃ wn, wn = w.alloc (.cells #[.int .i64 0, .int .u64 0, .int .u64 0, .int .u64 0, .int .u64 0, .int .u64 0, .int .u64 0, .bool false, .slice none 0 0, .slice none 0 0] 26) := ⟨_, rfl⟩
  have BX := Lib.hid (show Box wn w.heap.size by rw [hwn]; exact box_new w _)
  have HB := Lib.hid (show Below w.heap.size w wn by rw [hwn]; exact (Below.refl _ _).alloc (Nat.le_refl _) _)
  have HR := Lib.hid ((hr.below HB.out).wide HB.out.size)
  have HX := Lib.hid (And.intro hx (And.intro hn (And.intro hl hc)))
  have C1 := Lib.hid (rtake_any ab ao n c 1 xs wn hx HR.out hn hl hc (by omega))
  have D := Wig.dack_of 2 xs
  clear hx hr hn hl hc
  go_enter Tryd.func42, Tryd.ntmps42
  go_wp2_with fail
  rw [← hwn]
  clear hwn
  refine (C1.out).mono ?_
  rintro e w1 h1
  obtain ⟨A1, m1, mc1, p, ok1, vs1, rfl, hm1, hr1, hv1, hb1, hs1, hf1⟩ := takeAt_u h1
  have B1 := Lib.hid hb1
  clear h1 C1
  cases ok1 with
  | false =>
    have R := Lib.hid (show Wig.dack 2 xs = none by rw [D, hf1 rfl])
    clear D hm1 hr1 hv1 hb1 hs1 hf1
    obtain ⟨⟨k0, k1, k2, k3, k4, k5, k6, k7, k8, k9⟩, z0, z1, z2, z3, z4, z5, z6, z7, z8, z9⟩ := box_cells BX.out (B1.out)
    have HZ := Lib.hid (box_zero BX.out (B1.out))
    go_wp2_with fail
    obtain ⟨wz, hwz⟩ : ∃ wz, wz = w1.setCells w.heap.size 0 (farr Wig.Fr.zero none 0 none 0).toList := ⟨_, rfl⟩
    obtain ⟨y, hy⟩ := HZ.out
    rw [← hwz] at y hy
    show bodyPost _ _ _ _ _ (w1.setCells w.heap.size 0 (farr Wig.Fr.zero none 0 none 0).toList)
    rw [← hwz]
    obtain ⟨y0, y1, y2, y3, y4, y5, y6, y7, y8, y9⟩ := at_cells y
    clear hwz HZ k0 k1 k2 k3 k4 k5 k6 k7 k8 k9 z0 z1 z2 z3 z4 z5 z6 z7 z8 z9
    exact bodyPost_ret (v := .tuple #[.agg (farr Wig.Fr.zero none 0 none 0), .int .i64 0, .bool false]) (by simp [results, Tryd.results42, farr, Wig.Fr.zero, go_sem, y0, y1, y2, y3, y4, y5, y6, y7, y8, y9]) rfl (.inl ⟨R.out, rfl, HB.out.trans hy⟩)
  | true =>
    obtain ⟨ht1, hp⟩ := hs1 rfl
    obtain ⟨cn, rfl⟩ := one_of ht1
    have cn62 := hv1 cn (by simp)
    obtain ⟨a1, o1, rfl, la1, ca1⟩ := hr1.at_ (j := 0) (x := cn) rfl
    simp only [Nat.add_zero] at ca1
    simp only [List.length_singleton] at hm1
    subst hm1
    rw [ht1] at D
    simp only [List.headD_cons] at D
    have B1' := hb1
    clear hr1 hv1 hs1 hf1 ht1 hb1
    by_cases q1 : cn < 1
    · have t1 : decide ((cn : Int) < 1) = true := decide_eq_true (by omega)
      have t1' : decide (cn < 1) = true := decide_eq_true q1
      have R := Lib.hid (show Wig.dack 2 xs = none by rw [D]; exact if_pos (Or.inl q1))
      clear D q1 hp cn62 la1 B1'
      obtain ⟨⟨k0, k1, k2, k3, k4, k5, k6, k7, k8, k9⟩, z0, z1, z2, z3, z4, z5, z6, z7, z8, z9⟩ := box_cells BX.out (B1.out)
      have HZ := Lib.hid (box_zero BX.out (B1.out))
      go_wp2_with fail
      obtain ⟨wz, hwz⟩ : ∃ wz, wz = w1.setCells w.heap.size 0 (farr Wig.Fr.zero none 0 none 0).toList := ⟨_, rfl⟩
      obtain ⟨y, hy⟩ := HZ.out
      rw [← hwz] at y hy
      show bodyPost _ _ _ _ _ (w1.setCells w.heap.size 0 (farr Wig.Fr.zero none 0 none 0).toList)
      rw [← hwz]
      obtain ⟨y0, y1, y2, y3, y4, y5, y6, y7, y8, y9⟩ := at_cells y
      clear hwz HZ k0 k1 k2 k3 k4 k5 k6 k7 k8 k9 z0 z1 z2 z3 z4 z5 z6 z7 z8 z9
      exact bodyPost_ret (v := .tuple #[.agg (farr Wig.Fr.zero none 0 none 0), .int .i64 0, .bool false]) (by simp [results, Tryd.results42, farr, Wig.Fr.zero, go_sem, y0, y1, y2, y3, y4, y5, y6, y7, y8, y9]) rfl (.inl ⟨R.out, rfl, HB.out.trans hy⟩)
    have t1 : decide ((cn : Int) < 1) = false := decide_eq_false (by omega)
    have t1' : decide (cn < 1) = false := decide_eq_false q1
    by_cases q2 : 32 < cn
    · have t2 : decide ((32 : Int) < (cn : Int)) = true := decide_eq_true (by omega)
      have t2' : decide (32 < cn) = true := decide_eq_true q2
      have R := Lib.hid (show Wig.dack 2 xs = none by rw [D]; exact if_pos (Or.inr q2))
      clear D q1 q2 hp cn62 la1 B1'
      obtain ⟨⟨k0, k1, k2, k3, k4, k5, k6, k7, k8, k9⟩, z0, z1, z2, z3, z4, z5, z6, z7, z8, z9⟩ := box_cells BX.out (B1.out)
      have HZ := Lib.hid (box_zero BX.out (B1.out))
      go_wp2_with fail
      obtain ⟨wz, hwz⟩ : ∃ wz, wz = w1.setCells w.heap.size 0 (farr Wig.Fr.zero none 0 none 0).toList := ⟨_, rfl⟩
      obtain ⟨y, hy⟩ := HZ.out
      rw [← hwz] at y hy
      show bodyPost _ _ _ _ _ (w1.setCells w.heap.size 0 (farr Wig.Fr.zero none 0 none 0).toList)
      rw [← hwz]
      obtain ⟨y0, y1, y2, y3, y4, y5, y6, y7, y8, y9⟩ := at_cells y
      clear hwz HZ k0 k1 k2 k3 k4 k5 k6 k7 k8 k9 z0 z1 z2 z3 z4 z5 z6 z7 z8 z9
      exact bodyPost_ret (v := .tuple #[.agg (farr Wig.Fr.zero none 0 none 0), .int .i64 0, .bool false]) (by simp [results, Tryd.results42, farr, Wig.Fr.zero, go_sem, y0, y1, y2, y3, y4, y5, y6, y7, y8, y9]) rfl (.inl ⟨R.out, rfl, HB.out.trans hy⟩)
    have t2 : decide ((32 : Int) < (cn : Int)) = false := decide_eq_false (by omega)
    have t2' : decide (32 < cn) = false := decide_eq_false q2
    replace D := D.trans (if_neg (show ¬ (cn < 1 ∨ 32 < cn) by omega))
    have HP := Lib.hid (And.intro hp (show 1 ≤ cn ∧ cn ≤ 32 by omega))
    have LT := Lib.hid la1
    have CA := Lib.hid ca1
    obtain ⟨cq, hcq⟩ : ∃ cq, cq = 2 * cn := ⟨_, rfl⟩
    have f1 : IntKind.u64.wrap (2 * (cn : Int)) = (cq : Int) := by rw [IntKind.wrap_u64]; omega
    have f2 : IntKind.i64.wrap (cq : Int) = (cq : Int) := by rw [IntKind.wrap_i64]; omega
    have b1 : (0 : Int) ≤ (p : Int) := by omega
    have b2 : p ≤ n := by have := HX.out; omega
    have b3 : p ≤ c := by have := HX.out; omega
    have b4 : n ≤ c := HX.out.2.2.1
    rw [← hcq] at D
    have HQ := Lib.hid hcq
    have B1h := Lib.hid B1'
    clear q1 q2 hp cn62 la1 B1' hcq
    by_cases hcp : c = p
    · have hnp : n = p := by omega
      have hd : xs.drop p = [] := List.drop_eq_nil_of_le (by have := HX.out; omega)
      subst hcp
      have CT := Lib.hid fun w' => take_empty ab ao 0 cq w' rfl (by have := HQ.out; have := HP.out; omega) (by have := HQ.out; have := HP.out; omega)
      have R := Lib.hid (show Wig.dack 2 xs = none by rw [D, hd, take_nil cq (by have := HQ.out; have := HP.out; omega)])
      clear D hd hnp
      go_wp2_with fail
      go_region_held3 (fun w' => w'.cell? ⟨a1, o1, none⟩ = some (.int .u64 (cn : Int)) ∧ Below w1.heap.size w1 w')
        ((refine held_one CA.out LT.out ?_; first | exact (Below.refl _ _).drew | assumption | exact below_drewN' (by assumption) _ | fail))
        (first
          | (go_at_call 43; refine (CT.out _).mono ?_; rintro e wa ⟨rfl, hba⟩; have hbm := below_trans' (a := w1) (held_b (by assumption)) hba; have BM := Lib.hid hbm; clear hba)
          | fail)
      obtain ⟨⟨k0, k1, k2, k3, k4, k5, k6, k7, k8, k9⟩, z0, z1, z2, z3, z4, z5, z6, z7, z8, z9⟩ := box_cells BX.out (B1h.out.trans (BM.out.mono B1h.out.size))
      have HZ := Lib.hid (box_zero BX.out (B1h.out.trans (BM.out.mono B1h.out.size)))
      go_wp2_with fail
      obtain ⟨wz, hwz⟩ : ∃ wz, wz = wa.setCells w.heap.size 0 (farr Wig.Fr.zero none 0 none 0).toList := ⟨_, rfl⟩
      obtain ⟨y, hy⟩ := HZ.out
      rw [← hwz] at y hy
      show bodyPost _ _ _ _ _ (wa.setCells w.heap.size 0 (farr Wig.Fr.zero none 0 none 0).toList)
      rw [← hwz]
      obtain ⟨y0, y1, y2, y3, y4, y5, y6, y7, y8, y9⟩ := at_cells y
      clear hwz HZ k0 k1 k2 k3 k4 k5 k6 k7 k8 k9 z0 z1 z2 z3 z4 z5 z6 z7 z8 z9
      exact bodyPost_ret (v := .tuple #[.agg (farr Wig.Fr.zero none 0 none 0), .int .i64 0, .bool false]) (by simp [results, Tryd.results42, farr, Wig.Fr.zero, go_sem, y0, y1, y2, y3, y4, y5, y6, y7, y8, y9]) rfl (.inl ⟨R.out, rfl, HB.out.trans hy⟩)
    · have hpn := HX.out
      have hrp : RdN .u8 wn wn.heap.size (some ⟨ab, ao + p, none⟩) (xs.drop p) := RdN.drop HR.out p
      have CT := Lib.hid fun (w' : World) (hb : Below w1.heap.size w1 w') => (rtake_any ab (ao + p) (n - p) (c - p) cq (xs.drop p) w' (HX.out.1.drop p) (by
        have hbb : Below wn.heap.size wn w' := below_trans' B1h.out hb
        exact (hrp.below hbb).wide hbb.size) (by rw [List.length_drop, ← hpn.2.1]) (by omega) (by omega) (by have := HQ.out; have := HP.out; omega)).mono fun _ _ h => takeAt_u h
      have HD := Lib.hid D
      clear D hpn hrp
      go_wp2_with fail
      go_region_held3 (fun w' => w'.cell? ⟨a1, o1, none⟩ = some (.int .u64 (cn : Int)) ∧ Below w1.heap.size w1 w')
        ((refine held_one CA.out LT.out ?_; first | exact (Below.refl _ _).drew | assumption | exact below_drewN' (by assumption) _ | fail))
        (first
          | (go_at_call 43; refine (CT.out _ (held_b (by assumption))).mono ?_; rintro e w2 ⟨A2, m2, mc2, p2, ok2, vs2, rfl, hm2, hr2, hv2, hb2, hs2, hf2⟩; have hbm := below_trans' (a := w1) (held_b (by assumption)) hb2; have B2 := Lib.hid (B1h.out.trans (hbm.mono B1h.out.size)); have H2 := Lib.hid (And.intro hm2 (And.intro hr2 (And.intro hv2 (And.intro hs2 hf2)))); clear hm2 hr2 hv2 hs2 hf2 hb2)
          | fail)
      clear CT ca1
      cases ok2 with
      | false =>
        have R := Lib.hid (show Wig.dack 2 xs = none by rw [HD.out, H2.out.2.2.2.2 rfl])
        clear HD H2
        obtain ⟨⟨k0, k1, k2, k3, k4, k5, k6, k7, k8, k9⟩, z0, z1, z2, z3, z4, z5, z6, z7, z8, z9⟩ := box_cells BX.out (B2.out)
        have HZ := Lib.hid (box_zero BX.out (B2.out))
        go_wp2_with fail
        obtain ⟨wz, hwz⟩ : ∃ wz, wz = w2.setCells w.heap.size 0 (farr Wig.Fr.zero none 0 none 0).toList := ⟨_, rfl⟩
        obtain ⟨y, hy⟩ := HZ.out
        rw [← hwz] at y hy
        show bodyPost _ _ _ _ _ (w2.setCells w.heap.size 0 (farr Wig.Fr.zero none 0 none 0).toList)
        rw [← hwz]
        obtain ⟨y0, y1, y2, y3, y4, y5, y6, y7, y8, y9⟩ := at_cells y
        clear hwz HZ k0 k1 k2 k3 k4 k5 k6 k7 k8 k9 z0 z1 z2 z3 z4 z5 z6 z7 z8 z9
        exact bodyPost_ret (v := .tuple #[.agg (farr Wig.Fr.zero none 0 none 0), .int .i64 0, .bool false]) (by simp [results, Tryd.results42, farr, Wig.Fr.zero, go_sem, y0, y1, y2, y3, y4, y5, y6, y7, y8, y9]) rfl (.inl ⟨R.out, rfl, HB.out.trans hy⟩)
      | true =>
        obtain ⟨hm2, hr2, hv2, hs2, -⟩ := H2.out
        obtain ⟨ht2, hp2⟩ := hs2 rfl
        have hl2 := Wig.rtake_len _ ht2
        obtain ⟨x2, hx2⟩ : ∃ x, vs2[0]? = some x := ⟨_, List.getElem?_eq_getElem (by have := HQ.out; have := HP.out; omega)⟩
        obtain ⟨a2, o2, rfl, _, _⟩ := hr2.at_ hx2
        have CK := Lib.hid ((racked_any a2 o2 m2 mc2 cn vs2 w2 hm2 (by have := HQ.out; omega) HP.out.2.1 HP.out.2.2 hv2 hr2).mono fun _ _ h => ackedAt_u h)
        have D := HD.out
        rw [ht2] at D
        simp only [] at D
        rw [List.length_drop] at hp2
        obtain ⟨q, hq⟩ : ∃ q, q = p + p2 := ⟨_, rfl⟩
        rw [List.drop_drop, ← hq] at D
        have g1 : IntKind.i64.wrap ((p : Int) + (p2 : Int)) = (q : Int) := by rw [IntKind.wrap_i64]; have h1 := HX.out; unfold maxLen at h1; have := HP.out; omega
        have c1 : (0 : Int) ≤ (q : Int) := by omega
        have c2 : q ≤ n := by have := HX.out; have := HP.out; omega
        have c3 : q ≤ c := by have := HX.out; omega
        have HDD := Lib.hid D
        have HQN := Lib.hid (show q ≤ xs.length by have := HX.out; omega)
        clear hm2 hr2 hv2 hs2 ht2 hp2 hl2 hx2 hq D HD H2 hcp
        go_wp2_with fail
        refine (CK.out).mono ?_
        rintro e w3 ⟨S, ms, sc, ok3, s, rfl, hms, hsc, hsm, hrs, hbs, hb3, hs3, hf3⟩
        have B3 := Lib.hid (B2.out.trans (hb3.mono B2.out.size))
        have H3 := Lib.hid (And.intro hms (And.intro hsc (And.intro hsm (And.intro hrs (And.intro hbs (And.intro hs3 hf3))))))
        clear hms hsc hsm hrs hbs hb3 hs3 hf3 CK
        by_cases hcq : c = q
        · have hd : xs.drop q = [] := List.drop_eq_nil_of_le (by have := HX.out; omega)
          have C4 := Lib.hid (show Calls Tryd.prog 43 #[.slice (some ⟨ab, ao, none⟩) 0 0, .int .i64 1] w3 fun e w' => e = .returned (.tuple #[.slice none 0 0, .int .i64 0, .bool false]) ∧ Below w3.heap.size w3 w' from take_empty ab ao 0 1 w3 rfl (by omega) (by omega))
          have R := Lib.hid (show Wig.dack 2 xs = none by rw [HDD.out, hd]; exact (by rw [if_neg (by decide), take_nil 1 (by omega)]))
          clear hd HDD
          subst hcq
          cases ok3
          all_goals
            go_wp2_with fail
            refine (C4.out).mono ?_
            rintro e w4 ⟨rfl, hb4⟩
            have B4 := Lib.hid (B3.out.trans (hb4.mono B3.out.size))
            clear hb4
            obtain ⟨⟨k0, k1, k2, k3, k4, k5, k6, k7, k8, k9⟩, z0, z1, z2, z3, z4, z5, z6, z7, z8, z9⟩ := box_cells BX.out (B4.out)
            have HZ := Lib.hid (box_zero BX.out (B4.out))
            go_wp2_with fail
            obtain ⟨wz, hwz⟩ : ∃ wz, wz = w4.setCells w.heap.size 0 (farr Wig.Fr.zero none 0 none 0).toList := ⟨_, rfl⟩
            obtain ⟨y, hy⟩ := HZ.out
            rw [← hwz] at y hy
            show bodyPost _ _ _ _ _ (w4.setCells w.heap.size 0 (farr Wig.Fr.zero none 0 none 0).toList)
            rw [← hwz]
            obtain ⟨y0, y1, y2, y3, y4, y5, y6, y7, y8, y9⟩ := at_cells y
            clear hwz HZ k0 k1 k2 k3 k4 k5 k6 k7 k8 k9 z0 z1 z2 z3 z4 z5 z6 z7 z8 z9
            exact bodyPost_ret (v := .tuple #[.agg (farr Wig.Fr.zero none 0 none 0), .int .i64 0, .bool false]) (by simp [results, Tryd.results42, farr, Wig.Fr.zero, go_sem, y0, y1, y2, y3, y4, y5, y6, y7, y8, y9]) rfl (.inl ⟨R.out, rfl, HB.out.trans hy⟩)
        · have C4 := Lib.hid (show Calls Tryd.prog 43 #[.slice (some ⟨ab, ao + q, none⟩) (n - q) (c - q), .int .i64 1] w3 (TakeU (xs.drop q) 1 w3) from (rtake_any ab (ao + q) (n - q) (c - q) 1 (xs.drop q) w3 (HX.out.1.drop q) ((RdN.drop (HR.out.below B3.out) q).wide B3.out.size) (by rw [List.length_drop, ← HX.out.2.1]) (by omega) (by have := HX.out; omega) (by omega)).mono fun _ _ h => takeAt_u h)
          have D : Wig.dack 2 xs = _ := HDD.out
          rw [if_neg (show ¬ 2 = 3 by decide)] at D
          have HD4 := Lib.hid D
          clear D HDD
          cases ok3 with
          | false =>
            have R := Lib.hid (show Wig.dack 2 xs = none by
              rw [HD4.out, H3.out.2.2.2.2.2.2 rfl]
              cases Wig.rtake 1 (xs.drop q) <;> rfl)
            clear HD4 H3
            go_wp2_with fail
            refine (C4.out).mono ?_
            rintro e w4 ⟨A4, m4, mc4, p4, ok4, vs4, rfl, -, -, -, hb4, -, -⟩
            have B4 := Lib.hid (B3.out.trans (hb4.mono B3.out.size))
            clear hb4
            obtain ⟨⟨k0, k1, k2, k3, k4, k5, k6, k7, k8, k9⟩, z0, z1, z2, z3, z4, z5, z6, z7, z8, z9⟩ := box_cells BX.out (B4.out)
            have HZ := Lib.hid (box_zero BX.out (B4.out))
            go_wp2_with fail
            obtain ⟨wz, hwz⟩ : ∃ wz, wz = w4.setCells w.heap.size 0 (farr Wig.Fr.zero none 0 none 0).toList := ⟨_, rfl⟩
            obtain ⟨y, hy⟩ := HZ.out
            rw [← hwz] at y hy
            show bodyPost _ _ _ _ _ (w4.setCells w.heap.size 0 (farr Wig.Fr.zero none 0 none 0).toList)
            rw [← hwz]
            obtain ⟨y0, y1, y2, y3, y4, y5, y6, y7, y8, y9⟩ := at_cells y
            clear hwz HZ k0 k1 k2 k3 k4 k5 k6 k7 k8 k9 z0 z1 z2 z3 z4 z5 z6 z7 z8 z9
            exact bodyPost_ret (v := .tuple #[.agg (farr Wig.Fr.zero none 0 none 0), .int .i64 0, .bool false]) (by simp [results, Tryd.results42, farr, Wig.Fr.zero, go_sem, y0, y1, y2, y3, y4, y5, y6, y7, y8, y9]) rfl (.inl ⟨R.out, rfl, HB.out.trans hy⟩)
          | true =>
            have HS5 := Lib.hid (H3.out.2.2.2.2.2.1 rfl)
            have HS6 := Lib.hid (And.intro H3.out.1 (And.intro H3.out.2.1 (And.intro H3.out.2.2.1 (And.intro H3.out.2.2.2.1 H3.out.2.2.2.2.1))))
            clear H3
            go_wp2_with fail
            refine (C4.out).mono ?_
            rintro e w4 ⟨A4, m4, mc4, p4, ok4, vs4, rfl, hm4, hr4, hv4, hb4, hs4, hf4⟩
            have B4 := Lib.hid (B3.out.trans (hb4.mono B3.out.size))
            have BS := Lib.hid hb4
            cases ok4 with
            | false =>
              have R := Lib.hid (show Wig.dack 2 xs = none by rw [HD4.out, hf4 rfl])
              clear hm4 hr4 hv4 hb4 hs4 hf4 HD4
              obtain ⟨⟨k0, k1, k2, k3, k4, k5, k6, k7, k8, k9⟩, z0, z1, z2, z3, z4, z5, z6, z7, z8, z9⟩ := box_cells BX.out (B4.out)
              have HZ := Lib.hid (box_zero BX.out (B4.out))
              go_wp2_with fail
              obtain ⟨wz, hwz⟩ : ∃ wz, wz = w4.setCells w.heap.size 0 (farr Wig.Fr.zero none 0 none 0).toList := ⟨_, rfl⟩
              obtain ⟨y, hy⟩ := HZ.out
              rw [← hwz] at y hy
              show bodyPost _ _ _ _ _ (w4.setCells w.heap.size 0 (farr Wig.Fr.zero none 0 none 0).toList)
              rw [← hwz]
              obtain ⟨y0, y1, y2, y3, y4, y5, y6, y7, y8, y9⟩ := at_cells y
              clear hwz HZ k0 k1 k2 k3 k4 k5 k6 k7 k8 k9 z0 z1 z2 z3 z4 z5 z6 z7 z8 z9
              exact bodyPost_ret (v := .tuple #[.agg (farr Wig.Fr.zero none 0 none 0), .int .i64 0, .bool false]) (by simp [results, Tryd.results42, farr, Wig.Fr.zero, go_sem, y0, y1, y2, y3, y4, y5, y6, y7, y8, y9]) rfl (.inl ⟨R.out, rfl, HB.out.trans hy⟩)
            | true =>
              obtain ⟨ht4, hp4⟩ := hs4 rfl
              rw [List.length_drop] at hp4
              obtain ⟨d, rfl⟩ := one_of ht4
              obtain ⟨a4, o4, rfl, la4, cd⟩ := hr4.at_ (j := 0) (x := d) rfl
              simp only [Nat.add_zero] at cd
              simp only [List.length_singleton] at hm4
              subst hm4
              obtain ⟨r, hr⟩ : ∃ r, r = q + p4 := ⟨_, rfl⟩
              have g2 : IntKind.i64.wrap ((q : Int) + (p4 : Int)) = (r : Int) := by rw [IntKind.wrap_i64]; have h1 := HX.out; unfold maxLen at h1; have := HQN.out; omega
              obtain ⟨f, hf⟩ : ∃ f : Wig.Fr, f = { Wig.Fr.zero with kind := 2, spans := s, delay := d, ce := 0 } := ⟨_, rfl⟩
              have hs5 := HS5.out
              have RES := Lib.hid (show Wig.dack 2 xs = some (f, xs.drop r) by
                have h1 := HD4.out
                rw [ht4, hs5, List.drop_drop, ← hr] at h1
                rw [h1, hf]
                rfl)
              have HRL := Lib.hid (show r ≤ xs.length by have := HQN.out; omega)
              have ltb : w.heap.size < w4.heap.size := Nat.lt_of_lt_of_le BX.out.2.1 B4.out.size
              have HM := Lib.hid HS6.out.1
              have HS := Lib.hid (show Lies w3 w3.heap.size f none 0 S sc by
                rw [hf]
                exact ⟨Nat.le_refl _, Nat.zero_le _, RdN.empty, by rw [← HM.out]; exact HS6.out.2.1, HS6.out.2.2.1, HS6.out.2.2.2.1⟩)
              have HSB := Lib.hid (show ∀ b o x, S = some ⟨b, o, x⟩ → w.heap.size < b from fun b o x e => by
                have h1 := HS6.out.2.2.2.2 b o x e
                have h2 := BX.out.2.1
                have h3 := B2.out.size
                omega)
              obtain ⟨⟨k0, k1, k2, k3, k4, k5, k6, k7, k8, k9⟩, z0, z1, z2, z3, z4, z5, z6, z7, z8, z9⟩ := box_cells BX.out B4.out
              have HZ := Lib.hid (box_put BX.out B4.out f none 0 S sc)
              have HF := Lib.hid hf
              clear hr4 hv4 hb4 hs4 hf4 HD4 ht4 hp4 hr hf hs5
              have HL := Lib.hid (box_lies (HS.out.step BS.out) (by simp) HSB.out)
              go_wp2_with fail
              have hms := HM.out
              subst hms
              have hyz := HZ.out.1.below ((Below.refl _ _).alloc (Nat.le_refl _) (.cells (farr f none 0 S sc) 26))
              have hby := (HB.out.trans HZ.out.2).trans ((Below.refl _ _).alloc (by have := HZ.out.2.size; have := HB.out.size; omega) (.cells (farr f none 0 S sc) 26))
              have hly := HL.out.step ((Below.refl _ _).alloc (Nat.le_refl _) (.cells (farr f none 0 S sc) 26))
              have hff := HF.out
              clear HZ HL
              subst hff
              show bodyPost _ _ _ _ _ ((w4.setCells w.heap.size 0 (farr { Wig.Fr.zero with kind := 2, spans := s, delay := d, ce := 0 } none 0 S sc).toList).alloc (.cells (farr { Wig.Fr.zero with kind := 2, spans := s, delay := d, ce := 0 } none 0 S sc) 26))
              obtain ⟨wz, hwz⟩ : ∃ wz, wz = (w4.setCells w.heap.size 0 (farr { Wig.Fr.zero with kind := 2, spans := s, delay := d, ce := 0 } none 0 S sc).toList).alloc (.cells (farr { Wig.Fr.zero with kind := 2, spans := s, delay := d, ce := 0 } none 0 S sc) 26) := ⟨_, rfl⟩
              rw [← hwz] at hyz hby hly ⊢
              clear hwz k0 k1 k2 k3 k4 k5 k6 k7 k8 k9 z0 z1 z2 z3 z4 z5 z6 z7 z8 z9
              obtain ⟨y0, y1, y2, y3, y4, y5, y6, y7, y8, y9⟩ := at_cells hyz
              exact bodyPost_ret (v := .tuple #[.agg (farr { Wig.Fr.zero with kind := 2, spans := s, delay := d, ce := 0 } none 0 S sc), .int .i64 ((r : Nat) : Int), .bool true]) (by simp [results, Tryd.results42, farr, Wig.Fr.zero, go_sem, y0, y1, y2, y3, y4, y5, y6, y7, y8, y9]) rfl (.inr ⟨_, none, 0, S, sc, r, RES.out, HRL.out, rfl, hly, hby, (by simp), fun b o s e => Nat.le_of_lt (HSB.out b o s e)⟩)
end Go.Proofs.YtogioabdijgglaaDoor
end

section
namespace Go.Proofs.YtogioabdijgglaaDoor
open Go.ChangeShapes Go.WideShapes Go.ChangeAt Go.RowKit Go.Deep
set_option linter.unusedVariables false
set_option maxHeartbeats 16000000 in
set_option maxRecDepth 100000 in
theorem rack_3 (ab ao n c : Nat) (xs : List Nat) (w : World) (hx : Wig.Bytes xs) (hr : RdN .u8 w w.heap.size (some ⟨ab, ao, none⟩) xs) (hn : n = xs.length) (hl : n ≤ c) (hc : c ≤ maxLen) :
    Calls Tryd.prog 42 #[.int .i64 3, .slice (some ⟨ab, ao, none⟩) n c] w (FrameAt (Wig.dack 3) xs w) := by
  obtain ⟨wn, hwn⟩ : ∃ wn, wn = w.alloc (.cells #[.int .i64 0, .int .u64 0, .int .u64 0, .int .u64 0, .int .u64 0, .int .u64 0, .int .u64 0, .bool false, .slice none 0 0, .slice none 0 0] 26) := ⟨_, rfl⟩
  have BX := Lib.hid (show Box wn w.heap.size by rw [hwn]; exact box_new w _)
  have HB := Lib.hid (show Below w.heap.size w wn by rw [hwn]; exact (Below.refl _ _).alloc (Nat.le_refl _) _)
  have HR := Lib.hid ((hr.below HB.out).wide HB.out.size)
  have HX := Lib.hid (And.intro hx (And.intro hn (And.intro hl hc)))
  have C1 := Lib.hid (rtake_any ab ao n c 1 xs wn hx HR.out hn hl hc (by omega))
  have D := Wig.dack_of 3 xs
  clear hx hr hn hl hc
  go_enter Tryd.func42, Tryd.ntmps42
  go_wp2_with fail
  rw [← hwn]
  clear hwn
  refine (C1.out).mono ?_
  rintro e w1 h1
  obtain ⟨A1, m1, mc1, p, ok1, vs1, rfl, hm1, hr1, hv1, hb1, hs1, hf1⟩ := takeAt_u h1
  have B1 := Lib.hid hb1
  clear h1 C1
  cases ok1 with
  | false =>
    have R := Lib.hid (show Wig.dack 3 xs = none by rw [D, hf1 rfl])
    clear D hm1 hr1 hv1 hb1 hs1 hf1
    obtain ⟨⟨k0, k1, k2, k3, k4, k5, k6, k7, k8, k9⟩, z0, z1, z2, z3, z4, z5, z6, z7, z8, z9⟩ := box_cells BX.out (B1.out)
    have HZ := Lib.hid (box_zero BX.out (B1.out))
    go_wp2_with fail
    obtain ⟨wz, hwz⟩ : ∃ wz, wz = w1.setCells w.heap.size 0 (farr Wig.Fr.zero none 0 none 0).toList := ⟨_, rfl⟩
    obtain ⟨y, hy⟩ := HZ.out
    rw [← hwz] at y hy
    show bodyPost _ _ _ _ _ (w1.setCells w.heap.size 0 (farr Wig.Fr.zero none 0 none 0).toList)
    rw [← hwz]
    obtain ⟨y0, y1, y2, y3, y4, y5, y6, y7, y8, y9⟩ := at_cells y
    clear hwz HZ k0 k1 k2 k3 k4 k5 k6 k7 k8 k9 z0 z1 z2 z3 z4 z5 z6 z7 z8 z9
    exact bodyPost_ret (v := .tuple #[.agg (farr Wig.Fr.zero none 0 none 0), .int .i64 0, .bool false]) (by simp [results, Tryd.results42, farr, Wig.Fr.zero, go_sem, y0, y1, y2, y3, y4, y5, y6, y7, y8, y9]) rfl (.inl ⟨R.out, rfl, HB.out.trans hy⟩)
  | true =>
    obtain ⟨ht1, hp⟩ := hs1 rfl
    obtain ⟨cn, rfl⟩ := one_of ht1
    have cn62 := hv1 cn (by simp)
    obtain ⟨a1, o1, rfl, la1, ca1⟩ := hr1.at_ (j := 0) (x := cn) rfl
    simp only [Nat.add_zero] at ca1
    simp only [List.length_singleton] at hm1
    subst hm1
    rw [ht1] at D
    simp only [List.headD_cons] at D
    have B1' := hb1
    clear hr1 hv1 hs1 hf1 ht1 hb1
    by_cases q1 : cn < 1
    · have t1 : decide ((cn : Int) < 1) = true := decide_eq_true (by omega)
      have t1' : decide (cn < 1) = true := decide_eq_true q1
      have R := Lib.hid (show Wig.dack 3 xs = none by rw [D]; exact if_pos (Or.inl q1))
      clear D q1 hp cn62 la1 B1'
      obtain ⟨⟨k0, k1, k2, k3, k4, k5, k6, k7, k8, k9⟩, z0, z1, z2, z3, z4, z5, z6, z7, z8, z9⟩ := box_cells BX.out (B1.out)
      have HZ := Lib.hid (box_zero BX.out (B1.out))
      go_wp2_with fail
      obtain ⟨wz, hwz⟩ : ∃ wz, wz = w1.setCells w.heap.size 0 (farr Wig.Fr.zero none 0 none 0).toList := ⟨_, rfl⟩
      obtain ⟨y, hy⟩ := HZ.out
      rw [← hwz] at y hy
      show bodyPost _ _ _ _ _ (w1.setCells w.heap.size 0 (farr Wig.Fr.zero none 0 none 0).toList)
      rw [← hwz]
      obtain ⟨y0, y1, y2, y3, y4, y5, y6, y7, y8, y9⟩ := at_cells y
      clear hwz HZ k0 k1 k2 k3 k4 k5 k6 k7 k8 k9 z0 z1 z2 z3 z4 z5 z6 z7 z8 z9
      exact bodyPost_ret (v := .tuple #[.agg (farr Wig.Fr.zero none 0 none 0), .int .i64 0, .bool false]) (by simp [results, Tryd.results42, farr, Wig.Fr.zero, go_sem, y0, y1, y2, y3, y4, y5, y6, y7, y8, y9]) rfl (.inl ⟨R.out, rfl, HB.out.trans hy⟩)
    have t1 : decide ((cn : Int) < 1) = false := decide_eq_false (by omega)
    have t1' : decide (cn < 1) = false := decide_eq_false q1
    by_cases q2 : 32 < cn
    · have t2 : decide ((32 : Int) < (cn : Int)) = true := decide_eq_true (by omega)
      have t2' : decide (32 < cn) = true := decide_eq_true q2
      have R := Lib.hid (show Wig.dack 3 xs = none by rw [D]; exact if_pos (Or.inr q2))
      clear D q1 q2 hp cn62 la1 B1'
      obtain ⟨⟨k0, k1, k2, k3, k4, k5, k6, k7, k8, k9⟩, z0, z1, z2, z3, z4, z5, z6, z7, z8, z9⟩ := box_cells BX.out (B1.out)
      have HZ := Lib.hid (box_zero BX.out (B1.out))
      go_wp2_with fail
      obtain ⟨wz, hwz⟩ : ∃ wz, wz = w1.setCells w.heap.size 0 (farr Wig.Fr.zero none 0 none 0).toList := ⟨_, rfl⟩
      obtain ⟨y, hy⟩ := HZ.out
      rw [← hwz] at y hy
      show bodyPost _ _ _ _ _ (w1.setCells w.heap.size 0 (farr Wig.Fr.zero none 0 none 0).toList)
      rw [← hwz]
      obtain ⟨y0, y1, y2, y3, y4, y5, y6, y7, y8, y9⟩ := at_cells y
      clear hwz HZ k0 k1 k2 k3 k4 k5 k6 k7 k8 k9 z0 z1 z2 z3 z4 z5 z6 z7 z8 z9
      exact bodyPost_ret (v := .tuple #[.agg (farr Wig.Fr.zero none 0 none 0), .int .i64 0, .bool false]) (by simp [results, Tryd.results42, farr, Wig.Fr.zero, go_sem, y0, y1, y2, y3, y4, y5, y6, y7, y8, y9]) rfl (.inl ⟨R.out, rfl, HB.out.trans hy⟩)
    have t2 : decide ((32 : Int) < (cn : Int)) = false := decide_eq_false (by omega)
    have t2' : decide (32 < cn) = false := decide_eq_false q2
    replace D := D.trans (if_neg (show ¬ (cn < 1 ∨ 32 < cn) by omega))
    have HP := Lib.hid (And.intro hp (show 1 ≤ cn ∧ cn ≤ 32 by omega))
    have LT := Lib.hid la1
    have CA := Lib.hid ca1
    obtain ⟨cq, hcq⟩ : ∃ cq, cq = 2 * cn := ⟨_, rfl⟩
    have f1 : IntKind.u64.wrap (2 * (cn : Int)) = (cq : Int) := by rw [IntKind.wrap_u64]; omega
    have f2 : IntKind.i64.wrap (cq : Int) = (cq : Int) := by rw [IntKind.wrap_i64]; omega
    have b1 : (0 : Int) ≤ (p : Int) := by omega
    have b2 : p ≤ n := by have := HX.out; omega
    have b3 : p ≤ c := by have := HX.out; omega
    have b4 : n ≤ c := HX.out.2.2.1
    rw [← hcq] at D
    have HQ := Lib.hid hcq
    have B1h := Lib.hid B1'
    clear q1 q2 hp cn62 la1 B1' hcq
    by_cases hcp : c = p
    · have hnp : n = p := by omega
      have hd : xs.drop p = [] := List.drop_eq_nil_of_le (by have := HX.out; omega)
      subst hcp
      have CT := Lib.hid fun w' => take_empty ab ao 0 cq w' rfl (by have := HQ.out; have := HP.out; omega) (by have := HQ.out; have := HP.out; omega)
      have R := Lib.hid (show Wig.dack 3 xs = none by rw [D, hd, take_nil cq (by have := HQ.out; have := HP.out; omega)])
      clear D hd hnp
      go_wp2_with fail
      go_region_held3 (fun w' => w'.cell? ⟨a1, o1, none⟩ = some (.int .u64 (cn : Int)) ∧ Below w1.heap.size w1 w')
        ((refine held_one CA.out LT.out ?_; first | exact (Below.refl _ _).drew | assumption | exact below_drewN' (by assumption) _ | fail))
        (first
          | (go_at_call 43; refine (CT.out _).mono ?_; rintro e wa ⟨rfl, hba⟩; have hbm := below_trans' (a := w1) (held_b (by assumption)) hba; have BM := Lib.hid hbm; clear hba)
          | fail)
      obtain ⟨⟨k0, k1, k2, k3, k4, k5, k6, k7, k8, k9⟩, z0, z1, z2, z3, z4, z5, z6, z7, z8, z9⟩ := box_cells BX.out (B1h.out.trans (BM.out.mono B1h.out.size))
      have HZ := Lib.hid (box_zero BX.out (B1h.out.trans (BM.out.mono B1h.out.size)))
      go_wp2_with fail
      obtain ⟨wz, hwz⟩ : ∃ wz, wz = wa.setCells w.heap.size 0 (farr Wig.Fr.zero none 0 none 0).toList := ⟨_, rfl⟩
      obtain ⟨y, hy⟩ := HZ.out
      rw [← hwz] at y hy
      show bodyPost _ _ _ _ _ (wa.setCells w.heap.size 0 (farr Wig.Fr.zero none 0 none 0).toList)
      rw [← hwz]
      obtain ⟨y0, y1, y2, y3, y4, y5, y6, y7, y8, y9⟩ := at_cells y
      clear hwz HZ k0 k1 k2 k3 k4 k5 k6 k7 k8 k9 z0 z1 z2 z3 z4 z5 z6 z7 z8 z9
      exact bodyPost_ret (v := .tuple #[.agg (farr Wig.Fr.zero none 0 none 0), .int .i64 0, .bool false]) (by simp [results, Tryd.results42, farr, Wig.Fr.zero, go_sem, y0, y1, y2, y3, y4, y5, y6, y7, y8, y9]) rfl (.inl ⟨R.out, rfl, HB.out.trans hy⟩)
    · have hpn := HX.out
      have hrp : RdN .u8 wn wn.heap.size (some ⟨ab, ao + p, none⟩) (xs.drop p) := RdN.drop HR.out p
      have CT := Lib.hid fun (w' : World) (hb : Below w1.heap.size w1 w') => (rtake_any ab (ao + p) (n - p) (c - p) cq (xs.drop p) w' (HX.out.1.drop p) (by
        have hbb : Below wn.heap.size wn w' := below_trans' B1h.out hb
        exact (hrp.below hbb).wide hbb.size) (by rw [List.length_drop, ← hpn.2.1]) (by omega) (by omega) (by have := HQ.out; have := HP.out; omega)).mono fun _ _ h => takeAt_u h
      have HD := Lib.hid D
      clear D hpn hrp
      go_wp2_with fail
      go_region_held3 (fun w' => w'.cell? ⟨a1, o1, none⟩ = some (.int .u64 (cn : Int)) ∧ Below w1.heap.size w1 w')
        ((refine held_one CA.out LT.out ?_; first | exact (Below.refl _ _).drew | assumption | exact below_drewN' (by assumption) _ | fail))
        (first
          | (go_at_call 43; refine (CT.out _ (held_b (by assumption))).mono ?_; rintro e w2 ⟨A2, m2, mc2, p2, ok2, vs2, rfl, hm2, hr2, hv2, hb2, hs2, hf2⟩; have hbm := below_trans' (a := w1) (held_b (by assumption)) hb2; have B2 := Lib.hid (B1h.out.trans (hbm.mono B1h.out.size)); have H2 := Lib.hid (And.intro hm2 (And.intro hr2 (And.intro hv2 (And.intro hs2 hf2)))); clear hm2 hr2 hv2 hs2 hf2 hb2)
          | fail)
      clear CT ca1
      cases ok2 with
      | false =>
        have R := Lib.hid (show Wig.dack 3 xs = none by rw [HD.out, H2.out.2.2.2.2 rfl])
        clear HD H2
        obtain ⟨⟨k0, k1, k2, k3, k4, k5, k6, k7, k8, k9⟩, z0, z1, z2, z3, z4, z5, z6, z7, z8, z9⟩ := box_cells BX.out (B2.out)
        have HZ := Lib.hid (box_zero BX.out (B2.out))
        go_wp2_with fail
        obtain ⟨wz, hwz⟩ : ∃ wz, wz = w2.setCells w.heap.size 0 (farr Wig.Fr.zero none 0 none 0).toList := ⟨_, rfl⟩
        obtain ⟨y, hy⟩ := HZ.out
        rw [← hwz] at y hy
        show bodyPost _ _ _ _ _ (w2.setCells w.heap.size 0 (farr Wig.Fr.zero none 0 none 0).toList)
        rw [← hwz]
        obtain ⟨y0, y1, y2, y3, y4, y5, y6, y7, y8, y9⟩ := at_cells y
        clear hwz HZ k0 k1 k2 k3 k4 k5 k6 k7 k8 k9 z0 z1 z2 z3 z4 z5 z6 z7 z8 z9
        exact bodyPost_ret (v := .tuple #[.agg (farr Wig.Fr.zero none 0 none 0), .int .i64 0, .bool false]) (by simp [results, Tryd.results42, farr, Wig.Fr.zero, go_sem, y0, y1, y2, y3, y4, y5, y6, y7, y8, y9]) rfl (.inl ⟨R.out, rfl, HB.out.trans hy⟩)
      | true =>
        obtain ⟨hm2, hr2, hv2, hs2, -⟩ := H2.out
        obtain ⟨ht2, hp2⟩ := hs2 rfl
        have hl2 := Wig.rtake_len _ ht2
        obtain ⟨x2, hx2⟩ : ∃ x, vs2[0]? = some x := ⟨_, List.getElem?_eq_getElem (by have := HQ.out; have := HP.out; omega)⟩
        obtain ⟨a2, o2, rfl, _, _⟩ := hr2.at_ hx2
        have CK := Lib.hid ((racked_any a2 o2 m2 mc2 cn vs2 w2 hm2 (by have := HQ.out; omega) HP.out.2.1 HP.out.2.2 hv2 hr2).mono fun _ _ h => ackedAt_u h)
        have D := HD.out
        rw [ht2] at D
        simp only [] at D
        rw [List.length_drop] at hp2
        obtain ⟨q, hq⟩ : ∃ q, q = p + p2 := ⟨_, rfl⟩
        rw [List.drop_drop, ← hq] at D
        have g1 : IntKind.i64.wrap ((p : Int) + (p2 : Int)) = (q : Int) := by rw [IntKind.wrap_i64]; have h1 := HX.out; unfold maxLen at h1; have := HP.out; omega
        have c1 : (0 : Int) ≤ (q : Int) := by omega
        have c2 : q ≤ n := by have := HX.out; have := HP.out; omega
        have c3 : q ≤ c := by have := HX.out; omega
        have HDD := Lib.hid D
        have HQN := Lib.hid (show q ≤ xs.length by have := HX.out; omega)
        clear hm2 hr2 hv2 hs2 ht2 hp2 hl2 hx2 hq D HD H2 hcp
        go_wp2_with fail
        refine (CK.out).mono ?_
        rintro e w3 ⟨S, ms, sc, ok3, s, rfl, hms, hsc, hsm, hrs, hbs, hb3, hs3, hf3⟩
        have B3 := Lib.hid (B2.out.trans (hb3.mono B2.out.size))
        have H3 := Lib.hid (And.intro hms (And.intro hsc (And.intro hsm (And.intro hrs (And.intro hbs (And.intro hs3 hf3))))))
        clear hms hsc hsm hrs hbs hb3 hs3 hf3 CK
        by_cases hcq : c = q
        · have hd : xs.drop q = [] := List.drop_eq_nil_of_le (by have := HX.out; omega)
          have C4 := Lib.hid (show Calls Tryd.prog 43 #[.slice (some ⟨ab, ao, none⟩) 0 0, .int .i64 2] w3 fun e w' => e = .returned (.tuple #[.slice none 0 0, .int .i64 0, .bool false]) ∧ Below w3.heap.size w3 w' from take_empty ab ao 0 2 w3 rfl (by omega) (by omega))
          have R := Lib.hid (show Wig.dack 3 xs = none by rw [HDD.out, hd]; simp only [if_true]; rw [take_nil 2 (by omega)])
          clear hd HDD
          subst hcq
          cases ok3
          all_goals
            go_wp2_with fail
            refine (C4.out).mono ?_
            rintro e w4 ⟨rfl, hb4⟩
            have B4 := Lib.hid (B3.out.trans (hb4.mono B3.out.size))
            clear hb4
            obtain ⟨⟨k0, k1, k2, k3, k4, k5, k6, k7, k8, k9⟩, z0, z1, z2, z3, z4, z5, z6, z7, z8, z9⟩ := box_cells BX.out (B4.out)
            have HZ := Lib.hid (box_zero BX.out (B4.out))
            go_wp2_with fail
            obtain ⟨wz, hwz⟩ : ∃ wz, wz = w4.setCells w.heap.size 0 (farr Wig.Fr.zero none 0 none 0).toList := ⟨_, rfl⟩
            obtain ⟨y, hy⟩ := HZ.out
            rw [← hwz] at y hy
            show bodyPost _ _ _ _ _ (w4.setCells w.heap.size 0 (farr Wig.Fr.zero none 0 none 0).toList)
            rw [← hwz]
            obtain ⟨y0, y1, y2, y3, y4, y5, y6, y7, y8, y9⟩ := at_cells y
            clear hwz HZ k0 k1 k2 k3 k4 k5 k6 k7 k8 k9 z0 z1 z2 z3 z4 z5 z6 z7 z8 z9
            exact bodyPost_ret (v := .tuple #[.agg (farr Wig.Fr.zero none 0 none 0), .int .i64 0, .bool false]) (by simp [results, Tryd.results42, farr, Wig.Fr.zero, go_sem, y0, y1, y2, y3, y4, y5, y6, y7, y8, y9]) rfl (.inl ⟨R.out, rfl, HB.out.trans hy⟩)
        · have C4 := Lib.hid (show Calls Tryd.prog 43 #[.slice (some ⟨ab, ao + q, none⟩) (n - q) (c - q), .int .i64 2] w3 (TakeU (xs.drop q) 2 w3) from (rtake_any ab (ao + q) (n - q) (c - q) 2 (xs.drop q) w3 (HX.out.1.drop q) ((RdN.drop (HR.out.below B3.out) q).wide B3.out.size) (by rw [List.length_drop, ← HX.out.2.1]) (by omega) (by have := HX.out; omega) (by omega)).mono fun _ _ h => takeAt_u h)
          have D : Wig.dack 3 xs = _ := HDD.out
          simp only [if_true] at D
          have HD4 := Lib.hid D
          clear D HDD
          cases ok3 with
          | false =>
            have R := Lib.hid (show Wig.dack 3 xs = none by
              rw [HD4.out, H3.out.2.2.2.2.2.2 rfl]
              cases Wig.rtake 2 (xs.drop q) <;> rfl)
            clear HD4 H3
            go_wp2_with fail
            refine (C4.out).mono ?_
            rintro e w4 ⟨A4, m4, mc4, p4, ok4, vs4, rfl, -, -, -, hb4, -, -⟩
            have B4 := Lib.hid (B3.out.trans (hb4.mono B3.out.size))
            clear hb4
            obtain ⟨⟨k0, k1, k2, k3, k4, k5, k6, k7, k8, k9⟩, z0, z1, z2, z3, z4, z5, z6, z7, z8, z9⟩ := box_cells BX.out (B4.out)
            have HZ := Lib.hid (box_zero BX.out (B4.out))
            go_wp2_with fail
            obtain ⟨wz, hwz⟩ : ∃ wz, wz = w4.setCells w.heap.size 0 (farr Wig.Fr.zero none 0 none 0).toList := ⟨_, rfl⟩
            obtain ⟨y, hy⟩ := HZ.out
            rw [← hwz] at y hy
            show bodyPost _ _ _ _ _ (w4.setCells w.heap.size 0 (farr Wig.Fr.zero none 0 none 0).toList)
            rw [← hwz]
            obtain ⟨y0, y1, y2, y3, y4, y5, y6, y7, y8, y9⟩ := at_cells y
            clear hwz HZ k0 k1 k2 k3 k4 k5 k6 k7 k8 k9 z0 z1 z2 z3 z4 z5 z6 z7 z8 z9
            exact bodyPost_ret (v := .tuple #[.agg (farr Wig.Fr.zero none 0 none 0), .int .i64 0, .bool false]) (by simp [results, Tryd.results42, farr, Wig.Fr.zero, go_sem, y0, y1, y2, y3, y4, y5, y6, y7, y8, y9]) rfl (.inl ⟨R.out, rfl, HB.out.trans hy⟩)
          | true =>
            have HS5 := Lib.hid (H3.out.2.2.2.2.2.1 rfl)
            have HS6 := Lib.hid (And.intro H3.out.1 (And.intro H3.out.2.1 (And.intro H3.out.2.2.1 (And.intro H3.out.2.2.2.1 H3.out.2.2.2.2.1))))
            clear H3
            go_wp2_with fail
            refine (C4.out).mono ?_
            rintro e w4 ⟨A4, m4, mc4, p4, ok4, vs4, rfl, hm4, hr4, hv4, hb4, hs4, hf4⟩
            have B4 := Lib.hid (B3.out.trans (hb4.mono B3.out.size))
            have BS := Lib.hid hb4
            cases ok4 with
            | false =>
              have R := Lib.hid (show Wig.dack 3 xs = none by rw [HD4.out, hf4 rfl])
              clear hm4 hr4 hv4 hb4 hs4 hf4 HD4
              obtain ⟨⟨k0, k1, k2, k3, k4, k5, k6, k7, k8, k9⟩, z0, z1, z2, z3, z4, z5, z6, z7, z8, z9⟩ := box_cells BX.out (B4.out)
              have HZ := Lib.hid (box_zero BX.out (B4.out))
              go_wp2_with fail
              obtain ⟨wz, hwz⟩ : ∃ wz, wz = w4.setCells w.heap.size 0 (farr Wig.Fr.zero none 0 none 0).toList := ⟨_, rfl⟩
              obtain ⟨y, hy⟩ := HZ.out
              rw [← hwz] at y hy
              show bodyPost _ _ _ _ _ (w4.setCells w.heap.size 0 (farr Wig.Fr.zero none 0 none 0).toList)
              rw [← hwz]
              obtain ⟨y0, y1, y2, y3, y4, y5, y6, y7, y8, y9⟩ := at_cells y
              clear hwz HZ k0 k1 k2 k3 k4 k5 k6 k7 k8 k9 z0 z1 z2 z3 z4 z5 z6 z7 z8 z9
              exact bodyPost_ret (v := .tuple #[.agg (farr Wig.Fr.zero none 0 none 0), .int .i64 0, .bool false]) (by simp [results, Tryd.results42, farr, Wig.Fr.zero, go_sem, y0, y1, y2, y3, y4, y5, y6, y7, y8, y9]) rfl (.inl ⟨R.out, rfl, HB.out.trans hy⟩)
            | true =>
              obtain ⟨ht4, hp4⟩ := hs4 rfl
              rw [List.length_drop] at hp4
              obtain ⟨d, e2, rfl⟩ := two_of ht4
              obtain ⟨a4, o4, rfl, la4, cd⟩ := hr4.at_ (j := 0) (x := d) rfl
              obtain ⟨_, _, e3, -, cd2⟩ := hr4.at_ (j := 1) (x := e2) rfl
              cases e3
              simp only [Nat.add_zero] at cd
              simp only [List.length_cons, List.length_nil, Nat.zero_add, Nat.reduceAdd] at hm4
              subst hm4
              obtain ⟨r, hr⟩ : ∃ r, r = q + p4 := ⟨_, rfl⟩
              have g2 : IntKind.i64.wrap ((q : Int) + (p4 : Int)) = (r : Int) := by rw [IntKind.wrap_i64]; have h1 := HX.out; unfold maxLen at h1; have := HQN.out; omega
              obtain ⟨f, hf⟩ : ∃ f : Wig.Fr, f = { Wig.Fr.zero with kind := 3, spans := s, delay := d, ce := e2 } := ⟨_, rfl⟩
              have hs5 := HS5.out
              have RES := Lib.hid (show Wig.dack 3 xs = some (f, xs.drop r) by
                have h1 := HD4.out
                rw [ht4, hs5, List.drop_drop, ← hr] at h1
                rw [h1, hf]
                rfl)
              have HRL := Lib.hid (show r ≤ xs.length by have := HQN.out; omega)
              have ltb : w.heap.size < w4.heap.size := Nat.lt_of_lt_of_le BX.out.2.1 B4.out.size
              have HM := Lib.hid HS6.out.1
              have HS := Lib.hid (show Lies w3 w3.heap.size f none 0 S sc by
                rw [hf]
                exact ⟨Nat.le_refl _, Nat.zero_le _, RdN.empty, by rw [← HM.out]; exact HS6.out.2.1, HS6.out.2.2.1, HS6.out.2.2.2.1⟩)
              have HSB := Lib.hid (show ∀ b o x, S = some ⟨b, o, x⟩ → w.heap.size < b from fun b o x e => by
                have h1 := HS6.out.2.2.2.2 b o x e
                have h2 := BX.out.2.1
                have h3 := B2.out.size
                omega)
              obtain ⟨⟨k0, k1, k2, k3, k4, k5, k6, k7, k8, k9⟩, z0, z1, z2, z3, z4, z5, z6, z7, z8, z9⟩ := box_cells BX.out B4.out
              have HZ := Lib.hid (box_put BX.out B4.out f none 0 S sc)
              have HF := Lib.hid hf
              clear hr4 hv4 hb4 hs4 hf4 HD4 ht4 hp4 hr hf hs5
              have HL := Lib.hid (box_lies (HS.out.step BS.out) (by simp) HSB.out)
              go_wp2_with fail
              have hms := HM.out
              subst hms
              have hyz := HZ.out.1.below ((Below.refl _ _).alloc (Nat.le_refl _) (.cells (farr f none 0 S sc) 26))
              have hby := (HB.out.trans HZ.out.2).trans ((Below.refl _ _).alloc (by have := HZ.out.2.size; have := HB.out.size; omega) (.cells (farr f none 0 S sc) 26))
              have hly := HL.out.step ((Below.refl _ _).alloc (Nat.le_refl _) (.cells (farr f none 0 S sc) 26))
              have hff := HF.out
              clear HZ HL
              subst hff
              show bodyPost _ _ _ _ _ ((w4.setCells w.heap.size 0 (farr { Wig.Fr.zero with kind := 3, spans := s, delay := d, ce := e2 } none 0 S sc).toList).alloc (.cells (farr { Wig.Fr.zero with kind := 3, spans := s, delay := d, ce := e2 } none 0 S sc) 26))
              obtain ⟨wz, hwz⟩ : ∃ wz, wz = (w4.setCells w.heap.size 0 (farr { Wig.Fr.zero with kind := 3, spans := s, delay := d, ce := e2 } none 0 S sc).toList).alloc (.cells (farr { Wig.Fr.zero with kind := 3, spans := s, delay := d, ce := e2 } none 0 S sc) 26) := ⟨_, rfl⟩
              rw [← hwz] at hyz hby hly ⊢
              clear hwz k0 k1 k2 k3 k4 k5 k6 k7 k8 k9 z0 z1 z2 z3 z4 z5 z6 z7 z8 z9
              obtain ⟨y0, y1, y2, y3, y4, y5, y6, y7, y8, y9⟩ := at_cells hyz
              exact bodyPost_ret (v := .tuple #[.agg (farr { Wig.Fr.zero with kind := 3, spans := s, delay := d, ce := e2 } none 0 S sc), .int .i64 ((r : Nat) : Int), .bool true]) (by simp [results, Tryd.results42, farr, Wig.Fr.zero, go_sem, y0, y1, y2, y3, y4, y5, y6, y7, y8, y9]) rfl (.inr ⟨_, none, 0, S, sc, r, RES.out, HRL.out, rfl, hly, hby, (by simp), fun b o s e => Nat.le_of_lt (HSB.out b o s e)⟩)
end Go.Proofs.YtogioabdijgglaaDoor
end

section
namespace Wig
theorem dplain_rest (k : Nat) (l : List Nat) : (dplain k l).data = [] ∧ (dplain k l).spans = [] := by
  unfold dplain
  repeat' split
  all_goals exact ⟨rfl, rfl⟩
end Wig
namespace Go.Proofs.YtogioabdijgglaaDoor
open Go.ChangeShapes Go.WideShapes Go.ChangeAt Go.RowKit Go.Deep
set_option linter.unusedVariables false
set_option maxHeartbeats 8000000 in
theorem rbehind_2 (fin : Bool) (ab ao n c : Nat) (xs : List Nat) (w : World) (hx : Wig.Bytes xs) (hr : RdN .u8 w w.heap.size (some ⟨ab, ao, none⟩) xs) (hn : n = xs.length) (hl : n ≤ c) (hc : c ≤ maxLen) :
    Calls Tryd.prog 32 #[.int .i64 2, .bool fin, .slice (some ⟨ab, ao, none⟩) n c] w (FrameAt (Wig.dbehind 2 fin) xs w) := by
  have hd : Wig.dbehind 2 fin = Wig.dack 2 := by unfold Wig.dbehind; rw [if_pos (by omega)]
  rw [hd]
  obtain ⟨wn, hwn⟩ : ∃ wn, wn = w.alloc (.cells #[.int .i64 0, .int .u64 0, .int .u64 0, .int .u64 0, .int .u64 0, .int .u64 0, .int .u64 0, .bool false, .slice none 0 0, .slice none 0 0] 26) := ⟨_, rfl⟩
  have BX := Lib.hid (show Box wn w.heap.size by rw [hwn]; exact box_new w _)
  have HB := Lib.hid (show Below w.heap.size w wn by rw [hwn]; exact (Below.refl _ _).alloc (Nat.le_refl _) _)
  have HR := Lib.hid ((hr.below HB.out).wide HB.out.size)
  have HX := Lib.hid (And.intro hx (And.intro hn (And.intro hl hc)))
  have C1 := Lib.hid (rack_2 ab ao n c xs wn hx HR.out hn hl hc)
  clear hx hr hn hl hc hd
  go_enter Tryd.func32, Tryd.ntmps32
  go_wp2_with fail
  rw [← hwn]
  clear hwn
  refine (C1.out).mono ?_
  rintro e w1 (⟨h1, rfl, hb1⟩ | ⟨f, D, dc, S, sc, p, h1, h2, rfl, hl1, hb1, hD, hS⟩)
  · have B1 := Lib.hid hb1
    have R := Lib.hid h1
    clear h1 hb1 C1
    simp only [farr, Wig.Fr.zero]
    obtain ⟨⟨k0, k1, k2, k3, k4, k5, k6, k7, k8, k9⟩, z0, z1, z2, z3, z4, z5, z6, z7, z8, z9⟩ := box_cells BX.out (B1.out)
    have HZ := Lib.hid (box_zero BX.out (B1.out))
    go_wp2_with fail
    obtain ⟨wz, hwz⟩ : ∃ wz, wz = w1.setCells w.heap.size 0 (farr Wig.Fr.zero none 0 none 0).toList := ⟨_, rfl⟩
    obtain ⟨y, hy⟩ := HZ.out
    rw [← hwz] at y hy
    show bodyPost _ _ _ _ _ (w1.setCells w.heap.size 0 (farr Wig.Fr.zero none 0 none 0).toList)
    rw [← hwz]
    obtain ⟨y0, y1, y2, y3, y4, y5, y6, y7, y8, y9⟩ := at_cells y
    clear hwz HZ k0 k1 k2 k3 k4 k5 k6 k7 k8 k9 z0 z1 z2 z3 z4 z5 z6 z7 z8 z9
    exact bodyPost_ret (v := .tuple #[.agg (farr Wig.Fr.zero none 0 none 0), .int .i64 0, .bool false]) (by simp [results, Tryd.results32, farr, Wig.Fr.zero, go_sem, y0, y1, y2, y3, y4, y5, y6, y7, y8, y9]) rfl (.inl ⟨R.out, rfl, HB.out.trans hy⟩)
  · have B1 := Lib.hid hb1
    have RES := Lib.hid (And.intro h1 h2)
    have HD := Lib.hid (show ∀ b o s, D = some ⟨b, o, s⟩ → w.heap.size < b from fun b o s e => by have := hD b o s e; have := BX.out.2.1; omega)
    have HS := Lib.hid (show ∀ b o s, S = some ⟨b, o, s⟩ → w.heap.size < b from fun b o s e => by have := hS b o s e; have := BX.out.2.1; omega)
    have HL := Lib.hid (box_lies hl1 HD.out HS.out)
    clear h1 h2 hb1 C1 hl1 hD hS
    simp only [farr]
    obtain ⟨⟨k0, k1, k2, k3, k4, k5, k6, k7, k8, k9⟩, z0, z1, z2, z3, z4, z5, z6, z7, z8, z9⟩ := box_cells BX.out (B1.out)
    have HZ := Lib.hid (box_put BX.out (B1.out) f D dc S sc)
    have ltb : w.heap.size < w1.heap.size := Nat.lt_of_lt_of_le BX.out.2.1 (B1.out).size
    go_wp2_with fail
    have hyz := HZ.out.1
    have hby := HB.out.trans HZ.out.2
    have hly := HL.out
    clear HZ HL
    show bodyPost _ _ _ _ _ ((w1.setCells w.heap.size 0 (farr f D dc S sc).toList))
    obtain ⟨wz, hwz⟩ : ∃ wz, wz = (w1.setCells w.heap.size 0 (farr f D dc S sc).toList) := ⟨_, rfl⟩
    rw [← hwz] at hyz hby hly ⊢
    clear hwz k0 k1 k2 k3 k4 k5 k6 k7 k8 k9 z0 z1 z2 z3 z4 z5 z6 z7 z8 z9
    obtain ⟨y0, y1, y2, y3, y4, y5, y6, y7, y8, y9⟩ := at_cells hyz
    exact bodyPost_ret (v := .tuple #[.agg (farr f D dc S sc), .int .i64 ((p : Nat) : Int), .bool true]) (by simp [results, Tryd.results32, farr, go_sem, y0, y1, y2, y3, y4, y5, y6, y7, y8, y9]) rfl (.inr ⟨f, D, dc, S, sc, p, RES.out.1, RES.out.2, rfl, hly, hby, fun b o s e => Nat.le_of_lt (HD.out b o s e), fun b o s e => Nat.le_of_lt (HS.out b o s e)⟩)
set_option maxHeartbeats 8000000 in
theorem rbehind_3 (fin : Bool) (ab ao n c : Nat) (xs : List Nat) (w : World) (hx : Wig.Bytes xs) (hr : RdN .u8 w w.heap.size (some ⟨ab, ao, none⟩) xs) (hn : n = xs.length) (hl : n ≤ c) (hc : c ≤ maxLen) :
    Calls Tryd.prog 32 #[.int .i64 3, .bool fin, .slice (some ⟨ab, ao, none⟩) n c] w (FrameAt (Wig.dbehind 3 fin) xs w) := by
  have hd : Wig.dbehind 3 fin = Wig.dack 3 := by unfold Wig.dbehind; rw [if_pos (by omega)]
  rw [hd]
  obtain ⟨wn, hwn⟩ : ∃ wn, wn = w.alloc (.cells #[.int .i64 0, .int .u64 0, .int .u64 0, .int .u64 0, .int .u64 0, .int .u64 0, .int .u64 0, .bool false, .slice none 0 0, .slice none 0 0] 26) := ⟨_, rfl⟩
  have BX := Lib.hid (show Box wn w.heap.size by rw [hwn]; exact box_new w _)
  have HB := Lib.hid (show Below w.heap.size w wn by rw [hwn]; exact (Below.refl _ _).alloc (Nat.le_refl _) _)
  have HR := Lib.hid ((hr.below HB.out).wide HB.out.size)
  have HX := Lib.hid (And.intro hx (And.intro hn (And.intro hl hc)))
  have C1 := Lib.hid (rack_3 ab ao n c xs wn hx HR.out hn hl hc)
  clear hx hr hn hl hc hd
  go_enter Tryd.func32, Tryd.ntmps32
  go_wp2_with fail
  rw [← hwn]
  clear hwn
  refine (C1.out).mono ?_
  rintro e w1 (⟨h1, rfl, hb1⟩ | ⟨f, D, dc, S, sc, p, h1, h2, rfl, hl1, hb1, hD, hS⟩)
  · have B1 := Lib.hid hb1
    have R := Lib.hid h1
    clear h1 hb1 C1
    simp only [farr, Wig.Fr.zero]
    obtain ⟨⟨k0, k1, k2, k3, k4, k5, k6, k7, k8, k9⟩, z0, z1, z2, z3, z4, z5, z6, z7, z8, z9⟩ := box_cells BX.out (B1.out)
    have HZ := Lib.hid (box_zero BX.out (B1.out))
    go_wp2_with fail
    obtain ⟨wz, hwz⟩ : ∃ wz, wz = w1.setCells w.heap.size 0 (farr Wig.Fr.zero none 0 none 0).toList := ⟨_, rfl⟩
    obtain ⟨y, hy⟩ := HZ.out
    rw [← hwz] at y hy
    show bodyPost _ _ _ _ _ (w1.setCells w.heap.size 0 (farr Wig.Fr.zero none 0 none 0).toList)
    rw [← hwz]
    obtain ⟨y0, y1, y2, y3, y4, y5, y6, y7, y8, y9⟩ := at_cells y
    clear hwz HZ k0 k1 k2 k3 k4 k5 k6 k7 k8 k9 z0 z1 z2 z3 z4 z5 z6 z7 z8 z9
    exact bodyPost_ret (v := .tuple #[.agg (farr Wig.Fr.zero none 0 none 0), .int .i64 0, .bool false]) (by simp [results, Tryd.results32, farr, Wig.Fr.zero, go_sem, y0, y1, y2, y3, y4, y5, y6, y7, y8, y9]) rfl (.inl ⟨R.out, rfl, HB.out.trans hy⟩)
  · have B1 := Lib.hid hb1
    have RES := Lib.hid (And.intro h1 h2)
    have HD := Lib.hid (show ∀ b o s, D = some ⟨b, o, s⟩ → w.heap.size < b from fun b o s e => by have := hD b o s e; have := BX.out.2.1; omega)
    have HS := Lib.hid (show ∀ b o s, S = some ⟨b, o, s⟩ → w.heap.size < b from fun b o s e => by have := hS b o s e; have := BX.out.2.1; omega)
    have HL := Lib.hid (box_lies hl1 HD.out HS.out)
    clear h1 h2 hb1 C1 hl1 hD hS
    simp only [farr]
    obtain ⟨⟨k0, k1, k2, k3, k4, k5, k6, k7, k8, k9⟩, z0, z1, z2, z3, z4, z5, z6, z7, z8, z9⟩ := box_cells BX.out (B1.out)
    have HZ := Lib.hid (box_put BX.out (B1.out) f D dc S sc)
    have ltb : w.heap.size < w1.heap.size := Nat.lt_of_lt_of_le BX.out.2.1 (B1.out).size
    go_wp2_with fail
    have hyz := HZ.out.1
    have hby := HB.out.trans HZ.out.2
    have hly := HL.out
    clear HZ HL
    show bodyPost _ _ _ _ _ ((w1.setCells w.heap.size 0 (farr f D dc S sc).toList))
    obtain ⟨wz, hwz⟩ : ∃ wz, wz = (w1.setCells w.heap.size 0 (farr f D dc S sc).toList) := ⟨_, rfl⟩
    rw [← hwz] at hyz hby hly ⊢
    clear hwz k0 k1 k2 k3 k4 k5 k6 k7 k8 k9 z0 z1 z2 z3 z4 z5 z6 z7 z8 z9
    obtain ⟨y0, y1, y2, y3, y4, y5, y6, y7, y8, y9⟩ := at_cells hyz
    exact bodyPost_ret (v := .tuple #[.agg (farr f D dc S sc), .int .i64 ((p : Nat) : Int), .bool true]) (by simp [results, Tryd.results32, farr, go_sem, y0, y1, y2, y3, y4, y5, y6, y7, y8, y9]) rfl (.inr ⟨f, D, dc, S, sc, p, RES.out.1, RES.out.2, rfl, hly, hby, fun b o s e => Nat.le_of_lt (HD.out b o s e), fun b o s e => Nat.le_of_lt (HS.out b o s e)⟩)
set_option maxHeartbeats 8000000 in
theorem rbehind_plain (k : Nat) (has : List Nat) (hf : Wig.flds k = some has) (h3 : k ≠ 2 ∧ k ≠ 3 ∧ k ≠ 14) (fin : Bool) (ab ao n c : Nat) (xs : List Nat) (w : World) (hx : Wig.Bytes xs) (hr : RdN .u8 w w.heap.size (some ⟨ab, ao, none⟩) xs) (hn : n = xs.length) (hl : n ≤ c) (hc : c ≤ maxLen) :
    Calls Tryd.prog 32 #[.int .i64 (k : Int), .bool fin, .slice (some ⟨ab, ao, none⟩) n c] w (FrameAt (Wig.dbehind k fin) xs w) := by
  obtain ⟨cnt, hcnt⟩ : ∃ cnt, cnt = Wig.dcount k := ⟨_, rfl⟩
  have hd : Wig.dbehind k fin xs = match Wig.rtake cnt xs with | none => none | some (l, r) => some (Wig.dplain k l, r) := by
    rw [hcnt]
    unfold Wig.dbehind
    rw [if_neg (by omega)]
    unfold Wig.pbind
    cases Wig.rtake (Wig.dcount k) xs with
    | none => rfl
    | some q => simp only []; rw [if_neg h3.2.2]; rfl
  have hc100 : cnt ≤ 100 := by rw [hcnt]; unfold Wig.dcount; split <;> (try split) <;> (try split) <;> omega
  obtain ⟨wn, hwn⟩ : ∃ wn, wn = w.alloc (.cells #[.int .i64 0, .int .u64 0, .int .u64 0, .int .u64 0, .int .u64 0, .int .u64 0, .int .u64 0, .bool false, .slice none 0 0, .slice none 0 0] 26) := ⟨_, rfl⟩
  have BX := Lib.hid (show Box wn w.heap.size by rw [hwn]; exact box_new w _)
  have HB := Lib.hid (show Below w.heap.size w wn by rw [hwn]; exact (Below.refl _ _).alloc (Nat.le_refl _) _)
  have HR := Lib.hid ((hr.below HB.out).wide HB.out.size)
  have HX := Lib.hid (And.intro hx (And.intro hn (And.intro hl hc)))
  have C1 := Lib.hid ((rtake_any ab ao n c cnt xs wn hx HR.out hn hl hc hc100).mono fun _ _ h => takeAt_u h)
  have C0 := rcount_any k has wn hf
  rw [← hcnt] at C0
  have CC := Lib.hid C0
  have HD := Lib.hid hd
  have HF := Lib.hid (And.intro hf (And.intro h3 hcnt))
  have t1 : ((k : Int) == 2) = false := by simp; omega
  have t2 : ((k : Int) == 3) = false := by simp; omega
  have t3 : ((k : Int) == 14) = false := by simp; omega
  clear hx hr hn hl hc hd hf h3 hcnt hc100 C0
  go_enter Tryd.func32, Tryd.ntmps32
  go_wp2_with fail
  rw [← hwn]
  clear hwn
  refine (CC.out).mono ?_
  rintro e w0 ⟨rfl, rfl⟩
  clear CC
  go_wp2_with fail
  refine (C1.out).mono ?_
  rintro e w1 ⟨A1, m1, mc1, p, ok1, vs, rfl, hm1, hr1, hv1, hb1, hs1, hf1⟩
  have B1 := Lib.hid hb1
  clear C1
  cases ok1 with
  | false =>
    have R := Lib.hid (show Wig.dbehind k fin xs = none by rw [HD.out, hf1 rfl])
    clear hm1 hr1 hv1 hb1 hs1 hf1 HD HF
    obtain ⟨⟨k0, k1, k2, k3, k4, k5, k6, k7, k8, k9⟩, z0, z1, z2, z3, z4, z5, z6, z7, z8, z9⟩ := box_cells BX.out (B1.out)
    have HZ := Lib.hid (box_zero BX.out (B1.out))
    go_wp2_with fail
    obtain ⟨wz, hwz⟩ : ∃ wz, wz = w1.setCells w.heap.size 0 (farr Wig.Fr.zero none 0 none 0).toList := ⟨_, rfl⟩
    obtain ⟨y, hy⟩ := HZ.out
    rw [← hwz] at y hy
    show bodyPost _ _ _ _ _ (w1.setCells w.heap.size 0 (farr Wig.Fr.zero none 0 none 0).toList)
    rw [← hwz]
    obtain ⟨y0, y1, y2, y3, y4, y5, y6, y7, y8, y9⟩ := at_cells y
    clear hwz HZ k0 k1 k2 k3 k4 k5 k6 k7 k8 k9 z0 z1 z2 z3 z4 z5 z6 z7 z8 z9
    exact bodyPost_ret (v := .tuple #[.agg (farr Wig.Fr.zero none 0 none 0), .int .i64 0, .bool false]) (by simp [results, Tryd.results32, farr, Wig.Fr.zero, go_sem, y0, y1, y2, y3, y4, y5, y6, y7, y8, y9]) rfl (.inl ⟨R.out, rfl, HB.out.trans hy⟩)
  | true =>
    obtain ⟨ht1, hp⟩ := hs1 rfl
    have C2 := Lib.hid (rplain_any k m1 mc1 A1 has vs w1 HF.out.1 ⟨HF.out.2.1.1, HF.out.2.1.2.1⟩ (by rw [Wig.rtake_len _ ht1]; exact HF.out.2.2) hm1 hr1)
    obtain ⟨f, hff⟩ : ∃ f, f = Wig.dplain k vs := ⟨_, rfl⟩
    rw [← hff] at C2
    have RES := Lib.hid (show Wig.dbehind k fin xs = some (f, xs.drop p) ∧ p ≤ xs.length from ⟨by rw [HD.out, ht1, hff], hp⟩)
    have HE := Lib.hid (show f.data = [] ∧ f.spans = [] by rw [hff]; exact Wig.dplain_rest k vs)
    clear hm1 hr1 hv1 hb1 hs1 hf1 HD HF ht1 hp hff
    go_wp2_with fail
    refine (C2.out).mono ?_
    rintro e w2 ⟨rfl, hb2⟩
    have B2 := Lib.hid (B1.out.trans (hb2.mono B1.out.size))
    have HL := Lib.hid (box_lies (b := w.heap.size) (show Lies w2 w2.heap.size f none 0 none 0 from ⟨by rw [HE.out.1]; exact Nat.le_refl _, Nat.zero_le _, by rw [HE.out.1]; exact RdN.empty, by rw [HE.out.2]; exact Nat.le_refl _, Nat.zero_le _, by rw [HE.out.2]; exact RdS.empty⟩) (by simp) (by simp))
    clear hb2 C2
    simp only [farr]
    obtain ⟨⟨k0, k1, k2, k3, k4, k5, k6, k7, k8, k9⟩, z0, z1, z2, z3, z4, z5, z6, z7, z8, z9⟩ := box_cells BX.out (B2.out)
    have HZ := Lib.hid (box_put BX.out (B2.out) f none 0 none 0)
    have ltb : w.heap.size < w2.heap.size := Nat.lt_of_lt_of_le BX.out.2.1 (B2.out).size
    go_wp2_with fail
    have hyz := HZ.out.1
    have hby := HB.out.trans HZ.out.2
    have hly := HL.out
    replace hyz := hyz.below ((Below.refl _ _).alloc (Nat.le_refl _) (.cells (farr f none 0 none 0) 26))
    replace hby := hby.trans ((Below.refl _ _).alloc (by have := HZ.out.2.size; have := HB.out.size; omega) (.cells (farr f none 0 none 0) 26))
    replace hly := hly.step ((Below.refl _ _).alloc (Nat.le_refl _) (.cells (farr f none 0 none 0) 26))
    clear HZ HL
    show bodyPost _ _ _ _ _ ((w2.setCells w.heap.size 0 (farr f none 0 none 0).toList).alloc (.cells (farr f none 0 none 0) 26))
    obtain ⟨wz, hwz⟩ : ∃ wz, wz = (w2.setCells w.heap.size 0 (farr f none 0 none 0).toList).alloc (.cells (farr f none 0 none 0) 26) := ⟨_, rfl⟩
    rw [← hwz] at hyz hby hly ⊢
    clear hwz k0 k1 k2 k3 k4 k5 k6 k7 k8 k9 z0 z1 z2 z3 z4 z5 z6 z7 z8 z9
    obtain ⟨y0, y1, y2, y3, y4, y5, y6, y7, y8, y9⟩ := at_cells hyz
    exact bodyPost_ret (v := .tuple #[.agg (farr f none 0 none 0), .int .i64 ((p : Nat) : Int), .bool true]) (by simp [results, Tryd.results32, farr, go_sem, y0, y1, y2, y3, y4, y5, y6, y7, y8, y9]) rfl (.inr ⟨f, none, 0, none, 0, p, RES.out.1, RES.out.2, rfl, hly, hby, (by simp), (by simp)⟩)
end Go.Proofs.YtogioabdijgglaaDoor
end

section
namespace Wig
theorem dbehind_data (fin : Bool) {xs r : List Nat} {x y z : Nat} (h : rtake 3 xs = some ([x, y, z], r)) : dbehind 14 fin xs = if 1200 < z then none else if r.length < z then none else some ({ dplain 14 [x, y, z] with fin := fin, data := r.take z }, r.drop z) := by
  unfold dbehind
  rw [if_neg (by omega)]
  unfold pbind
  rw [show dcount 14 = 3 from rfl, h]
  simp only [if_true, List.getD_cons_zero, List.getD_cons_succ]
  by_cases h1 : 1200 < z
  · rw [if_pos h1, if_pos h1]; rfl
  · rw [if_neg h1, if_neg h1]
    unfold rdTake
    by_cases h2 : r.length < z
    · rw [if_pos h2, if_pos h2]
    · rw [if_neg h2, if_neg h2]; rfl
theorem dbehind_few (fin : Bool) {xs : List Nat} (h : rtake 3 xs = none) : dbehind 14 fin xs = none := by
  unfold dbehind
  rw [if_neg (by omega)]
  unfold pbind
  rw [show dcount 14 = 3 from rfl, h]
end Wig
namespace Go.Proofs.YtogioabdijgglaaDoor
open Go.ChangeShapes Go.WideShapes Go.ChangeAt Go.RowKit Go.Deep
set_option linter.unusedVariables false
/-- What take returns, as one sentence, and where it lies. -/
def TakeV (xs : List Nat) (cnt : Nat) (w : World) (e : Ending) (w' : World) : Prop :=
  ∃ A m mc p ok vs, e = .returned (.tuple #[.slice A m mc, .int .i64 ((p : Nat) : Int), .bool ok]) ∧ m = vs.length ∧ RdN .u64 w' w'.heap.size A vs ∧ (∀ x ∈ vs, x < 4611686018427387904) ∧ Below w.heap.size w w' ∧
    (ok = true → Wig.rtake cnt xs = some (vs, xs.drop p) ∧ p ≤ xs.length) ∧ (ok = false → Wig.rtake cnt xs = none) ∧ (∀ b o s, A = some ⟨b, o, s⟩ → w.heap.size ≤ b)
theorem takeAt_v {xs : List Nat} {cnt : Nat} {w w' : World} {e : Ending} (h : TakeAt xs cnt w e w') : TakeV xs cnt w e w' := by
  rcases h with ⟨h1, rfl, hb⟩ | ⟨v, p, vs, h1, h2, rfl, h3, h4, hb⟩
  · exact ⟨none, 0, 0, 0, false, [], rfl, rfl, RdN.empty, (by simp), hb, (by simp), (fun _ => h1), (by simp)⟩
  · obtain ⟨A, n, c, rfl, hn, _, _, hr, hf⟩ := h3.has
    exact ⟨A, n, c, p, true, vs, rfl, hn, hr, h4, hb, (fun _ => ⟨h1, h2⟩), (by simp), fun b o s e => (hf b o s e).1⟩
theorem three_of {xs vs : List Nat} {r : List Nat} (h : Wig.rtake 3 xs = some (vs, r)) : ∃ x y z, vs = [x, y, z] := by
  have := Wig.rtake_len 3 h
  rcases vs with _ | ⟨x, _ | ⟨y, _ | ⟨z, _ | ⟨t, r⟩⟩⟩⟩ <;> simp at this
  exact ⟨x, y, z, rfl⟩
set_option maxHeartbeats 16000000 in
set_option maxRecDepth 100000 in
theorem rbehind_14 (fin : Bool) (ab ao n c : Nat) (xs : List Nat) (w : World) (hx : Wig.Bytes xs) (hr : RdN .u8 w w.heap.size (some ⟨ab, ao, none⟩) xs) (hn : n = xs.length) (hl : n ≤ c) (hc : c ≤ maxLen) :
    Calls Tryd.prog 32 #[.int .i64 14, .bool fin, .slice (some ⟨ab, ao, none⟩) n c] w (FrameAt (Wig.dbehind 14 fin) xs w) := by
  obtain ⟨wn, hwn⟩ : ∃ wn, wn = w.alloc (.cells #[.int .i64 0, .int .u64 0, .int .u64 0, .int .u64 0, .int .u64 0, .int .u64 0, .int .u64 0, .bool false, .slice none 0 0, .slice none 0 0] 26) := ⟨_, rfl⟩
  have BX := Lib.hid (show Box wn w.heap.size by rw [hwn]; exact box_new w _)
  have HB := Lib.hid (show Below w.heap.size w wn by rw [hwn]; exact (Below.refl _ _).alloc (Nat.le_refl _) _)
  have HR := Lib.hid ((hr.below HB.out).wide HB.out.size)
  have HX := Lib.hid (And.intro hx (And.intro hn (And.intro hl hc)))
  have C1 := Lib.hid (show Calls Tryd.prog 43 #[.slice (some ⟨ab, ao, none⟩) n c, .int .i64 3] wn (TakeV xs 3 wn) from (rtake_any ab ao n c 3 xs wn hx HR.out hn hl hc (by omega)).mono fun _ _ h => takeAt_v h)
  have CC := Lib.hid (show Calls Tryd.prog 44 #[.int .i64 14] wn fun e w' => e = .returned (.int .i64 3) ∧ wn = w' from rcount_any 14 [0, 1, 7] wn rfl)
  clear hx hr hn hl hc
  go_enter Tryd.func32, Tryd.ntmps32
  go_wp2_with fail
  rw [← hwn]
  clear hwn
  refine (CC.out).mono ?_
  rintro e w0 ⟨rfl, rfl⟩
  clear CC
  go_wp2_with fail
  refine (C1.out).mono ?_
  rintro e w1 ⟨A1, m1, mc1, p, ok1, vs, rfl, hm1, hr1, hv1, hb1, hs1, hf1, hfa⟩
  have B1 := Lib.hid hb1
  clear C1
  cases ok1 with
  | false =>
    have R := Lib.hid (Wig.dbehind_few fin (hf1 rfl))
    clear hm1 hr1 hv1 hb1 hs1 hf1 hfa
    obtain ⟨⟨k0, k1, k2, k3, k4, k5, k6, k7, k8, k9⟩, z0, z1, z2, z3, z4, z5, z6, z7, z8, z9⟩ := box_cells BX.out (B1.out)
    have HZ := Lib.hid (box_zero BX.out (B1.out))
    go_wp2_with fail
    obtain ⟨wz, hwz⟩ : ∃ wz, wz = w1.setCells w.heap.size 0 (farr Wig.Fr.zero none 0 none 0).toList := ⟨_, rfl⟩
    obtain ⟨y, hy⟩ := HZ.out
    rw [← hwz] at y hy
    show bodyPost _ _ _ _ _ (w1.setCells w.heap.size 0 (farr Wig.Fr.zero none 0 none 0).toList)
    rw [← hwz]
    obtain ⟨y0, y1, y2, y3, y4, y5, y6, y7, y8, y9⟩ := at_cells y
    clear hwz HZ k0 k1 k2 k3 k4 k5 k6 k7 k8 k9 z0 z1 z2 z3 z4 z5 z6 z7 z8 z9
    exact bodyPost_ret (v := .tuple #[.agg (farr Wig.Fr.zero none 0 none 0), .int .i64 0, .bool false]) (by simp [results, Tryd.results32, farr, Wig.Fr.zero, go_sem, y0, y1, y2, y3, y4, y5, y6, y7, y8, y9]) rfl (.inl ⟨R.out, rfl, HB.out.trans hy⟩)
  | true =>
    obtain ⟨ht1, hp⟩ := hs1 rfl
    obtain ⟨x, y, z, rfl⟩ := three_of ht1
    have z62 := hv1 z (by simp)
    have C2 := Lib.hid (show Calls Tryd.prog 45 #[.int .i64 14, .slice A1 m1 mc1] w1 fun e w' => e = .returned (.agg #[.int .i64 14, .int .u64 (x : Int), .int .u64 (y : Int), .int .u64 0, .int .u64 0, .int .u64 0, .int .u64 0, .bool false, .slice none 0 0, .slice none 0 0]) ∧ Below w1.heap.size w1 w' from rplain_any 14 m1 mc1 A1 [0, 1, 7] [x, y, z] w1 rfl (by omega) rfl hm1 hr1)
    obtain ⟨a1, o1, rfl, la1, cz⟩ := hr1.at_ (j := 2) (x := z) rfl
    simp only [List.length_cons, List.length_nil, Nat.zero_add, Nat.reduceAdd] at hm1
    subst hm1
    have nea : ¬ w.heap.size = a1 := by have := hfa a1 o1 none rfl; have := BX.out.2.1; omega
    have NEA := Lib.hid nea
    clear nea
    have D := Wig.dbehind_data fin ht1
    rw [List.length_drop] at D
    have HD := Lib.hid D
    have HP := Lib.hid hp
    obtain ⟨m, hm⟩ : ∃ m, m = n - p := ⟨_, rfl⟩
    have g1 : IntKind.i64.wrap ((n : Int) - (p : Int)) = (m : Int) := by rw [IntKind.wrap_i64]; have h1 := HX.out; unfold maxLen at h1; omega
    have g2 : IntKind.u64.wrap (m : Int) = (m : Int) := by rw [IntKind.wrap_u64]; have h1 := HX.out; unfold maxLen at h1; omega
    have HM := Lib.hid hm
    have HZ62 := Lib.hid z62
    clear hr1 hv1 hb1 hs1 hf1 ht1 hp hm D z62 hfa
    go_wp2_with fail
    refine (C2.out).mono ?_
    rintro e w2 ⟨rfl, hb2⟩
    have B2 := Lib.hid (B1.out.trans (hb2.mono B1.out.size))
    have cz2 := (hb2.cell (p := ⟨a1, o1 + 2, none⟩) la1).trans cz
    have la2 : a1 < w2.heap.size := Nat.lt_of_lt_of_le la1 hb2.size
    have ltb : w.heap.size < w2.heap.size := Nat.lt_of_lt_of_le BX.out.2.1 B2.out.size
    clear hb2 C2 cz la1
    by_cases q1 : 1200 < z
    · have t1 : decide ((1200 : Int) < (z : Int)) = true := decide_eq_true (by omega)
      have t1' : decide (1200 < z) = true := decide_eq_true q1
      have R := Lib.hid (show Wig.dbehind 14 fin xs = none by rw [HD.out, if_pos q1])
      clear q1 HD
      obtain ⟨⟨k0, k1, k2, k3, k4, k5, k6, k7, k8, k9⟩, z0, z1, z2, z3, z4, z5, z6, z7, z8, z9⟩ := box_cells BX.out B2.out
      have HZ := Lib.hid (box_zero BX.out B2.out)
      go_wp2_with fail
      have hyz := HZ.out.1.below ((Below.refl _ _).alloc (Nat.le_refl _) (.cells (farr (Wig.dplain 14 [x, y, z]) none 0 none 0) 26))
      have hby := (HB.out.trans HZ.out.2).trans ((Below.refl _ _).alloc (by have := HZ.out.2.size; have := HB.out.size; omega) (.cells (farr (Wig.dplain 14 [x, y, z]) none 0 none 0) 26))
      clear HZ
      show bodyPost _ _ _ _ _ ((w2.setCells w.heap.size 0 (farr Wig.Fr.zero none 0 none 0).toList).alloc (.cells (farr (Wig.dplain 14 [x, y, z]) none 0 none 0) 26))
      obtain ⟨wz, hwz⟩ : ∃ wz, wz = (w2.setCells w.heap.size 0 (farr Wig.Fr.zero none 0 none 0).toList).alloc (.cells (farr (Wig.dplain 14 [x, y, z]) none 0 none 0) 26) := ⟨_, rfl⟩
      rw [← hwz] at hyz hby ⊢
      clear hwz k0 k1 k2 k3 k4 k5 k6 k7 k8 k9 z0 z1 z2 z3 z4 z5 z6 z7 z8 z9
      obtain ⟨y0, y1, y2, y3, y4, y5, y6, y7, y8, y9⟩ := at_cells hyz
      exact bodyPost_ret (v := .tuple #[.agg (farr Wig.Fr.zero none 0 none 0), .int .i64 0, .bool false]) (by simp [results, Tryd.results32, farr, Wig.Fr.zero, go_sem, y0, y1, y2, y3, y4, y5, y6, y7, y8, y9]) rfl (.inl ⟨R.out, rfl, hby⟩)
    have t1 : decide ((1200 : Int) < (z : Int)) = false := decide_eq_false (by omega)
    have t1' : decide (1200 < z) = false := decide_eq_false q1
    by_cases q2 : m < z
    · have t2 : decide ((m : Int) < (z : Int)) = true := decide_eq_true (by omega)
      have t2' : decide (m < z) = true := decide_eq_true q2
      have R := Lib.hid (show Wig.dbehind 14 fin xs = none by rw [HD.out, if_neg q1, if_pos (by have := HM.out; have := HX.out; omega)])
      clear q1 q2 HD
      obtain ⟨⟨k0, k1, k2, k3, k4, k5, k6, k7, k8, k9⟩, z0, z1, z2, z3, z4, z5, z6, z7, z8, z9⟩ := box_cells BX.out B2.out
      have HZ := Lib.hid (box_zero BX.out B2.out)
      go_wp2_with fail
      have hyz := HZ.out.1.below ((Below.refl _ _).alloc (Nat.le_refl _) (.cells (farr (Wig.dplain 14 [x, y, z]) none 0 none 0) 26))
      have hby := (HB.out.trans HZ.out.2).trans ((Below.refl _ _).alloc (by have := HZ.out.2.size; have := HB.out.size; omega) (.cells (farr (Wig.dplain 14 [x, y, z]) none 0 none 0) 26))
      clear HZ
      show bodyPost _ _ _ _ _ ((w2.setCells w.heap.size 0 (farr Wig.Fr.zero none 0 none 0).toList).alloc (.cells (farr (Wig.dplain 14 [x, y, z]) none 0 none 0) 26))
      obtain ⟨wz, hwz⟩ : ∃ wz, wz = (w2.setCells w.heap.size 0 (farr Wig.Fr.zero none 0 none 0).toList).alloc (.cells (farr (Wig.dplain 14 [x, y, z]) none 0 none 0) 26) := ⟨_, rfl⟩
      rw [← hwz] at hyz hby ⊢
      clear hwz k0 k1 k2 k3 k4 k5 k6 k7 k8 k9 z0 z1 z2 z3 z4 z5 z6 z7 z8 z9
      obtain ⟨y0, y1, y2, y3, y4, y5, y6, y7, y8, y9⟩ := at_cells hyz
      exact bodyPost_ret (v := .tuple #[.agg (farr Wig.Fr.zero none 0 none 0), .int .i64 0, .bool false]) (by simp [results, Tryd.results32, farr, Wig.Fr.zero, go_sem, y0, y1, y2, y3, y4, y5, y6, y7, y8, y9]) rfl (.inl ⟨R.out, rfl, hby⟩)
    have t2 : decide ((m : Int) < (z : Int)) = false := decide_eq_false (by omega)
    have t2' : decide (m < z) = false := decide_eq_false q2
    have h1200 := Lib.hid (show z ≤ 1200 by omega)
    have HZM := Lib.hid (show z ≤ m by omega)
    obtain ⟨q, hq⟩ : ∃ q, q = p + z := ⟨_, rfl⟩
    have hqn : q ≤ n := by have := HM.out; have := HX.out; have := HP.out; omega
    have RES := Lib.hid (show Wig.dbehind 14 fin xs = some ({ Wig.dplain 14 [x, y, z] with fin := fin, data := (xs.drop p).take z }, xs.drop q) ∧ q ≤ xs.length by
      refine ⟨?_, by have := HX.out; omega⟩
      rw [HD.out, if_neg q1, if_neg (by have := HM.out; have := HX.out; omega), List.drop_drop, hq])
    have g3 : IntKind.i64.wrap (z : Int) = (z : Int) := by rw [IntKind.wrap_i64]; have := h1200.out; omega
    have g4 : IntKind.i64.wrap ((p : Int) + (z : Int)) = (q : Int) := by rw [IntKind.wrap_i64]; have h1 := HX.out; unfold maxLen at h1; omega
    have b0 : (0 : Int) ≤ (p : Int) := by omega
    have b1 : p ≤ q := by omega
    have b2 : q ≤ n := hqn
    have b3 : q ≤ c := by have := HX.out; omega
    have HQ := Lib.hid hq
    obtain ⟨wb, hwb⟩ : ∃ wb, wb = w2.alloc (.cells #[.int .i64 14, .int .u64 (x : Int), .int .u64 (y : Int), .int .u64 0, .int .u64 0, .int .u64 0, .int .u64 0, .bool fin, .slice none 0 0, .slice none 0 0] 26) := ⟨_, rfl⟩
    obtain ⟨f1, hf1⟩ : ∃ f1 : Wig.Fr, f1 = { Wig.dplain 14 [x, y, z] with fin := fin } := ⟨_, rfl⟩
    have AT0 := Lib.hid (show At wb w2.heap.size 0 f1 none 0 none 0 by
      have h := at_box w2 f1 none 0 none 0 26
      rw [hf1] at h ⊢
      rw [hwb]
      exact h)
    have FZ0 := Lib.hid (show ∀ j, wb.frozen? ⟨w2.heap.size, j, none⟩ = false by rw [hwb]; exact fun j => World.frozen?_alloc_at _ _ _ _ rfl)
    have hbw : Below w2.heap.size w2 wb := by rw [hwb]; exact (Below.refl _ _).alloc (Nat.le_refl _) _
    have BW := Lib.hid hbw
    have lt12 : w2.heap.size < wb.heap.size := by rw [hwb]; simp
    have czb := (hbw.cell (p := ⟨a1, o1 + 2, none⟩) la2).trans cz2
    have lab : a1 < wb.heap.size := by omega
    have HF1 := Lib.hid hf1
    have OL := Lib.hid (show OwnN .u8 5 (wb.alloc (.cells #[] 5)) wb.heap.size (.slice (some ⟨wb.heap.size, 0, none⟩) 0 0) [] from own_lit .u8 5 wb wb.heap.size [] (Nat.le_refl _) (Nat.zero_le _))
    have HBB := Lib.hid (B2.out.trans (hbw.mono B2.out.size))
    have RD := Lib.hid fun o => ((RdN.drop (HR.out.below (HBB.out.alloc HBB.out.size o)) p).take z)
    clear q1 q2 hq hqn HD hbw hf1
    go_upto_region 12 with fail
    rw [← hwb]
    have lw2 := la2
    clear hwb la2
    by_cases hcp : c = p
    · have hys := Lib.hid (show (xs.drop p).take z = [] by rw [List.drop_eq_nil_of_le (by have := HX.out; omega), List.take_nil])
      go_upto_region 13 with (at_builtin; refine wpList_append_bytes rfl _ _ rfl wb.heap.size (.slice (some ⟨wb.heap.size, 0, none⟩) 0 0) [] ((xs.drop p).take z) (by rfl) OL.out wn.heap.size (some ⟨ab, ao, none⟩) 0 (q - p) (by rw [List.length_take, List.length_drop]; have := HQ.out; have := HX.out; have := HM.out; have := HZM.out; omega) (by rfl) (by rw [hys.out]; exact RdN.empty) (by have := HQ.out; have := h1200.out; simp; omega) (by simp) ?_)
      intro v4 w5 hown5 hg5
      have hb5 : Below wb.heap.size wb w5 := ((Below.refl _ _).alloc (Nat.le_refl _) _).grown hg5 (by simp) (fun q hq => (OL.out.block q hq).1)
      obtain ⟨D, nd, dc, rfl, hnd, hdc, hdm, hrd, hfr⟩ := hown5.has
      have e8 : w5.cell? ⟨w2.heap.size, 8, none⟩ = some (.slice none 0 0) := by
        have h := (hb5.cell (p := ⟨w2.heap.size, 0 + 8, none⟩) lt12).trans AT0.out.c8
        rw [HF1.out] at h
        exact h
      have f8 : w5.frozen? ⟨w2.heap.size, 8, none⟩ = false := (hb5.frozen lt12).trans (FZ0.out 8)
      obtain ⟨w6, hw6⟩ : ∃ w6, w6 = w5.setCell ⟨w2.heap.size, 8, none⟩ (.slice D nd dc) := ⟨_, rfl⟩
      obtain ⟨f, hf⟩ : ∃ f : Wig.Fr, f = { f1 with data := (xs.drop p).take z } := ⟨_, rfl⟩
      have A5 := AT0.out.below hb5
      have A6 : At w6 w2.heap.size 0 f D dc none 0 := by
        rw [hw6, hf]
        exact ⟨(set_other (by omega)).trans A5.c0, (set_other (by omega)).trans A5.c1, (set_other (by omega)).trans A5.c2, (set_other (by omega)).trans A5.c3, (set_other (by omega)).trans A5.c4, (set_other (by omega)).trans A5.c5, (set_other (by omega)).trans A5.c6, (set_other (by omega)).trans A5.c7, by rw [hnd]; exact World.cell?_setCell_same _ _ _ A5.c8, (set_other (by omega)).trans A5.c9⟩
      have hb56 : Below w2.heap.size w5 w6 := by rw [hw6]; exact (Below.refl _ _).setCell (p := ⟨w2.heap.size, 8, none⟩) (Nat.le_refl _) _
      have hb26 : Below w2.heap.size w2 w6 := (BW.out.trans (hb5.mono BW.out.size)).trans hb56
      have B6 := Lib.hid (B2.out.trans (hb26.mono B2.out.size))
      have L6 : Lies w6 w6.heap.size f D dc none 0 := by
        have L5 : Lies w5 w5.heap.size f D dc none 0 := by
          rw [hf]
          exact ⟨by rw [← hnd]; exact hdc, hdm, hrd, by rw [show ({ f1 with data := (xs.drop p).take z } : Wig.Fr).spans = [] by rw [HF1.out]; rfl]; exact Nat.le_refl _, Nat.zero_le _, by rw [show ({ f1 with data := (xs.drop p).take z } : Wig.Fr).spans = [] by rw [HF1.out]; rfl]; exact RdS.empty⟩
        exact L5.above (g := w2.heap.size) (fun b o s e => by have := (hfr b o s e).1; omega) (by simp) hb56.size fun b j hb => by rw [hw6]; exact n_other _ _ _ _ _ _ (by omega)
      have HDB := Lib.hid (show ∀ b o s, D = some ⟨b, o, s⟩ → w.heap.size < b from fun b o s e => by have := (hfr b o s e).1; omega)
      have RES2 := Lib.hid (show Wig.dbehind 14 fin xs = some (f, xs.drop q) ∧ q ≤ xs.length by
        have h := RES.out
        rw [hf, HF1.out]
        exact h)
      have HL := Lib.hid (box_lies L6 HDB.out (by simp))
      have cz6 := (hb26.cell (p := ⟨a1, o1 + 2, none⟩) lw2).trans cz2
      have AC := Lib.hid A6
      have HND := Lib.hid (show nd = f.data.length by rw [hf]; exact hnd)
      clear hown5 hg5 hb5 hnd hdc hdm hrd hfr A5 A6 hb56 hb26 L6 hf RES czb lab lt12
      go_upto_region 13 with fail
      rw [← hw6]
      clear hw6 e8 f8
      obtain ⟨e0, e1, e2, e3, e4, e5, e6, e7, e8, e9⟩ := at_cells AC.out
      obtain ⟨⟨k0, k1, k2, k3, k4, k5, k6, k7, k8, k9⟩, z0, z1, z2, z3, z4, z5, z6, z7, z8, z9⟩ := box_cells BX.out B6.out
      have HZ := Lib.hid (box_put BX.out B6.out f D dc none 0)
      have nea := NEA.out
      go_wp2_with fail
      go_region
      go_wp2_with fail
      have hyz := HZ.out.1.below (Below.refl _ _).drew
      have hby := (HB.out.trans HZ.out.2).trans (Below.refl _ _).drew
      have hly := HL.out.step (Below.refl _ _).drew
      clear HZ HL
      show bodyPost _ _ _ _ _ ((w6.setCells w.heap.size 0 (farr f D dc none 0).toList).drew)
      obtain ⟨wz, hwz⟩ : ∃ wz, wz = ((w6.setCells w.heap.size 0 (farr f D dc none 0).toList).drew) := ⟨_, rfl⟩
      rw [← hwz] at hyz hby hly ⊢
      clear hwz k0 k1 k2 k3 k4 k5 k6 k7 k8 k9 z0 z1 z2 z3 z4 z5 z6 z7 z8 z9 e0 e1 e2 e3 e4 e5 e6 e7 e8 e9
      obtain ⟨y0, y1, y2, y3, y4, y5, y6, y7, y8, y9⟩ := at_cells hyz
      exact bodyPost_ret (v := .tuple #[.agg (farr f D dc none 0), .int .i64 ((q : Nat) : Int), .bool true]) (by simp [results, Tryd.results32, farr, go_sem, y0, y1, y2, y3, y4, y5, y6, y7, y8, y9]) rfl (.inr ⟨f, D, dc, none, 0, q, RES2.out.1, RES2.out.2, rfl, hly, hby, (fun b o s e => Nat.le_of_lt (HDB.out b o s e)), (by simp)⟩)
    · go_upto_region 13 with (at_builtin; refine wpList_append_bytes rfl _ _ rfl wb.heap.size (.slice (some ⟨wb.heap.size, 0, none⟩) 0 0) [] ((xs.drop p).take z) (by rfl) OL.out wn.heap.size (some ⟨ab, ao + p, none⟩) (c - p) (q - p) (by rw [List.length_take, List.length_drop]; have := HQ.out; have := HX.out; have := HM.out; have := HZM.out; omega) (by rfl) (RD.out _) (by have := HQ.out; have := h1200.out; simp; omega) (by simp) ?_)
      intro v4 w5 hown5 hg5
      have hb5 : Below wb.heap.size wb w5 := ((Below.refl _ _).alloc (Nat.le_refl _) _).grown hg5 (by simp) (fun q hq => (OL.out.block q hq).1)
      obtain ⟨D, nd, dc, rfl, hnd, hdc, hdm, hrd, hfr⟩ := hown5.has
      have e8 : w5.cell? ⟨w2.heap.size, 8, none⟩ = some (.slice none 0 0) := by
        have h := (hb5.cell (p := ⟨w2.heap.size, 0 + 8, none⟩) lt12).trans AT0.out.c8
        rw [HF1.out] at h
        exact h
      have f8 : w5.frozen? ⟨w2.heap.size, 8, none⟩ = false := (hb5.frozen lt12).trans (FZ0.out 8)
      obtain ⟨w6, hw6⟩ : ∃ w6, w6 = w5.setCell ⟨w2.heap.size, 8, none⟩ (.slice D nd dc) := ⟨_, rfl⟩
      obtain ⟨f, hf⟩ : ∃ f : Wig.Fr, f = { f1 with data := (xs.drop p).take z } := ⟨_, rfl⟩
      have A5 := AT0.out.below hb5
      have A6 : At w6 w2.heap.size 0 f D dc none 0 := by
        rw [hw6, hf]
        exact ⟨(set_other (by omega)).trans A5.c0, (set_other (by omega)).trans A5.c1, (set_other (by omega)).trans A5.c2, (set_other (by omega)).trans A5.c3, (set_other (by omega)).trans A5.c4, (set_other (by omega)).trans A5.c5, (set_other (by omega)).trans A5.c6, (set_other (by omega)).trans A5.c7, by rw [hnd]; exact World.cell?_setCell_same _ _ _ A5.c8, (set_other (by omega)).trans A5.c9⟩
      have hb56 : Below w2.heap.size w5 w6 := by rw [hw6]; exact (Below.refl _ _).setCell (p := ⟨w2.heap.size, 8, none⟩) (Nat.le_refl _) _
      have hb26 : Below w2.heap.size w2 w6 := (BW.out.trans (hb5.mono BW.out.size)).trans hb56
      have B6 := Lib.hid (B2.out.trans (hb26.mono B2.out.size))
      have L6 : Lies w6 w6.heap.size f D dc none 0 := by
        have L5 : Lies w5 w5.heap.size f D dc none 0 := by
          rw [hf]
          exact ⟨by rw [← hnd]; exact hdc, hdm, hrd, by rw [show ({ f1 with data := (xs.drop p).take z } : Wig.Fr).spans = [] by rw [HF1.out]; rfl]; exact Nat.le_refl _, Nat.zero_le _, by rw [show ({ f1 with data := (xs.drop p).take z } : Wig.Fr).spans = [] by rw [HF1.out]; rfl]; exact RdS.empty⟩
        exact L5.above (g := w2.heap.size) (fun b o s e => by have := (hfr b o s e).1; omega) (by simp) hb56.size fun b j hb => by rw [hw6]; exact n_other _ _ _ _ _ _ (by omega)
      have HDB := Lib.hid (show ∀ b o s, D = some ⟨b, o, s⟩ → w.heap.size < b from fun b o s e => by have := (hfr b o s e).1; omega)
      have RES2 := Lib.hid (show Wig.dbehind 14 fin xs = some (f, xs.drop q) ∧ q ≤ xs.length by
        have h := RES.out
        rw [hf, HF1.out]
        exact h)
      have HL := Lib.hid (box_lies L6 HDB.out (by simp))
      have cz6 := (hb26.cell (p := ⟨a1, o1 + 2, none⟩) lw2).trans cz2
      have AC := Lib.hid A6
      have HND := Lib.hid (show nd = f.data.length by rw [hf]; exact hnd)
      clear hown5 hg5 hb5 hnd hdc hdm hrd hfr A5 A6 hb56 hb26 L6 hf RES czb lab lt12
      go_upto_region 13 with fail
      rw [← hw6]
      clear hw6 e8 f8
      obtain ⟨e0, e1, e2, e3, e4, e5, e6, e7, e8, e9⟩ := at_cells AC.out
      obtain ⟨⟨k0, k1, k2, k3, k4, k5, k6, k7, k8, k9⟩, z0, z1, z2, z3, z4, z5, z6, z7, z8, z9⟩ := box_cells BX.out B6.out
      have HZ := Lib.hid (box_put BX.out B6.out f D dc none 0)
      have nea := NEA.out
      go_wp2_with fail
      go_region
      go_wp2_with fail
      have hyz := HZ.out.1.below (Below.refl _ _).drew
      have hby := (HB.out.trans HZ.out.2).trans (Below.refl _ _).drew
      have hly := HL.out.step (Below.refl _ _).drew
      clear HZ HL
      show bodyPost _ _ _ _ _ ((w6.setCells w.heap.size 0 (farr f D dc none 0).toList).drew)
      obtain ⟨wz, hwz⟩ : ∃ wz, wz = ((w6.setCells w.heap.size 0 (farr f D dc none 0).toList).drew) := ⟨_, rfl⟩
      rw [← hwz] at hyz hby hly ⊢
      clear hwz k0 k1 k2 k3 k4 k5 k6 k7 k8 k9 z0 z1 z2 z3 z4 z5 z6 z7 z8 z9 e0 e1 e2 e3 e4 e5 e6 e7 e8 e9
      obtain ⟨y0, y1, y2, y3, y4, y5, y6, y7, y8, y9⟩ := at_cells hyz
      exact bodyPost_ret (v := .tuple #[.agg (farr f D dc none 0), .int .i64 ((q : Nat) : Int), .bool true]) (by simp [results, Tryd.results32, farr, go_sem, y0, y1, y2, y3, y4, y5, y6, y7, y8, y9]) rfl (.inr ⟨f, D, dc, none, 0, q, RES2.out.1, RES2.out.2, rfl, hly, hby, (fun b o s e => Nat.le_of_lt (HDB.out b o s e)), (by simp)⟩)
end Go.Proofs.YtogioabdijgglaaDoor
end
