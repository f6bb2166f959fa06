/-
  Rpa: The document's Parse(b): the frame that bytes begin with. No condition.
  Rpb: The document's Parse(b): the number 15. No condition.
  Rpc: The document's Parse(b): a Kind that is, but 15. No condition.
  Rpd: The document's Parse(b) and All(b). Condition: at most 100000 bytes.
-/
import Derived.Test.YtogioabdijgglaaDoorRpx
import Derived.Test.YtogioabdijgglaaDoorRen
import Derived.Test.YtogioabdijgglaaDoorAll
section
namespace Go.Proofs.YtogioabdijgglaaDoor
open Go.ChangeShapes Go.WideShapes Go.ChangeAt Go.RowKit Go.Deep
set_option linter.unusedVariables false
theorem parseAt_none {xs : List Nat} {w w' : World} (h : Wig.rdFrame xs = none) (hb : Below w.heap.size w w') : ParseAt xs w (.returned (.tuple #[.agg (farr Wig.Fr.zero none 0 none 0), .int .i64 0, .int .i64 50])) w' := by
  have e1 : Wig.pfr xs = Wig.Fr.zero := by unfold Wig.pfr; rw [h]
  have e2 : Wig.plen xs = 0 := by unfold Wig.plen; rw [h]
  have e3 : Wig.perr xs = 50 := by unfold Wig.perr; rw [h]
  unfold ParseAt
  rw [e1, e2, e3]
  exact ⟨none, 0, none, 0, rfl, lies_zero _ _, hb, (by simp), (by simp)⟩
theorem parseAt_some {xs : List Nat} {w w' : World} {f : Wig.Fr} {D S : Option Addr} {dc sc q : Nat} (h : Wig.rdFrame xs = some (f, xs.drop q)) (hq : q ≤ xs.length) (hl : Lies w' w'.heap.size f D dc S sc) (hb : Below w.heap.size w w')
    (hD : ∀ b o s, D = some ⟨b, o, s⟩ → w.heap.size ≤ b) (hS : ∀ b o s, S = some ⟨b, o, s⟩ → w.heap.size ≤ b) : ParseAt xs w (.returned (.tuple #[.agg (farr f D dc S sc), .int .i64 ((q : Nat) : Int), .int .i64 0])) w' := by
  have e1 : Wig.pfr xs = f := by unfold Wig.pfr; rw [h]
  have e2 : Wig.plen xs = q := by unfold Wig.plen; rw [h]; simp only [List.length_drop]; omega
  have e3 : Wig.perr xs = 0 := by unfold Wig.perr; rw [h]
  unfold ParseAt
  rw [e1, e2, e3]
  exact ⟨D, dc, S, sc, rfl, hl, hb, hD, hS⟩
theorem rbehind_any (k : Nat) (has : List Nat) (hf : Wig.flds k = some has) (fin : Bool) (ab ao n c : Nat) (xs : List Nat) (w : World) (hx : Wig.Bytes xs) (hr : RdN .u8 w w.heap.size (some ⟨ab, ao, none⟩) xs) (hn : n = xs.length) (hl : n ≤ c) (hc : c ≤ maxLen) :
    Calls Tryd.prog 32 #[.int .i64 (k : Int), .bool fin, .slice (some ⟨ab, ao, none⟩) n c] w (FrameAt (Wig.dbehind k fin) xs w) := by
  by_cases h2 : k = 2
  · subst h2; exact rbehind_2 fin ab ao n c xs w hx hr hn hl hc
  by_cases h3 : k = 3
  · subst h3; exact rbehind_3 fin ab ao n c xs w hx hr hn hl hc
  by_cases h14 : k = 14
  · subst h14; exact rbehind_14 fin ab ao n c xs w hx hr hn hl hc
  exact rbehind_plain k has hf ⟨h2, h3, h14⟩ fin ab ao n c xs w hx hr hn hl hc
/-- A part of bytes from f on: where it lies. -/
theorem run_slb {w : World} {a : Act} {o : Oper} {x lo : Operand} (ho : o.op = .slice 23 x (some lo) none none) {ab ao n c f : Nat} (hx : a.eval x = .slice (some ⟨ab, ao, none⟩) n c) (hlo : a.eval lo = .int .i64 (f : Int))
    (hf : f ≤ n) (ao' m k : Nat) (ha : ao' = if c = f then ao else ao + f) (hm : m = n - f) (hk : k = c - f) : (execOp a.eval o).run Tryd.prog w = .ok (.value (.slice (some ⟨ab, ao', none⟩) m k)) w := by
  have ht : Tryd.prog.underlying 23 = some (.slice (Tryd.prog.elem 23)) := by kernel_rfl
  have hs : (sizeOf (Tryd.prog.elem 23)).run Tryd.prog = fun w => .ok 1 w := by
    funext w
    have h : Tryd.prog.elem 23 = 5 := by kernel_rfl
    rw [h]
    go_simp
  unfold execOp
  simp only [ho, Option.map_some, Option.map_none, hx, hlo, Sem.run_bind, run_sliceAt_slice w _ _ _ _ _ ht, run_slice_l w _ (some ⟨ab, ao, none⟩) n c ht .i64 (f : Int) (by omega) (by omega), hs, Result.andThen_ok, Sem.run_pure]
  rw [hm, hk, ha]
  unfold sliced
  simp only [Int.toNat_natCast]
  split
  · rfl
  · simp [add_plain]
theorem RdN.part_from {w : World} {B ab ao c f ao' : Nat} {xs : List Nat} (h : RdN .u8 w B (some ⟨ab, ao, none⟩) xs) (hc : xs.length ≤ c) (ha : ao' = if c = f then ao else ao + f) : RdN .u8 w B (some ⟨ab, ao', none⟩) (xs.drop f) := by
  by_cases hcf : c = f
  · intro hn
    exact absurd (List.drop_eq_nil_of_le (by omega)) hn
  · rw [ha, if_neg hcf]
    exact RdN.drop h f
theorem wpList_known {P : Program} {w : World} {ops : Array Oper} {rest : List Oper} {o : Oper} {a : Act} {Q : Exit → Act → World → Prop} {v : Value} (hgd : o.guard = none) (hr : (execOp a.eval o).run P w = .ok (.value v) w)
    (h : wpList P ops Q rest (a.put o.dst v) w) : wpList P ops Q (o :: rest) a w :=
  wpList_plain hgd fun _ hK => by
    unfold Oper.wp
    rw [hr]
    exact hK _ _ h
set_option maxHeartbeats 16000000 in
set_option maxRecDepth 100000 in
theorem rparse_short (A : Option Addr) (n c : Nat) (xs : List Nat) (w : World) (hx : Wig.Bytes xs) (hr : RdN .u8 w w.heap.size A xs) (hn : n = xs.length) (hl : n ≤ c) (hc : c ≤ maxLen) (hsh : Wig.vshort xs = true) :
    Calls Tryd.prog 12 #[.slice A n c] w (ParseAt xs w) := by
  obtain ⟨wn, hwn⟩ : ∃ wn, wn = w.alloc (.cells #[.int .i64 0, .int .u64 0, .int .u64 0, .int .u64 0, .int .u64 0, .int .u64 0, .int .u64 0, .bool false, .slice none 0 0, .slice none 0 0] 26) := ⟨_, rfl⟩
  have BX := Lib.hid (show Box wn w.heap.size by rw [hwn]; exact box_new w _)
  have HB := Lib.hid (show Below w.heap.size w wn by rw [hwn]; exact (Below.refl _ _).alloc (Nat.le_refl _) _)
  have HR := Lib.hid ((hr.below HB.out).wide HB.out.size)
  have HX := Lib.hid (And.intro hx (And.intro hn (And.intro hl hc)))
  have C := Lib.hid (rget_any A n c xs wn hx HR.out hn hl hc)
  unfold GetsAt at C
  obtain ⟨e1, e2, e3⟩ := Wig.short_num hsh
  rw [e1, e2, e3] at C
  have R := Lib.hid (Wig.parse_short hsh)
  clear hx hr hn hl hc hsh e1 e2 e3
  go_enter Tryd.func12, Tryd.ntmps12
  go_wp2_with fail
  rw [← hwn]
  clear hwn
  refine (C.out).mono ?_
  rintro e w0 ⟨rfl, rfl⟩
  clear C
  obtain ⟨⟨k0, k1, k2, k3, k4, k5, k6, k7, k8, k9⟩, z0, z1, z2, z3, z4, z5, z6, z7, z8, z9⟩ := box_cells BX.out (Below.refl wn.heap.size wn)
  have HZ := Lib.hid (box_zero BX.out (Below.refl wn.heap.size wn))
  have ltb : w.heap.size < wn.heap.size := Nat.lt_of_lt_of_le BX.out.2.1 (Below.refl wn.heap.size wn).size
  go_wp2_with fail
  have hyz := HZ.out.1
  have hby := HB.out.trans HZ.out.2
  clear HZ
  show bodyPost _ _ _ _ _ ((wn.setCells w.heap.size 0 (farr Wig.Fr.zero none 0 none 0).toList))
  obtain ⟨wz, hwz⟩ : ∃ wz, wz = (wn.setCells w.heap.size 0 (farr Wig.Fr.zero none 0 none 0).toList) := ⟨_, rfl⟩
  rw [← hwz] at hyz hby ⊢
  clear hwz k0 k1 k2 k3 k4 k5 k6 k7 k8 k9 z0 z1 z2 z3 z4 z5 z6 z7 z8 z9
  obtain ⟨y0, y1, y2, y3, y4, y5, y6, y7, y8, y9⟩ := at_cells hyz
  exact bodyPost_ret (v := .tuple #[.agg (farr Wig.Fr.zero none 0 none 0), .int .i64 0, .int .i64 50]) (by simp [results, Tryd.results12, farr, Wig.Fr.zero, go_sem, y0, y1, y2, y3, y4, y5, y6, y7, y8, y9]) rfl (parseAt_none R.out hby)
set_option maxHeartbeats 16000000 in
set_option maxRecDepth 100000 in
theorem rparse_far (ab ao : Nat) (n c : Nat) (xs : List Nat) (w : World) (hx : Wig.Bytes xs) (hr : RdN .u8 w w.heap.size (some ⟨ab, ao, none⟩) xs) (hn : n = xs.length) (hl : n ≤ c) (hc : c ≤ maxLen) (hsh : Wig.vshort xs = false) (q1 : 30 < Wig.vnum xs) :
    Calls Tryd.prog 12 #[.slice (some ⟨ab, ao, none⟩) n c] w (ParseAt xs w) := by
  obtain ⟨wn, hwn⟩ : ∃ wn, wn = w.alloc (.cells #[.int .i64 0, .int .u64 0, .int .u64 0, .int .u64 0, .int .u64 0, .int .u64 0, .int .u64 0, .bool false, .slice none 0 0, .slice none 0 0] 26) := ⟨_, rfl⟩
  have BX := Lib.hid (show Box wn w.heap.size by rw [hwn]; exact box_new w _)
  have HB := Lib.hid (show Below w.heap.size w wn by rw [hwn]; exact (Below.refl _ _).alloc (Nat.le_refl _) _)
  have HR := Lib.hid ((hr.below HB.out).wide HB.out.size)
  have HX := Lib.hid (And.intro hx (And.intro hn (And.intro hl hc)))
  have C := Lib.hid (rget_any (some ⟨ab, ao, none⟩) n c xs wn hx HR.out hn hl hc)
  unfold GetsAt at C
  obtain ⟨hk62, hsn, e2, e3⟩ := Wig.drop_num hx 0 (Nat.zero_le _) hsh
  have hpk := Wig.parse_kind hsh
  rw [List.drop_zero] at hk62 hsn e2 e3
  rw [e2, e3] at C
  obtain ⟨kk, hkk⟩ : ∃ kk, kk = Wig.vnum xs := ⟨_, rfl⟩
  obtain ⟨s, hs⟩ : ∃ s, s = Wig.vneed xs := ⟨_, rfl⟩
  rw [← hkk] at C hpk hk62 q1
  rw [← hs] at C hpk hsn
  have HSL := Lib.hid (show s ≤ xs.length by omega)
  have g0 : IntKind.i64.wrap (kk : Int) = (kk : Int) := by rw [IntKind.wrap_i64]; omega
  have t1 : decide ((30 : Int) < (kk : Int)) = true := decide_eq_true (by omega)
  have t1' : decide (30 < kk) = true := decide_eq_true q1
  have R := Lib.hid (show Wig.rdFrame xs = none by rw [hpk, Wig.kind_far q1]; rfl)
  clear hx hr hn hl hc hsh hsn e2 e3 hkk hs q1 hpk hk62
  go_enter Tryd.func12, Tryd.ntmps12
  go_wp2_with fail
  rw [← hwn]
  clear hwn
  refine (C.out).mono ?_
  rintro e w0 ⟨rfl, rfl⟩
  clear C
  obtain ⟨⟨k0, k1, k2, k3, k4, k5, k6, k7, k8, k9⟩, z0, z1, z2, z3, z4, z5, z6, z7, z8, z9⟩ := box_cells BX.out (Below.refl wn.heap.size wn)
  have HZ := Lib.hid (box_zero BX.out (Below.refl wn.heap.size wn))
  have ltb : w.heap.size < wn.heap.size := Nat.lt_of_lt_of_le BX.out.2.1 (Below.refl wn.heap.size wn).size
  go_wp2_with fail
  have hyz := HZ.out.1
  have hby := HB.out.trans HZ.out.2
  clear HZ
  show bodyPost _ _ _ _ _ ((wn.setCells w.heap.size 0 (farr Wig.Fr.zero none 0 none 0).toList))
  obtain ⟨wz, hwz⟩ : ∃ wz, wz = (wn.setCells w.heap.size 0 (farr Wig.Fr.zero none 0 none 0).toList) := ⟨_, rfl⟩
  rw [← hwz] at hyz hby ⊢
  clear hwz k0 k1 k2 k3 k4 k5 k6 k7 k8 k9 z0 z1 z2 z3 z4 z5 z6 z7 z8 z9
  obtain ⟨y0, y1, y2, y3, y4, y5, y6, y7, y8, y9⟩ := at_cells hyz
  exact bodyPost_ret (v := .tuple #[.agg (farr Wig.Fr.zero none 0 none 0), .int .i64 0, .int .i64 50]) (by simp [results, Tryd.results12, farr, Wig.Fr.zero, go_sem, y0, y1, y2, y3, y4, y5, y6, y7, y8, y9]) rfl (parseAt_none R.out hby)
set_option maxHeartbeats 16000000 in
set_option maxRecDepth 100000 in
theorem rparse_none (ab ao : Nat) (n c : Nat) (xs : List Nat) (w : World) (hx : Wig.Bytes xs) (hr : RdN .u8 w w.heap.size (some ⟨ab, ao, none⟩) xs) (hn : n = xs.length) (hl : n ≤ c) (hc : c ≤ maxLen) (hsh : Wig.vshort xs = false) (q1 : ¬ 30 < Wig.vnum xs) (k15 : Wig.vnum xs ≠ 15) (hfl : Wig.flds (Wig.vnum xs) = none) :
    Calls Tryd.prog 12 #[.slice (some ⟨ab, ao, none⟩) n c] w (ParseAt xs w) := by
  obtain ⟨wn, hwn⟩ : ∃ wn, wn = w.alloc (.cells #[.int .i64 0, .int .u64 0, .int .u64 0, .int .u64 0, .int .u64 0, .int .u64 0, .int .u64 0, .bool false, .slice none 0 0, .slice none 0 0] 26) := ⟨_, rfl⟩
  have BX := Lib.hid (show Box wn w.heap.size by rw [hwn]; exact box_new w _)
  have HB := Lib.hid (show Below w.heap.size w wn by rw [hwn]; exact (Below.refl _ _).alloc (Nat.le_refl _) _)
  have HR := Lib.hid ((hr.below HB.out).wide HB.out.size)
  have HX := Lib.hid (And.intro hx (And.intro hn (And.intro hl hc)))
  have C := Lib.hid (rget_any (some ⟨ab, ao, none⟩) n c xs wn hx HR.out hn hl hc)
  unfold GetsAt at C
  obtain ⟨hk62, hsn, e2, e3⟩ := Wig.drop_num hx 0 (Nat.zero_le _) hsh
  have hpk := Wig.parse_kind hsh
  rw [List.drop_zero] at hk62 hsn e2 e3
  rw [e2, e3] at C
  obtain ⟨kk, hkk⟩ : ∃ kk, kk = Wig.vnum xs := ⟨_, rfl⟩
  obtain ⟨s, hs⟩ : ∃ s, s = Wig.vneed xs := ⟨_, rfl⟩
  rw [← hkk] at C hpk hk62 q1 k15 hfl
  rw [← hs] at C hpk hsn
  have HSL := Lib.hid (show s ≤ xs.length by omega)
  have g0 : IntKind.i64.wrap (kk : Int) = (kk : Int) := by rw [IntKind.wrap_i64]; omega
  have t1 : decide ((30 : Int) < (kk : Int)) = false := decide_eq_false (by omega)
  have t1' : decide (30 < kk) = false := decide_eq_false q1
  have t2 : ((kk : Int) == 15) = false := by simp; omega
  have hb : Wig.kbase kk = kk := by unfold Wig.kbase; rw [if_neg k15]
  have hkn : Wig.knat (kk : Int) = kk := by unfold Wig.knat; omega
  have R := Lib.hid (show Wig.rdFrame xs = none by rw [hpk, Wig.kind_none kk (by rw [hb, hfl]; rfl)]; rfl)
  have CF0 := rfields_none (kk : Int) wn (by rw [hkn]; exact hfl)
  rw [show six [] = #[.bool false, .bool false, .bool false, .bool false, .bool false, .bool false] from rfl] at CF0
  have CF := Lib.hid CF0
  clear hx hr hn hl hc hsh hsn e2 e3 hkk hs CF0 hfl hb hkn hpk q1 hk62 k15
  go_enter Tryd.func12, Tryd.ntmps12
  go_wp2_with fail
  rw [← hwn]
  clear hwn
  refine (C.out).mono ?_
  rintro e w0 ⟨rfl, rfl⟩
  clear C
  go_wp2_with fail
  refine (CF.out).mono ?_
  rintro e w1 ⟨rfl, hb1⟩
  have B0 := Lib.hid hb1
  clear hb1 CF
  obtain ⟨⟨k0, k1, k2, k3, k4, k5, k6, k7, k8, k9⟩, z0, z1, z2, z3, z4, z5, z6, z7, z8, z9⟩ := box_cells BX.out (B0.out)
  have HZ := Lib.hid (box_zero BX.out (B0.out))
  have ltb : w.heap.size < w1.heap.size := Nat.lt_of_lt_of_le BX.out.2.1 (B0.out).size
  go_wp2_with fail
  have hyz := HZ.out.1
  have hby := HB.out.trans HZ.out.2
  replace hyz := hyz.below ((Below.refl _ _).alloc (Nat.le_refl _) (.cells #[.bool false, .bool false, .bool false, .bool false, .bool false, .bool false] 57))
  replace hby := hby.trans ((Below.refl _ _).alloc (by have := HZ.out.2.size; have := HB.out.size; omega) (.cells #[.bool false, .bool false, .bool false, .bool false, .bool false, .bool false] 57))
  clear HZ
  show bodyPost _ _ _ _ _ ((w1.setCells w.heap.size 0 (farr Wig.Fr.zero none 0 none 0).toList).alloc (.cells #[.bool false, .bool false, .bool false, .bool false, .bool false, .bool false] 57))
  obtain ⟨wz, hwz⟩ : ∃ wz, wz = (w1.setCells w.heap.size 0 (farr Wig.Fr.zero none 0 none 0).toList).alloc (.cells #[.bool false, .bool false, .bool false, .bool false, .bool false, .bool false] 57) := ⟨_, rfl⟩
  rw [← hwz] at hyz hby ⊢
  clear hwz k0 k1 k2 k3 k4 k5 k6 k7 k8 k9 z0 z1 z2 z3 z4 z5 z6 z7 z8 z9
  obtain ⟨y0, y1, y2, y3, y4, y5, y6, y7, y8, y9⟩ := at_cells hyz
  exact bodyPost_ret (v := .tuple #[.agg (farr Wig.Fr.zero none 0 none 0), .int .i64 0, .int .i64 50]) (by simp [results, Tryd.results12, farr, Wig.Fr.zero, go_sem, y0, y1, y2, y3, y4, y5, y6, y7, y8, y9]) rfl (parseAt_none R.out hby)
end Go.Proofs.YtogioabdijgglaaDoor
end

section
namespace Go.Proofs.YtogioabdijgglaaDoor
open Go.ChangeShapes Go.WideShapes Go.ChangeAt Go.RowKit Go.Deep
set_option linter.unusedVariables false
set_option maxHeartbeats 16000000 in
set_option maxRecDepth 100000 in
theorem rparse_15 (ab ao : Nat) (n c : Nat) (xs : List Nat) (w : World) (hx : Wig.Bytes xs) (hr : RdN .u8 w w.heap.size (some ⟨ab, ao, none⟩) xs) (hn : n = xs.length) (hl : n ≤ c) (hc : c ≤ maxLen) (hsh : Wig.vshort xs = false) (k15 : Wig.vnum xs = 15) :
    Calls Tryd.prog 12 #[.slice (some ⟨ab, ao, none⟩) n c] w (ParseAt xs w) := by
  obtain ⟨wn, hwn⟩ : ∃ wn, wn = w.alloc (.cells #[.int .i64 0, .int .u64 0, .int .u64 0, .int .u64 0, .int .u64 0, .int .u64 0, .int .u64 0, .bool false, .slice none 0 0, .slice none 0 0] 26) := ⟨_, rfl⟩
  have BX := Lib.hid (show Box wn w.heap.size by rw [hwn]; exact box_new w _)
  have HB := Lib.hid (show Below w.heap.size w wn by rw [hwn]; exact (Below.refl _ _).alloc (Nat.le_refl _) _)
  have HR := Lib.hid ((hr.below HB.out).wide HB.out.size)
  have HX := Lib.hid (And.intro hx (And.intro hn (And.intro hl hc)))
  have C := Lib.hid (rget_any (some ⟨ab, ao, none⟩) n c xs wn hx HR.out hn hl hc)
  unfold GetsAt at C
  obtain ⟨hk62, hsn, e2, e3⟩ := Wig.drop_num hx 0 (Nat.zero_le _) hsh
  have hpk := Wig.parse_kind hsh
  rw [List.drop_zero] at hk62 hsn e2 e3
  rw [e2, e3] at C
  obtain ⟨kk, hkk⟩ : ∃ kk, kk = Wig.vnum xs := ⟨_, rfl⟩
  obtain ⟨s, hs⟩ : ∃ s, s = Wig.vneed xs := ⟨_, rfl⟩
  rw [← hkk] at C hpk hk62 k15
  rw [← hs] at C hpk hsn
  have HSL := Lib.hid (show s ≤ xs.length by omega)
  have g0 : IntKind.i64.wrap (kk : Int) = (kk : Int) := by rw [IntKind.wrap_i64]; omega
  obtain ⟨ao', hao'⟩ : ∃ ao', ao' = if c = s then ao else ao + s := ⟨_, rfl⟩
  obtain ⟨m', hm'⟩ : ∃ m', m' = n - s := ⟨_, rfl⟩
  obtain ⟨c', hc'⟩ : ∃ c', c' = c - s := ⟨_, rfl⟩
  have PO := Lib.hid (And.intro hao' (And.intro hm' hc'))
  clear hao' hm' hc'
  subst k15
  have t1 : decide ((30 : Int) < ((15 : Nat) : Int)) = false := by decide
  obtain ⟨has, hhas⟩ : ∃ has, has = [0, 1, 7] := ⟨_, rfl⟩
  have HF := Lib.hid (show Wig.flds 14 = some has by rw [hhas]; rfl)
  have KD := Lib.hid (show Wig.rdFrame xs = (match Wig.dbehind 14 true (xs.drop s) with | none => none | some (f, r2) => if Wig.fine f then some (f, r2) else none) by rw [hpk]; exact Wig.kind_of (k := 15) rfl _)
  have KK := Lib.hid (show (14 : Nat) ≤ 30 by omega)
  clear hhas hpk hk62 hx hr hn hl hc hsh hsn e2 e3 hkk hs
  have CF0 := rfields_some 14 has wn HF.out
  unfold six at CF0
  generalize has.contains 0 = h0 at CF0
  generalize has.contains 1 = h1 at CF0
  generalize has.contains 2 = h2 at CF0
  generalize has.contains 3 = h3 at CF0
  generalize has.contains 4 = h4 at CF0
  generalize has.contains 5 = h5 at CF0
  have CF := Lib.hid CF0
  clear CF0
  go_enter Tryd.func12, Tryd.ntmps12
  go_wp2_with fail
  rw [← hwn]
  clear hwn
  refine (C.out).mono ?_
  rintro e w0 ⟨rfl, rfl⟩
  clear C
  go_wp2_with fail
  refine (CF.out).mono ?_
  rintro e w1 ⟨rfl, hb1⟩
  have B0 := Lib.hid hb1
  clear hb1 CF
  obtain ⟨wf, hwf⟩ : ∃ wf, wf = w1.alloc (.cells #[.bool h0, .bool h1, .bool h2, .bool h3, .bool h4, .bool h5] 57) := ⟨_, rfl⟩
  have B1 := Lib.hid (show Below wn.heap.size wn wf by rw [hwf]; exact B0.out.alloc B0.out.size _)
  have CB := Lib.hid (show Calls Tryd.prog 32 #[.int .i64 14, .bool true, .slice (some ⟨ab, ao', none⟩) m' c'] wf (FrameAt (Wig.dbehind 14 true) (xs.drop s) wf) from
    rbehind_any 14 has HF.out true ab ao' m' c' (xs.drop s) wf (HX.out.1.drop s) ((RdN.part_from (HR.out.below B1.out) (by have := HX.out; omega) PO.out.1).wide B1.out.size) (by rw [List.length_drop, ← HX.out.2.1]; exact PO.out.2.1) (by have := HX.out; have := PO.out; omega) (by have := HX.out; have := PO.out; omega))
  go_wp2_with (refine wpList_known rfl (run_slb rfl rfl rfl (by have := HX.out; have := HSL.out; omega) ao' m' c' PO.out.1 PO.out.2.1 PO.out.2.2) ?_)
  rw [← hwf]
  clear hwf
  refine (CB.out).mono ?_
  rintro e w2 hfa
  clear CB
  rcases hfa with ⟨h1, rfl, hb2⟩ | ⟨f, D, dc, S, sc, q, h1, h2, rfl, hl2, hb2, hD, hS⟩
  · have B2 := Lib.hid (B1.out.trans (hb2.mono B1.out.size))
    have R := Lib.hid (show Wig.rdFrame xs = none by rw [KD.out, h1])
    clear h1 hb2
    simp only [farr, Wig.Fr.zero]
    obtain ⟨⟨k0, k1, k2, k3, k4, k5, k6, k7, k8, k9⟩, z0, z1, z2, z3, z4, z5, z6, z7, z8, z9⟩ := box_cells BX.out (B2.out)
    have HZ := Lib.hid (box_zero BX.out (B2.out))
    have ltb : w.heap.size < w2.heap.size := Nat.lt_of_lt_of_le BX.out.2.1 (B2.out).size
    go_wp2_with fail
    have hyz := HZ.out.1
    have hby := HB.out.trans HZ.out.2
    replace hyz := hyz.below ((Below.refl _ _).alloc (Nat.le_refl _) (.cells (farr Wig.Fr.zero none 0 none 0) 26))
    replace hby := hby.trans ((Below.refl _ _).alloc (by have := HZ.out.2.size; have := HB.out.size; omega) (.cells (farr Wig.Fr.zero none 0 none 0) 26))
    clear HZ
    show bodyPost _ _ _ _ _ ((w2.setCells w.heap.size 0 (farr Wig.Fr.zero none 0 none 0).toList).alloc (.cells (farr Wig.Fr.zero none 0 none 0) 26))
    obtain ⟨wz, hwz⟩ : ∃ wz, wz = (w2.setCells w.heap.size 0 (farr Wig.Fr.zero none 0 none 0).toList).alloc (.cells (farr Wig.Fr.zero none 0 none 0) 26) := ⟨_, rfl⟩
    rw [← hwz] at hyz hby ⊢
    clear hwz k0 k1 k2 k3 k4 k5 k6 k7 k8 k9 z0 z1 z2 z3 z4 z5 z6 z7 z8 z9
    obtain ⟨y0, y1, y2, y3, y4, y5, y6, y7, y8, y9⟩ := at_cells hyz
    exact bodyPost_ret (v := .tuple #[.agg (farr Wig.Fr.zero none 0 none 0), .int .i64 0, .int .i64 50]) (by simp [results, Tryd.results12, farr, Wig.Fr.zero, go_sem, y0, y1, y2, y3, y4, y5, y6, y7, y8, y9]) rfl (parseAt_none R.out hby)
  · have B2 := Lib.hid (B1.out.trans (hb2.mono B1.out.size))
    have h1' := h1
    have hok := Wig.dbehind_ok _ _ KK.out (HX.out.1.drop s) h1
    obtain ⟨wb, hwb⟩ : ∃ wb, wb = w2.alloc (.cells (farr f D dc S sc) 26) := ⟨_, rfl⟩
    have hbw : Below w2.heap.size w2 wb := by rw [hwb]; exact (Below.refl _ _).alloc (Nat.le_refl _) _
    have AB := Lib.hid (show At wb w2.heap.size 0 f D dc S sc by rw [hwb]; exact at_box w2 f D dc S sc _)
    have LB := Lib.hid (show w2.heap.size < wb.heap.size by rw [hwb]; simp)
    have LS := Lib.hid (hl2.step hbw)
    have CK := Lib.hid (rcheck_any (.agg (farr f D dc S sc)) f wb ⟨D, dc, S, sc, rfl, LS.out⟩ hok)
    have BB := Lib.hid (B2.out.trans (hbw.mono B2.out.size))
    have HD := Lib.hid (show ∀ b o x, D = some ⟨b, o, x⟩ → w.heap.size < b from fun b o x e => by have := hD b o x e; have := BX.out.2.1; have := B1.out.size; omega)
    have HS := Lib.hid (show ∀ b o x, S = some ⟨b, o, x⟩ → w.heap.size < b from fun b o x e => by have := hS b o x e; have := BX.out.2.1; have := B1.out.size; omega)
    have HQ := Lib.hid (And.intro h1 h2)
    clear h1 h1' h2 hl2 hb2 hD hS hok hbw
    simp only [farr] at hwb CK ⊢
    go_wp2_with fail
    rw [← hwb]
    clear hwb
    refine (CK.out).mono ?_
    rintro e w3 ⟨rfl, hb3⟩
    have B3 := Lib.hid (BB.out.trans (hb3.mono BB.out.size))
    have A3 := Lib.hid (AB.out.below hb3)
    have L3 := Lib.hid (LS.out.step hb3)
    clear hb3 CK
    cases hfi : Wig.fine f with
    | false =>
      rw [ferr_no hfi]
      have R := Lib.hid (show Wig.rdFrame xs = none by rw [KD.out, HQ.out.1]; simp [hfi])
      clear hfi
      obtain ⟨⟨k0, k1, k2, k3, k4, k5, k6, k7, k8, k9⟩, z0, z1, z2, z3, z4, z5, z6, z7, z8, z9⟩ := box_cells BX.out (B3.out)
      have HZ := Lib.hid (box_zero BX.out (B3.out))
      have ltb : w.heap.size < w3.heap.size := Nat.lt_of_lt_of_le BX.out.2.1 (B3.out).size
      go_wp2_with fail
      have hyz := HZ.out.1
      have hby := HB.out.trans HZ.out.2
      clear HZ
      show bodyPost _ _ _ _ _ ((w3.setCells w.heap.size 0 (farr Wig.Fr.zero none 0 none 0).toList))
      obtain ⟨wz, hwz⟩ : ∃ wz, wz = (w3.setCells w.heap.size 0 (farr Wig.Fr.zero none 0 none 0).toList) := ⟨_, rfl⟩
      rw [← hwz] at hyz hby ⊢
      clear hwz k0 k1 k2 k3 k4 k5 k6 k7 k8 k9 z0 z1 z2 z3 z4 z5 z6 z7 z8 z9
      obtain ⟨y0, y1, y2, y3, y4, y5, y6, y7, y8, y9⟩ := at_cells hyz
      exact bodyPost_ret (v := .tuple #[.agg (farr Wig.Fr.zero none 0 none 0), .int .i64 0, .int .i64 50]) (by simp [results, Tryd.results12, farr, Wig.Fr.zero, go_sem, y0, y1, y2, y3, y4, y5, y6, y7, y8, y9]) rfl (parseAt_none R.out hby)
    | true =>
      rw [ferr_ok hfi]
      have hql := HQ.out.2
      rw [List.length_drop] at hql
      obtain ⟨r, hr⟩ : ∃ r, r = s + q := ⟨_, rfl⟩
      have RES := Lib.hid (show Wig.rdFrame xs = some (f, xs.drop r) ∧ r ≤ xs.length from ⟨by rw [KD.out, HQ.out.1]; simp [hfi, List.drop_drop, hr], by have := HSL.out; omega⟩)
      have g9 : IntKind.i64.wrap ((s : Int) + (q : Int)) = (r : Int) := by rw [IntKind.wrap_i64]; have h1 := HX.out; unfold maxLen at h1; have := HSL.out; omega
      have HL := Lib.hid (box_lies L3.out HD.out HS.out)
      clear hfi hql hr
      obtain ⟨e0, e1, e2, e3, e4, e5, e6, e7, e8, e9⟩ := at_cells A3.out
      obtain ⟨⟨k0, k1, k2, k3, k4, k5, k6, k7, k8, k9⟩, z0, z1, z2, z3, z4, z5, z6, z7, z8, z9⟩ := box_cells BX.out B3.out
      have HZ := Lib.hid (box_put BX.out B3.out f D dc S sc)
      go_wp2_with fail
      have hyz := HZ.out.1
      have hby := HB.out.trans HZ.out.2
      have hly := HL.out
      clear HZ HL
      show bodyPost _ _ _ _ _ (w3.setCells w.heap.size 0 (farr f D dc S sc).toList)
      obtain ⟨wz, hwz⟩ : ∃ wz, wz = w3.setCells w.heap.size 0 (farr f D dc S sc).toList := ⟨_, rfl⟩
      rw [← hwz] at hyz hby hly ⊢
      clear hwz k0 k1 k2 k3 k4 k5 k6 k7 k8 k9 z0 z1 z2 z3 z4 z5 z6 z7 z8 z9 e0 e1 e2 e3 e4 e5 e6 e7 e8 e9
      obtain ⟨y0, y1, y2, y3, y4, y5, y6, y7, y8, y9⟩ := at_cells hyz
      exact bodyPost_ret (v := .tuple #[.agg (farr f D dc S sc), .int .i64 ((r : Nat) : Int), .int .i64 0]) (by simp [results, Tryd.results12, farr, go_sem, y0, y1, y2, y3, y4, y5, y6, y7, y8, y9]) rfl (parseAt_some RES.out.1 RES.out.2 hly hby (fun b o s e => Nat.le_of_lt (HD.out b o s e)) (fun b o s e => Nat.le_of_lt (HS.out b o s e)))
end Go.Proofs.YtogioabdijgglaaDoor
end

section
namespace Go.Proofs.YtogioabdijgglaaDoor
open Go.ChangeShapes Go.WideShapes Go.ChangeAt Go.RowKit Go.Deep
set_option linter.unusedVariables false
set_option maxHeartbeats 16000000 in
set_option maxRecDepth 100000 in
theorem rparse_kind (ab ao : Nat) (n c : Nat) (xs : List Nat) (w : World) (hx : Wig.Bytes xs) (hr : RdN .u8 w w.heap.size (some ⟨ab, ao, none⟩) xs) (hn : n = xs.length) (hl : n ≤ c) (hc : c ≤ maxLen) (has : List Nat) (hsh : Wig.vshort xs = false) (q1 : ¬ 30 < Wig.vnum xs) (k15 : Wig.vnum xs ≠ 15) (hfl : Wig.flds (Wig.vnum xs) = some has) :
    Calls Tryd.prog 12 #[.slice (some ⟨ab, ao, none⟩) n c] w (ParseAt xs w) := by
  obtain ⟨wn, hwn⟩ : ∃ wn, wn = w.alloc (.cells #[.int .i64 0, .int .u64 0, .int .u64 0, .int .u64 0, .int .u64 0, .int .u64 0, .int .u64 0, .bool false, .slice none 0 0, .slice none 0 0] 26) := ⟨_, rfl⟩
  have BX := Lib.hid (show Box wn w.heap.size by rw [hwn]; exact box_new w _)
  have HB := Lib.hid (show Below w.heap.size w wn by rw [hwn]; exact (Below.refl _ _).alloc (Nat.le_refl _) _)
  have HR := Lib.hid ((hr.below HB.out).wide HB.out.size)
  have HX := Lib.hid (And.intro hx (And.intro hn (And.intro hl hc)))
  have C := Lib.hid (rget_any (some ⟨ab, ao, none⟩) n c xs wn hx HR.out hn hl hc)
  unfold GetsAt at C
  obtain ⟨hk62, hsn, e2, e3⟩ := Wig.drop_num hx 0 (Nat.zero_le _) hsh
  have hpk := Wig.parse_kind hsh
  rw [List.drop_zero] at hk62 hsn e2 e3
  rw [e2, e3] at C
  obtain ⟨kk, hkk⟩ : ∃ kk, kk = Wig.vnum xs := ⟨_, rfl⟩
  obtain ⟨s, hs⟩ : ∃ s, s = Wig.vneed xs := ⟨_, rfl⟩
  rw [← hkk] at C hpk hk62 q1 k15 hfl
  rw [← hs] at C hpk hsn
  have HSL := Lib.hid (show s ≤ xs.length by omega)
  have g0 : IntKind.i64.wrap (kk : Int) = (kk : Int) := by rw [IntKind.wrap_i64]; omega
  obtain ⟨ao', hao'⟩ : ∃ ao', ao' = if c = s then ao else ao + s := ⟨_, rfl⟩
  obtain ⟨m', hm'⟩ : ∃ m', m' = n - s := ⟨_, rfl⟩
  obtain ⟨c', hc'⟩ : ∃ c', c' = c - s := ⟨_, rfl⟩
  have PO := Lib.hid (And.intro hao' (And.intro hm' hc'))
  clear hao' hm' hc'
  have t1 : decide ((30 : Int) < (kk : Int)) = false := decide_eq_false (by omega)
  have t1' : decide (30 < kk) = false := decide_eq_false q1
  have t2 : ((kk : Int) == 15) = false := by simp; omega
  have hb : Wig.kbase kk = kk := by unfold Wig.kbase; rw [if_neg k15]
  have hkn : Wig.knat (kk : Int) = kk := by unfold Wig.knat; omega
  have HF := Lib.hid hfl
  have KD := Lib.hid (show Wig.rdFrame xs = (match Wig.dbehind kk false (xs.drop s) with | none => none | some (f, r2) => if Wig.fine f then some (f, r2) else none) by
    rw [hpk, Wig.kind_of (k := kk) (by rw [hb, hfl]; rfl), hb, decide_eq_false k15]; rfl)
  have KK := Lib.hid (show kk ≤ 30 by omega)
  clear hfl hb hkn hpk q1 hk62 k15 hx hr hn hl hc hsh hsn e2 e3 hkk hs
  have CF0 := rfields_some kk has wn HF.out
  unfold six at CF0
  generalize has.contains 0 = h0 at CF0
  generalize has.contains 1 = h1 at CF0
  generalize has.contains 2 = h2 at CF0
  generalize has.contains 3 = h3 at CF0
  generalize has.contains 4 = h4 at CF0
  generalize has.contains 5 = h5 at CF0
  have CF := Lib.hid CF0
  clear CF0
  go_enter Tryd.func12, Tryd.ntmps12
  go_wp2_with fail
  rw [← hwn]
  clear hwn
  refine (C.out).mono ?_
  rintro e w0 ⟨rfl, rfl⟩
  clear C
  go_wp2_with fail
  refine (CF.out).mono ?_
  rintro e w1 ⟨rfl, hb1⟩
  have B0 := Lib.hid hb1
  clear hb1 CF
  obtain ⟨wf, hwf⟩ : ∃ wf, wf = w1.alloc (.cells #[.bool h0, .bool h1, .bool h2, .bool h3, .bool h4, .bool h5] 57) := ⟨_, rfl⟩
  have B1 := Lib.hid (show Below wn.heap.size wn wf by rw [hwf]; exact B0.out.alloc B0.out.size _)
  have CB := Lib.hid (show Calls Tryd.prog 32 #[.int .i64 (kk : Int), .bool false, .slice (some ⟨ab, ao', none⟩) m' c'] wf (FrameAt (Wig.dbehind kk false) (xs.drop s) wf) from
    rbehind_any kk has HF.out false ab ao' m' c' (xs.drop s) wf (HX.out.1.drop s) ((RdN.part_from (HR.out.below B1.out) (by have := HX.out; omega) PO.out.1).wide B1.out.size) (by rw [List.length_drop, ← HX.out.2.1]; exact PO.out.2.1) (by have := HX.out; have := PO.out; omega) (by have := HX.out; have := PO.out; omega))
  go_wp2_with (refine wpList_known rfl (run_slb rfl rfl rfl (by have := HX.out; have := HSL.out; omega) ao' m' c' PO.out.1 PO.out.2.1 PO.out.2.2) ?_)
  rw [← hwf]
  clear hwf
  refine (CB.out).mono ?_
  rintro e w2 hfa
  clear CB
  rcases hfa with ⟨h1, rfl, hb2⟩ | ⟨f, D, dc, S, sc, q, h1, h2, rfl, hl2, hb2, hD, hS⟩
  · have B2 := Lib.hid (B1.out.trans (hb2.mono B1.out.size))
    have R := Lib.hid (show Wig.rdFrame xs = none by rw [KD.out, h1])
    clear h1 hb2
    simp only [farr, Wig.Fr.zero]
    obtain ⟨⟨k0, k1, k2, k3, k4, k5, k6, k7, k8, k9⟩, z0, z1, z2, z3, z4, z5, z6, z7, z8, z9⟩ := box_cells BX.out (B2.out)
    have HZ := Lib.hid (box_zero BX.out (B2.out))
    have ltb : w.heap.size < w2.heap.size := Nat.lt_of_lt_of_le BX.out.2.1 (B2.out).size
    go_wp2_with fail
    have hyz := HZ.out.1
    have hby := HB.out.trans HZ.out.2
    replace hyz := hyz.below ((Below.refl _ _).alloc (Nat.le_refl _) (.cells (farr Wig.Fr.zero none 0 none 0) 26))
    replace hby := hby.trans ((Below.refl _ _).alloc (by have := HZ.out.2.size; have := HB.out.size; omega) (.cells (farr Wig.Fr.zero none 0 none 0) 26))
    clear HZ
    show bodyPost _ _ _ _ _ ((w2.setCells w.heap.size 0 (farr Wig.Fr.zero none 0 none 0).toList).alloc (.cells (farr Wig.Fr.zero none 0 none 0) 26))
    obtain ⟨wz, hwz⟩ : ∃ wz, wz = (w2.setCells w.heap.size 0 (farr Wig.Fr.zero none 0 none 0).toList).alloc (.cells (farr Wig.Fr.zero none 0 none 0) 26) := ⟨_, rfl⟩
    rw [← hwz] at hyz hby ⊢
    clear hwz k0 k1 k2 k3 k4 k5 k6 k7 k8 k9 z0 z1 z2 z3 z4 z5 z6 z7 z8 z9
    obtain ⟨y0, y1, y2, y3, y4, y5, y6, y7, y8, y9⟩ := at_cells hyz
    exact bodyPost_ret (v := .tuple #[.agg (farr Wig.Fr.zero none 0 none 0), .int .i64 0, .int .i64 50]) (by simp [results, Tryd.results12, farr, Wig.Fr.zero, go_sem, y0, y1, y2, y3, y4, y5, y6, y7, y8, y9]) rfl (parseAt_none R.out hby)
  · have B2 := Lib.hid (B1.out.trans (hb2.mono B1.out.size))
    have h1' := h1
    have hok := Wig.dbehind_ok _ _ KK.out (HX.out.1.drop s) h1
    obtain ⟨wb, hwb⟩ : ∃ wb, wb = w2.alloc (.cells (farr f D dc S sc) 26) := ⟨_, rfl⟩
    have hbw : Below w2.heap.size w2 wb := by rw [hwb]; exact (Below.refl _ _).alloc (Nat.le_refl _) _
    have AB := Lib.hid (show At wb w2.heap.size 0 f D dc S sc by rw [hwb]; exact at_box w2 f D dc S sc _)
    have LB := Lib.hid (show w2.heap.size < wb.heap.size by rw [hwb]; simp)
    have LS := Lib.hid (hl2.step hbw)
    have CK := Lib.hid (rcheck_any (.agg (farr f D dc S sc)) f wb ⟨D, dc, S, sc, rfl, LS.out⟩ hok)
    have BB := Lib.hid (B2.out.trans (hbw.mono B2.out.size))
    have HD := Lib.hid (show ∀ b o x, D = some ⟨b, o, x⟩ → w.heap.size < b from fun b o x e => by have := hD b o x e; have := BX.out.2.1; have := B1.out.size; omega)
    have HS := Lib.hid (show ∀ b o x, S = some ⟨b, o, x⟩ → w.heap.size < b from fun b o x e => by have := hS b o x e; have := BX.out.2.1; have := B1.out.size; omega)
    have HQ := Lib.hid (And.intro h1 h2)
    clear h1 h1' h2 hl2 hb2 hD hS hok hbw
    simp only [farr] at hwb CK ⊢
    go_wp2_with fail
    rw [← hwb]
    clear hwb
    refine (CK.out).mono ?_
    rintro e w3 ⟨rfl, hb3⟩
    have B3 := Lib.hid (BB.out.trans (hb3.mono BB.out.size))
    have A3 := Lib.hid (AB.out.below hb3)
    have L3 := Lib.hid (LS.out.step hb3)
    clear hb3 CK
    cases hfi : Wig.fine f with
    | false =>
      rw [ferr_no hfi]
      have R := Lib.hid (show Wig.rdFrame xs = none by rw [KD.out, HQ.out.1]; simp [hfi])
      clear hfi
      obtain ⟨⟨k0, k1, k2, k3, k4, k5, k6, k7, k8, k9⟩, z0, z1, z2, z3, z4, z5, z6, z7, z8, z9⟩ := box_cells BX.out (B3.out)
      have HZ := Lib.hid (box_zero BX.out (B3.out))
      have ltb : w.heap.size < w3.heap.size := Nat.lt_of_lt_of_le BX.out.2.1 (B3.out).size
      go_wp2_with fail
      have hyz := HZ.out.1
      have hby := HB.out.trans HZ.out.2
      clear HZ
      show bodyPost _ _ _ _ _ ((w3.setCells w.heap.size 0 (farr Wig.Fr.zero none 0 none 0).toList))
      obtain ⟨wz, hwz⟩ : ∃ wz, wz = (w3.setCells w.heap.size 0 (farr Wig.Fr.zero none 0 none 0).toList) := ⟨_, rfl⟩
      rw [← hwz] at hyz hby ⊢
      clear hwz k0 k1 k2 k3 k4 k5 k6 k7 k8 k9 z0 z1 z2 z3 z4 z5 z6 z7 z8 z9
      obtain ⟨y0, y1, y2, y3, y4, y5, y6, y7, y8, y9⟩ := at_cells hyz
      exact bodyPost_ret (v := .tuple #[.agg (farr Wig.Fr.zero none 0 none 0), .int .i64 0, .int .i64 50]) (by simp [results, Tryd.results12, farr, Wig.Fr.zero, go_sem, y0, y1, y2, y3, y4, y5, y6, y7, y8, y9]) rfl (parseAt_none R.out hby)
    | true =>
      rw [ferr_ok hfi]
      have hql := HQ.out.2
      rw [List.length_drop] at hql
      obtain ⟨r, hr⟩ : ∃ r, r = s + q := ⟨_, rfl⟩
      have RES := Lib.hid (show Wig.rdFrame xs = some (f, xs.drop r) ∧ r ≤ xs.length from ⟨by rw [KD.out, HQ.out.1]; simp [hfi, List.drop_drop, hr], by have := HSL.out; omega⟩)
      have g9 : IntKind.i64.wrap ((s : Int) + (q : Int)) = (r : Int) := by rw [IntKind.wrap_i64]; have h1 := HX.out; unfold maxLen at h1; have := HSL.out; omega
      have HL := Lib.hid (box_lies L3.out HD.out HS.out)
      clear hfi hql hr
      obtain ⟨e0, e1, e2, e3, e4, e5, e6, e7, e8, e9⟩ := at_cells A3.out
      obtain ⟨⟨k0, k1, k2, k3, k4, k5, k6, k7, k8, k9⟩, z0, z1, z2, z3, z4, z5, z6, z7, z8, z9⟩ := box_cells BX.out B3.out
      have HZ := Lib.hid (box_put BX.out B3.out f D dc S sc)
      go_wp2_with fail
      have hyz := HZ.out.1
      have hby := HB.out.trans HZ.out.2
      have hly := HL.out
      clear HZ HL
      show bodyPost _ _ _ _ _ (w3.setCells w.heap.size 0 (farr f D dc S sc).toList)
      obtain ⟨wz, hwz⟩ : ∃ wz, wz = w3.setCells w.heap.size 0 (farr f D dc S sc).toList := ⟨_, rfl⟩
      rw [← hwz] at hyz hby hly ⊢
      clear hwz k0 k1 k2 k3 k4 k5 k6 k7 k8 k9 z0 z1 z2 z3 z4 z5 z6 z7 z8 z9 e0 e1 e2 e3 e4 e5 e6 e7 e8 e9
      obtain ⟨y0, y1, y2, y3, y4, y5, y6, y7, y8, y9⟩ := at_cells hyz
      exact bodyPost_ret (v := .tuple #[.agg (farr f D dc S sc), .int .i64 ((r : Nat) : Int), .int .i64 0]) (by simp [results, Tryd.results12, farr, go_sem, y0, y1, y2, y3, y4, y5, y6, y7, y8, y9]) rfl (parseAt_some RES.out.1 RES.out.2 hly hby (fun b o s e => Nat.le_of_lt (HD.out b o s e)) (fun b o s e => Nat.le_of_lt (HS.out b o s e)))
end Go.Proofs.YtogioabdijgglaaDoor
end

section
namespace Go.Proofs.YtogioabdijgglaaDoor
open Go.ChangeShapes Go.WideShapes Go.ChangeAt Go.RowKit Go.Deep
set_option linter.unusedVariables false
theorem rparse_any (A : Option Addr) (n c : Nat) (xs : List Nat) (w : World) (hx : Wig.Bytes xs) (hr : RdN .u8 w w.heap.size A xs) (hn : n = xs.length) (hl : n ≤ c) (hc : c ≤ maxLen) :
    Calls Tryd.prog 12 #[.slice A n c] w (ParseAt xs w) := by
  cases hsh : Wig.vshort xs with
  | true => exact rparse_short A n c xs w hx hr hn hl hc hsh
  | false =>
    have hne : xs ≠ [] := by intro h; rw [h] at hsh; cases hsh
    obtain ⟨ab, ao, rfl, _⟩ := hr hne
    by_cases q1 : 30 < Wig.vnum xs
    · exact rparse_far ab ao n c xs w hx hr hn hl hc hsh q1
    · by_cases k15 : Wig.vnum xs = 15
      · exact rparse_15 ab ao n c xs w hx hr hn hl hc hsh k15
      · cases hfl : Wig.flds (Wig.vnum xs) with
        | none => exact rparse_none ab ao n c xs w hx hr hn hl hc hsh q1 k15 hfl
        | some has => exact rparse_kind ab ao n c xs w hx hr hn hl hc has hsh q1 k15 hfl
set_option maxHeartbeats 4000000 in
theorem rall_any (A : Option Addr) (n c : Nat) (xs : List Nat) (w : World) (hx : Wig.Bytes xs) (hn : n = xs.length) (h5 : n ≤ 100000) (hc : n ≤ c) (hm : c ≤ maxLen) (hr : RdN .u8 w w.heap.size A xs) :
    Calls Tryd.prog 14 #[.slice A n c] w (AllAt xs w) := by
  obtain ⟨i0, hi, hz0, hz1, hz2⟩ := info_parts frame_info
  have A0 := Lib.hid (show AllRel xs w (.slice A n c) (.slice none 0 0) w from ⟨A, n, c, xs, [], rfl, hn, hc, hm, hr, hx, World.ownsRow_nil _ _ _ _, fun e he => (by cases he), Below.refl _ _, by cases h : Wig.rdFrames xs.length xs <;> rfl, by simp; omega, fun _ => rfl, fun e he => (by cases he)⟩)
  by_cases hxs : xs = []
  · have R := Lib.hid (allAt_no (w := w) (w' := w) (show Wig.fall xs = none by unfold Wig.fall; rw [if_pos hxs]) (Below.refl _ _))
    have t0 : ((n : Int) == 0) = true := by rw [hn, hxs]; rfl
    clear hx hn h5 hc hm hr A0 hxs
    go_enter Tryd.func14, Tryd.ntmps14
    go_wp2_with fail
    go_ret2
    exact R.out
  have HNE := Lib.hid hxs
  have tn : ((n : Int) == 0) = false := by
    have : xs.length ≠ 0 := fun h => hxs (List.eq_nil_of_length_eq_zero h)
    simp; omega
  clear hx hn h5 hc hm hr hxs
  go_enter Tryd.func14, Tryd.ntmps14
  go_wp2_with fail
  go_loopw [0, 4] (fun vb vo wr => AllRel xs w vb vo wr) (fun vb _ _ => match vb with | .slice _ n _ => n | _ => 0)
  case atStart => exact A0.out
  case round =>
    obtain ⟨A, n, c, r, es, rfl, hn, hc, hm, hr, hx, hown, hlie, hbel, heq, hlen, hes, hap⟩ := hrel
    have HAP := Lib.hid hap
    clear hap
    clear A0 tn
    have hsz := hbel.size
    have KO := Lib.hid hown
    have KL := Lib.hid hlie
    have KB := Lib.hid hbel
    by_cases h0 : n = 0
    · subst h0
      have hr0 : r = [] := List.eq_nil_of_length_eq_zero hn.symm
      subst hr0
      have heq2 : Wig.rdFrames xs.length xs = some (es.map FV.f) := by rw [← heq]; simp [Wig.rdFrames]
      have hxs : xs ≠ [] := HNE.out
      have R := Lib.hid (allAt_ok (w := w) (w' := wr) (v := u4) (show Wig.fall xs = some (es.map FV.f) by unfold Wig.fall; rw [if_neg hxs]; exact heq2) hown hlie hbel)
      clear hn hc hm hr hx hown hlie hbel heq hlen hes heq2 hsz hxs KO
      go_wp2_with fail
      go_ret2
      exact R.out
    · have t0 : decide ((0 : Int) < (n : Int)) = true := decide_eq_true (by omega)
      have t0' : decide (0 < n) = true := decide_eq_true (by omega)
      have C := Lib.hid (rparse_any A n c r wr hx (hr.wide hsz) hn hc hm)
      unfold ParseAt at C
      have hrne : r ≠ [] := fun h => h0 (by rw [hn, h]; rfl)
      cases hrd : Wig.rdFrame r with
      | none =>
        have e1 : Wig.perr r = 50 := by unfold Wig.perr; rw [hrd]
        rw [e1] at C
        have hno : Wig.rdFrames xs.length xs = none := by rw [← heq, Wig.rdFrames_none hrne hrd]; rfl
        have hxs : xs ≠ [] := by intro h; rw [h] at hno; simp [Wig.rdFrames] at hno
        have R := Lib.hid fun (w' : World) (hb : Below w.heap.size w w') => allAt_no (show Wig.fall xs = none by unfold Wig.fall; rw [if_neg hxs]; exact hno) hb
        clear hn hc hm hr hx hown hlie hbel heq hlen hes hsz hxs hrne hrd hno e1 KO KL
        obtain ⟨pl, hpl⟩ : ∃ pl, pl = Wig.plen r := ⟨_, rfl⟩
        rw [← hpl] at C
        clear hpl
        go_wp2_with fail
        refine (C.out).mono ?_
        rintro e w1 ⟨D, dc, S, sc, rfl, hl, hb1, -, -⟩
        generalize Wig.pfr r = f at *
        have R' := Lib.hid fun o => R.out ((w1.alloc o)) ((KB.out.trans (hb1.mono KB.out.size)).alloc (by have := KB.out.size; have := hb1.size; omega) o)
        clear hl hb1 R
        simp only [farr]
        go_wp2_with fail
        go_ret2
        exact R'.out _
      | some q =>
        obtain ⟨f, r2⟩ := q
        have e1 : Wig.perr r = 0 := by unfold Wig.perr; rw [hrd]
        have e2 : Wig.pfr r = f := by unfold Wig.pfr; rw [hrd]
        obtain ⟨hfine, _, _, hl2⟩ := Wig.rd_fine hx hrd
        have hd2 := Wig.rd_drop hx hrd
        obtain ⟨s, hs⟩ : ∃ s, s = r.length - r2.length := ⟨_, rfl⟩
        have e3 : Wig.plen r = s := by unfold Wig.plen; rw [hrd, hs]
        rw [e1, e2, e3] at C
        rw [← hs] at hd2
        rw [Wig.rdFrames_step hx hrd] at heq
        have heq2 : (Wig.rdFrames r2.length r2).map ((es.map FV.f ++ [f]) ++ ·) = Wig.rdFrames xs.length xs := by
          rw [← heq]
          cases Wig.rdFrames r2.length r2 <;> simp
        have hx2 : Wig.Bytes r2 := by rw [hd2]; exact hx.drop s
        have E := Lib.hid (And.intro heq2 (And.intro hx2 (And.intro hd2 hn)))
        have HL := fun _ : Unit => (show es.length + r2.length + 1 ≤ 100000 by omega)
        have HR := Lib.hid hr
        have b1 : (0 : Int) ≤ (s : Int) := by omega
        have b2 : s ≤ n := by omega
        have b3 : s ≤ c := by omega
        have b4 : n ≤ c := hc
        have hs0 : 0 < s := by omega
        have HC := Lib.hid (And.intro hc hm)
        have HS := Lib.hid (show r2.length = n - s ∧ s ≤ n ∧ 0 < s by omega)
        have hex : ∃ ab ao, A = some ⟨ab, ao, none⟩ := by
          obtain ⟨ab, ao, e, _⟩ := hr hrne
          exact ⟨ab, ao, e⟩
        obtain ⟨ab, ao, rfl⟩ := hex
        have HSZ := Lib.hid hsz
        clear hn hc hm hr hx hown hlie hbel heq hlen hes hsz hrne hrd e1 e2 e3 hl2 hd2 hs heq2 hx2 hs0 hfine
        go_wp2_with fail
        refine (C.out).mono ?_
        rintro e w1 ⟨D, dc, S, sc, rfl, hl, hb1, hD, hS⟩
        have AP0 := Lib.hid (show Ap u4.ownBlock ⟨f, D, dc, S, sc⟩ from ⟨fun _ b o s e e2 => by have := hD b o s e; have := (KO.out.block b e2).2; omega, fun _ b o s e e2 => by have := hS b o s e; have := (KO.out.block b e2).2; omega⟩)
        clear hD hS
        have O1 := Lib.hid (KO.out.below hb1 (Nat.le_refl _))
        have L1 := Lib.hid (KL.out.step hb1)
        have B1 := Lib.hid (KB.out.trans (hb1.mono HSZ.out))
        have F1 := Lib.hid hl
        have R1 := Lib.hid (HR.out.below (hb1.mono HSZ.out))
        clear hl hb1 C KO KL
        obtain ⟨wb, hwb⟩ : ∃ wb, wb = w1.alloc (.cells #[.int .i64 f.kind, .int .u64 (f.id : Int), .int .u64 (f.off : Int), .int .u64 (f.max : Int), .int .u64 (f.code : Int), .int .u64 (f.delay : Int), .int .u64 (f.ce : Int), .bool f.fin, .slice D f.data.length dc, .slice S f.spans.length sc] 26) := ⟨_, rfl⟩
        have hbb : Below w1.heap.size w1 wb := by rw [hwb]; exact (Below.refl _ _).alloc (Nat.le_refl _) _
        have hat : At wb w1.heap.size 0 f D dc S sc := by rw [hwb]; exact at_box w1 f D dc S sc 26
        have O2 := Lib.hid (O1.out.below hbb (Nat.le_refl _))
        have L2 := Lib.hid (L1.out.step hbb)
        have B2 := Lib.hid (B1.out.trans (hbb.mono B1.out.size))
        have F2 := Lib.hid (F1.out.step hbb)
        have R2 := Lib.hid (R1.out.below (hbb.mono B1.out.size))
        have AT := Lib.hid hat
        clear hat hbb O1 L1 F1 R1
        simp only [farr]
        go_upto_region 6 with fail
        rw [← hwb]
        clear hwb
        have k0 := AT.out.c0
        have k1 := AT.out.c1
        have k2 := AT.out.c2
        have k3 := AT.out.c3
        have k4 := AT.out.c4
        have k5 := AT.out.c5
        have k6 := AT.out.c6
        have k7 := AT.out.c7
        have k8 := AT.out.c8
        have k9 := AT.out.c9
        simp only [Nat.zero_add] at k0 k1 k2 k3 k4 k5 k6 k7 k8 k9
        go_wp2_with (at_builtin; refine wpList_append_lies _ rfl _ _ 35 rfl w.heap.size 26 i0 (.agg #[.int .i64 0, .int .u64 0, .int .u64 0, .int .u64 0, .int .u64 0, .int .u64 0, .int .u64 0, .bool false, .slice none 0 0, .slice none 0 0]) 10 112 Tryd.underlying35 hi hz0 hz1 hz2 rfl (by decide) _ _ _ rfl (World.ownsRow.alloc O2.out _) ⟨wb.heap.size, 0, none⟩ 1 1 (fflat [⟨f, D, dc, S, sc⟩]) rfl rfl ?c1 ?c2 (by decide) ?c3 ?c4 ?c5 (wb.heap.size + 1) (by simp) ?_)
        case c1 => exact cell_frame_new wb ⟨f, D, dc, S, sc⟩
        case c2 => exact fflat_one_cell _
        case c3 => have := HL (); unfold maxLen; omega
        case c4 => have := HL (); omega
        case c5 => have := B2.out.size; simp; omega
        intro gg cap w3 hown3 hgr3 hat3 hlt3
        obtain ⟨wc, hwc⟩ : ∃ wc, wc = wb.alloc (.cells #[.int .i64 f.kind, .int .u64 (f.id : Int), .int .u64 (f.off : Int), .int .u64 (f.max : Int), .int .u64 (f.code : Int), .int .u64 (f.delay : Int), .int .u64 (f.ce : Int), .bool f.fin, .slice D f.data.length dc, .slice S f.spans.length sc] 26) := ⟨_, rfl⟩
        rw [← hwc] at hgr3
        have hbc : Below wb.heap.size wb wc := by rw [hwc]; exact (Below.refl _ _).alloc (Nat.le_refl _) _
        have hsc : wc.heap.size = wb.heap.size + 1 := by rw [hwc]; simp
        have hb3 : Below w.heap.size w w3 := (B2.out.trans (hbc.mono B2.out.size)).grown hgr3 (by have := B2.out.size; omega) (fun q hq => (O2.out.block q hq).1)
        have hlall : ∀ e ∈ es ++ [⟨f, D, dc, S, sc⟩], Lies wc wc.heap.size e.f e.D e.dc e.S e.sc ∧ Ap u4.ownBlock e := fun e he => by
          rcases List.mem_append.1 he with he | he
          · exact ⟨(L2.out e he).step hbc, HAP.out e he⟩
          · rw [List.mem_singleton.1 he]
            exact ⟨F2.out.step hbc, AP0.out⟩
        have hl3 : LiesAll w3 w3.heap.size (es ++ [⟨f, D, dc, S, sc⟩]) := fun e he => (hlall e he).1.grown (hlall e he).2 hgr3
        have hap3 : ∀ e ∈ es ++ [⟨f, D, dc, S, sc⟩], Ap (some gg) e := fun e he => by
          rcases hat3 with h | h
          · have := (hlall e he).2; rwa [h] at this
          · exact (hlall e he).1.new (by omega)
        have ho3 : OwnF w3 w.heap.size (.slice (some ⟨gg, 0, none⟩) (es.length + 1) cap) (es ++ [⟨f, D, dc, S, sc⟩]) := by
          unfold OwnF
          rw [fflat_app, List.length_append]
          exact hown3
        have hr3 : RdN .u8 w3 w.heap.size (some ⟨ab, ao, none⟩) r := (R2.out.below (hbc.mono B2.out.size)).below ((Below.refl w.heap.size wc).grown hgr3 (by have := B2.out.size; omega) (fun q hq => (O2.out.block q hq).1))
        have fin : ∀ A' c', n - s ≤ c' → c' ≤ maxLen → RdN .u8 w3 w.heap.size A' r2 → AllRel xs w (.slice A' (n - s) c') (.slice (some ⟨gg, 0, none⟩) (es.length + 1) cap) w3 := fun A' c' h1 h2 h3 =>
          ⟨A', n - s, c', r2, es ++ [⟨f, D, dc, S, sc⟩], rfl, HS.out.1.symm, h1, h2, h3, E.out.2.1, ho3, hl3, hb3, by rw [List.map_append]; exact E.out.1, by rw [List.length_append]; have := HL (); simp; omega, fun h => by simp at h, hap3⟩
        have F := Lib.hid fin
        have R3 := Lib.hid hr3
        clear hown3 hgr3 hat3 hlt3 hwc hbc hsc hb3 hlall hl3 hap3 ho3 hr3 fin k0 k1 k2 k3 k4 k5 k6 k7 k8 k9
        by_cases hcs : c = s
        · have hns : n = s := by have := HC.out.1; omega
          subst hcs hns
          have R := Lib.hid fun A' => F.out A' 0 (by omega) (by omega) (by rw [show r2 = [] from List.eq_nil_of_length_eq_zero (by have := HS.out; omega)]; exact RdN.empty)
          rw [Nat.sub_self] at R
          have M := Lib.hid HS.out.2.2
          clear b2 b3 b4 F
          go_wp2_with fail
          go_roundw
          case rel => exact R.out _
          case measure => exact M.out
        · have R := Lib.hid (F.out (some ⟨ab, ao + s, none⟩) (c - s) (by have := HC.out; omega) (by have := HC.out; omega) (by rw [E.out.2.2.1]; exact RdN.drop R3.out s))
          have M := Lib.hid (show n - s < n by have := HS.out; omega)
          clear F
          go_wp2_with fail
          go_roundw
          case rel => exact R.out
          case measure => exact M.out
end Go.Proofs.YtogioabdijgglaaDoor
end
