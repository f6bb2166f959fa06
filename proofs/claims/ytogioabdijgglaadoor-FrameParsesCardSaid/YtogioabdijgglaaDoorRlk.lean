/-
  What the document's laid of layer 5 returns of an answer (a frame of spans): its numbers. No condition.
-/
import Derived.Test.YtogioabdijgglaaDoorRla
import Derived.Deep.RegionHeld3
import Derived.Deep.DrawnRows
import Derived.Deep.DeepCutAuto
import Derived.Deep.CutBlock
namespace Go.Proofs.YtogioabdijgglaaDoor
open Go.ChangeShapes Go.WideShapes Go.ChangeAt Go.RowKit Go.Deep
set_option linter.unusedVariables false

theorem cell_one_u64 (w : World) (a : Nat) : ∀ j u, (ncells .u64 [a])[j]? = some u → (w.alloc (.cells #[.int .u64 (a : Int)] 22)).cell? ((⟨w.heap.size, 0, none⟩ : Addr).add j) = some u := by
  intro j u hj
  rw [add_plain, Nat.zero_add, World.cell?_alloc_at _ _ _ _ rfl]
  simpa [ncells] using hj
theorem wpList_append_u64 {w : World} {ops : Array Oper} {rest : List Oper} {o : Oper} {a : Act} {Q : Exit → Act → World → Prop} (hgd : o.guard = none) (s x : Operand)
    (ho : o.op = .call { callee := .builtin .append, args := #[s, x], argTypes := #[51, 51] })
    (base : Nat) (v : Value) (xs : List Nat) (y : Nat) (hs : a.eval s = v) (hown : OwnN .u64 22 w base v xs) (hx : a.eval x = .slice (some ⟨w.heap.size, 0, none⟩) 1 1)
    (h63 : xs.length ≤ 1000) (hbase : base ≤ w.heap.size)
    (h : ∀ v' w', OwnN .u64 22 w' base v' (xs ++ [y]) → Below base w w' → wpList Tryd.prog ops Q rest (a.put o.dst v') w') : wpList Tryd.prog ops Q (o :: rest) a (w.alloc (.cells #[.int .u64 (y : Int)] 22)) := by
  obtain ⟨i0, hi, hz0, hz1, hz2⟩ := info_parts u64_info
  have hown' : OwnN .u64 22 (w.alloc (.cells #[.int .u64 (y : Int)] 22)) base v xs := hown.below ((Below.refl _ _).alloc (Nat.le_refl _) _) (Nat.le_refl _)
  refine wpList_append_own _ hgd s x _ ho base 22 i0 (.int .u64 0) 1 8 Tryd.underlying51 hi hz0 hz1 hz2 rfl (by decide) v xs.length (ncells .u64 xs) hs hown' ⟨w.heap.size, 0, none⟩ 1 1 (ncells .u64 [y]) hx rfl (cell_one_u64 w y) (ncells_one .u64 [y])
    (by unfold maxLen; omega) (by omega) (by simp; omega) ?_
  intro v' w' h1 h2 _
  refine h v' w' ?_ (((Below.refl base w).alloc hbase _).grown h2 (by simp; omega) (fun q hq => (hown'.block q hq).1))
  unfold OwnN
  rw [List.length_append, ncells_app]
  exact h1

/-- At laid's round's head: k spans are left. -/
def RlaRel (k0 : Nat) (l : List Wig.Spn) (w : World) (vo vi : Value) (wr : World) : Prop :=
  ∃ k L p, k + 1 ≤ l.length ∧ vi = .int .i64 ((k : Int) - 1) ∧ l[k]? = some p ∧ OwnN .u64 22 wr w.heap.size vo L ∧ L ++ Wig.gaps p (l.take k).reverse = k0 :: Wig.spNums l ∧ Below w.heap.size w wr ∧ L.length ≤ 4 + 2 * (l.length - k)

set_option maxHeartbeats 8000000 in
set_option maxRecDepth 100000 in
theorem rlaid_ack2 (v : Value) (f : Wig.Fr) (k0 : Nat) (w : World) (hv : Fv w w.heap.size v f) (hk : f.kind = (k0 : Int)) (hk0 : k0 = 2 ∨ k0 = 3) (hl0 : 0 < f.spans.length) (hl32 : f.spans.length ≤ 32) (hok : Wig.spOk f.spans = true) (ht2 : ((k0 : Int) == 2) = true) (ht3 : ((k0 : Int) == 3) = false) :
    Calls Tryd.prog 22 #[v] w fun e w' => ∃ v', e = .returned v' ∧ OwnN .u64 22 w' w.heap.size v' ((k0 :: Wig.spNums f.spans) ++ [f.delay]) ∧ Below w.heap.size w w' := by
  obtain ⟨i0, hi, hz0, hz1, hz2⟩ := info_parts u64_info
  obtain ⟨D, dc, S, sc, rfl, hlies⟩ := hv
  have hbel : Below w.heap.size w (w.alloc (.cells (farr f D dc S sc) 26)) := (Below.refl _ _).alloc (Nat.le_refl _) _
  have hat := at_box w f D dc S sc 26
  obtain ⟨wn, hwn⟩ : ∃ wn, wn = w.alloc (.cells (farr f D dc S sc) 26) := ⟨_, rfl⟩
  rw [← hwn] at hat hbel
  have hsz : wn.heap.size = w.heap.size + 1 := by rw [hwn]; simp
  obtain ⟨l, hle⟩ : ∃ l, l = f.spans := ⟨_, rfl⟩
  have hr : RdS wn wn.heap.size S l := by rw [hle]; exact (hlies.step hbel).sr
  rw [← hle] at hl0 hl32 hok
  obtain ⟨n, hn⟩ : ∃ n, n = l.length := ⟨_, rfl⟩
  rw [← hn] at hl0 hl32
  obtain ⟨m, hm⟩ : ∃ m, n = m + 1 := ⟨n - 1, by omega⟩
  obtain ⟨⟨s0, s1⟩, hs⟩ : ∃ s, l[m]? = some s := ⟨_, List.getElem?_eq_getElem (by omega)⟩
  obtain ⟨b, off, rfl, hb, hc0, hc1⟩ := hr.at_ hs
  simp only [] at hc0 hc1
  obtain ⟨q1, q2⟩ := Wig.spOk_one hok hs
  simp only [] at q1 q2
  have hlast := Wig.spNums_last (by omega) hs
  have HR := Lib.hid hr
  have HN := Lib.hid hn
  have HK := Lib.hid hok
  have e1 : (n : Int) - 1 = (m : Int) := by omega
  have e1w : IntKind.i64.wrap ((n : Int) - 1) = (m : Int) := by rw [IntKind.wrap_i64]; omega
  have e2 : IntKind.u64.wrap (n : Int) = (n : Int) := by rw [IntKind.wrap_u64]; omega
  have e3 : IntKind.u64.wrap (k0 : Int) = (k0 : Int) := by rw [IntKind.wrap_u64]; omega
  obtain ⟨x1, hx1⟩ : ∃ x1, x1 = s1 - 1 := ⟨_, rfl⟩
  obtain ⟨x2, hx2⟩ : ∃ x2, x2 = s1 - s0 := ⟨_, rfl⟩
  obtain ⟨x3, hx3⟩ : ∃ x3, x3 = x2 - 1 := ⟨_, rfl⟩
  have f1 : IntKind.u64.wrap ((s1 : Int) - 1) = (x1 : Int) := by rw [IntKind.wrap_u64]; omega
  have f2 : IntKind.u64.wrap ((s1 : Int) - (s0 : Int)) = (x2 : Int) := by rw [IntKind.wrap_u64]; omega
  have f3 : IntKind.u64.wrap ((x2 : Int) - 1) = (x3 : Int) := by rw [IntKind.wrap_u64]; omega
  have i0' : (0 : Int) ≤ (m : Int) := by omega
  have i1' : (m : Int) < (n : Int) := by omega
  have g1 : IntKind.i64.wrap ((n : Int) - 2) = (m : Int) - 1 := by rw [IntKind.wrap_i64]; omega
  have g1' : (n : Int) - 2 = (m : Int) - 1 := by omega
  have hL : k0 :: Wig.spNums l = [k0, n, x1, x3] ++ Wig.gaps (s0, s1) (l.take m).reverse := by rw [hlast, hx1, hx3, hx2, hm]; rfl
  have HL := Lib.hid hL
  have HS := Lib.hid hs
  have HM := Lib.hid hm
  have HB := Lib.hid (And.intro hb (And.intro hsz hbel))
  have HA := Lib.hid hat
  have HE := Lib.hid hle
  have H32 := Lib.hid hl32
  have hfs : f.spans.length = n := by rw [← hle, hn]
  have hss : f.delay = f.delay := rfl
  obtain ⟨k0', k1, k2, k3, k4, k5, k6, k7, k8, k9, -⟩ := at_ten hat (by omega) (Below.refl wn.heap.size wn)
  rw [hk] at k0'
  rw [hfs] at k9
  simp only [farr] at hwn ⊢
  rw [hk, hfs]
  rw [hk, hfs] at hwn
  have lw1 : w.heap.size < (wn.alloc (.cells #[.int .u64 (s0 : Int), .int .u64 (s1 : Int)] 42)).heap.size := by simp; omega
  have l0 := (((Below.refl wn.heap.size wn).alloc (Nat.le_refl _) (.cells #[.int .u64 (s0 : Int), .int .u64 (s1 : Int)] 42)).cell (p := ⟨w.heap.size, 0, none⟩) (show w.heap.size < wn.heap.size by omega)).trans k0'
  have n32 : n ≤ 32 := hl32
  have m32 : m ≤ 31 := by omega
  clear hr hn hok hs hm hL hx1 hx2 hx3 q1 q2 hlast hb hl0 hlies hbel hat hsz hle hl32 hfs hss hk k1 k2 k3 k4 k7 k8
  go_enter Tryd.func22, Tryd.ntmps22
  go_upto_region 1 with fail
  rw [← hwn]
  clear hwn
  go_wp2_with fail
  have A0 : RlaRel k0 l wn (.slice (some ⟨wn.heap.size + 1, 0, none⟩) 4 4) (.int .i64 ((m : Int) - 1)) ((wn.alloc (.cells #[.int .u64 (s0 : Int), .int .u64 (s1 : Int)] 42)).alloc (.cells #[.int .u64 (k0 : Int), .int .u64 (n : Int), .int .u64 (x1 : Int), .int .u64 (x3 : Int)] 22)) := by
    have b1 : Below wn.heap.size wn (wn.alloc (.cells #[.int .u64 (s0 : Int), .int .u64 (s1 : Int)] 42)) := (Below.refl _ _).alloc (Nat.le_refl _) _
    refine ⟨m, [k0, n, x1, x3], (s0, s1), by have := HN.out; have := HM.out; omega, rfl, HS.out, ?_, HL.out.symm, b1.alloc b1.size _, by simp⟩
    have := own_lit .u64 22 (wn.alloc (.cells #[.int .u64 (s0 : Int), .int .u64 (s1 : Int)] 42)) wn.heap.size [k0, n, x1, x3] b1.size (by simp [maxLen])
    simp only [World.size_alloc] at this
    exact this
  have A0' := Lib.hid A0
  have K9 := Lib.hid k9
  have K5 := Lib.hid (And.intro k0' (And.intro k5 k6))
  clear A0 hc0 hc1 e1 e1w e2 e3 f1 f2 f3 i0' i1' g1 g1' HL HS k9 k5 k6 k0' l0 lw1
  go_loopw [5, 6] (fun vo vi wr => RlaRel k0 l wn vo vi wr) (fun _ vi _ => (intOf vi + 1).toNat)
  case atStart => exact A0'.out
  case round =>
    obtain ⟨k, L, p, hk, rfl, hp, hown, heq, hbel, hLl⟩ := hrel
    rw [← HN.out] at hk hLl
    have KO := Lib.hid hown
    have KB := Lib.hid hbel
    clear A0'
    by_cases hk0' : 0 < k
    · obtain ⟨j, hj⟩ : ∃ j, k = j + 1 := ⟨k - 1, by omega⟩
      obtain ⟨⟨a0, a1⟩, ha⟩ : ∃ s, l[j]? = some s := ⟨_, List.getElem?_eq_getElem (by have := HN.out; omega)⟩
      obtain ⟨p0, p1⟩ := p
      have o1 := Wig.spOk_pair l j _ _ HK.out ha (by rw [← hj]; exact hp)
      have o2 := Wig.spOk_one HK.out ha
      have o3 := Wig.spOk_one HK.out hp
      simp only [] at o1 o2 o3
      obtain ⟨b', off', e', hb', hp0, hp1⟩ := (HR.out.below KB.out).at_ hp
      injection e' with e'
      injection e' with e1 e2
      subst e1 e2
      obtain ⟨b'', off'', e', hb'', ha0, ha1⟩ := (HR.out.below KB.out).at_ ha
      injection e' with e'
      injection e' with e1 e2
      subst e1 e2
      simp only [] at hp0 hp1 ha0 ha1
      obtain ⟨y1, hy1⟩ : ∃ y1, y1 = p0 - a1 := ⟨_, rfl⟩
      obtain ⟨y2, hy2⟩ : ∃ y2, y2 = y1 - 1 := ⟨_, rfl⟩
      obtain ⟨y3, hy3⟩ : ∃ y3, y3 = a1 - a0 := ⟨_, rfl⟩
      obtain ⟨y4, hy4⟩ : ∃ y4, y4 = y3 - 1 := ⟨_, rfl⟩
      have f1 : IntKind.u64.wrap ((p0 : Int) - (a1 : Int)) = (y1 : Int) := by rw [IntKind.wrap_u64]; omega
      have f2 : IntKind.u64.wrap ((y1 : Int) - 1) = (y2 : Int) := by rw [IntKind.wrap_u64]; omega
      have f3 : IntKind.u64.wrap ((a1 : Int) - (a0 : Int)) = (y3 : Int) := by rw [IntKind.wrap_u64]; omega
      have f4 : IntKind.u64.wrap ((y3 : Int) - 1) = (y4 : Int) := by rw [IntKind.wrap_u64]; omega
      have ej : (k : Int) - 1 = (j : Int) := by omega
      rw [ej]
      have g1 : IntKind.i64.wrap ((j : Int) + 1) = (k : Int) := by rw [IntKind.wrap_i64]; omega
      have i1 : (0 : Int) ≤ (k : Int) := by omega
      have i2 : (k : Int) < (n : Int) := by omega
      have i3 : (0 : Int) ≤ (j : Int) := by omega
      have i4 : (j : Int) < (n : Int) := by omega
      have t1 : decide ((0 : Int) ≤ (j : Int)) = true := decide_eq_true i3
      have HSZ := Lib.hid KB.out.size
      have lb : b < wn.heap.size := hb'
      have lw : w.heap.size < wn.heap.size := by have := HB.out; omega
      have k9 := (KB.out.cell (p := ⟨w.heap.size, 9, none⟩) lw).trans K9.out
      have HLL := Lib.hid (show L.length ≤ 68 by omega)
      have hgaps : Wig.gaps (p0, p1) (l.take k).reverse = [y2, y4] ++ Wig.gaps (a0, a1) (l.take j).reverse := by
        rw [hj, Wig.take_rev ha, Wig.gaps, hy2, hy1, hy4, hy3]
        rfl
      have HG := Lib.hid (show (L ++ [y2, y4]) ++ Wig.gaps (a0, a1) (l.take j).reverse = k0 :: Wig.spNums l by rw [List.append_assoc, ← hgaps]; exact heq)
      have HA2 := Lib.hid (And.intro ha (And.intro hj (show (L ++ [y2, y4]).length ≤ 4 + 2 * (n - j) by simp; omega)))
      clear hp hown heq hbel hLl hk0' ha o1 o2 o3 hb' hb'' hy1 hy2 hy3 hy4 hgaps ej hk hj
      go_wp2_with fail
      go_region_held3 (fun w' => w'.cell? ⟨w.heap.size, 9, none⟩ = some (.slice (some ⟨b, off, none⟩) n sc) ∧ w'.cell? ⟨b, off + k * 2, none⟩ = some (.int .u64 (p0 : Int)) ∧ w'.cell? ⟨b, off + j * 2, none⟩ = some (.int .u64 (a0 : Int)) ∧ w'.cell? ⟨b, off + j * 2 + 1, none⟩ = some (.int .u64 (a1 : Int)))
        (first
          | go_keep
          | exact ⟨(KW.out.cell lw).trans k9, (KW.out.cell lb).trans hp0, (KW.out.cell lb).trans ha0, (KW.out.cell lb).trans ha1⟩
          | fail)
        ((refine step_append_lies _ (by rfl) _ _ _ (by rfl) wn.heap.size 22 i0 _ 1 8 Tryd.underlying51 hi hz0 hz1 hz2 rfl (by omega) _ _ _ (by rfl) (World.ownsRow.alloc (w := wr) KO.out _) ⟨wr.heap.size, 0, none⟩ 2 2 (ncells .u64 [y2, y4]) (by rfl) (by rfl) (cell_two_u64 wr y2 y4) (ncells_one .u64 [y2, y4]) (by omega) (by have := HLL.out; unfold maxLen; omega) (by have := HLL.out; omega) (by have := HSZ.out; simp; omega) (wr.heap.size + 1) (by simp) ?_; intro gg cap w3 hown1 hgrow hat hlt2; have KW := Lib.hid (grown_by hgrow HSZ.out (fun q hq => (KO.out.block q hq).1))))
      have R : RlaRel k0 l wn (.slice (some ⟨gg, 0, none⟩) (L.length + 2) cap) (.int .i64 ((j : Int) - 1)) w3 := by
        refine ⟨j, L ++ [y2, y4], (a0, a1), by have := HA2.out.2.1; have := HN.out; omega, rfl, HA2.out.1, ?_, HG.out, KB.out.trans KW.out, by rw [← HN.out]; exact HA2.out.2.2⟩
        unfold OwnN
        rw [ncells_app, List.length_append]
        exact hown1
      have R' := Lib.hid R
      have HJ := Lib.hid HA2.out.2.1
      clear hown1 hgrow hat hlt2 R k9
      go_wp2_with fail
      go_roundw
      case rel => exact R'.out
      case measure => simp [intOf]
    · obtain rfl : k = 0 := by omega
      have t1 : decide ((0 : Int) ≤ ((0 : Nat) : Int) - 1) = false := by decide
      rw [List.take_zero, List.reverse_nil, Wig.gaps, List.append_nil] at heq
      subst heq
      have lw : w.heap.size < wn.heap.size := by have := HB.out; omega
      have k5 := (KB.out.cell (p := ⟨w.heap.size, 5, none⟩) lw).trans K5.out.2.1
      have LW := Lib.hid lw
      have L1 := Lib.hid (show (k0 :: Wig.spNums l).length ≤ 100 by have := HN.out; omega)
      clear hp hbel hLl hk0' hk hown lw
      go_wp2_with (at_builtin; refine wpList_append_u64 rfl _ _ rfl wn.heap.size u5 (k0 :: Wig.spNums l) f.delay (by rfl) KO.out rfl (by have := L1.out; omega) KB.out.size ?_)
      intro v2 w2 hown2 hb2
      have O2 := Lib.hid hown2
      have B2 := Lib.hid (KB.out.trans hb2)
      have k0c := (B2.out.cell (p := ⟨w.heap.size, 0, none⟩) LW.out).trans K5.out.1
      have k6 := (B2.out.cell (p := ⟨w.heap.size, 6, none⟩) LW.out).trans K5.out.2.2
      clear hown2 hb2 k5
      have R := Lib.hid (show OwnN .u64 22 w2 w.heap.size v2 ((k0 :: Wig.spNums f.spans) ++ [f.delay]) ∧ Below w.heap.size w w2 from ⟨by rw [← HE.out]; exact O2.out.base_le (by have := HB.out; omega), HB.out.2.2.trans (B2.out.mono (by have := HB.out; omega))⟩)
      clear k6
      go_wp2_with fail
      go_ret
      exact ⟨_, rfl, R.out⟩

set_option maxHeartbeats 8000000 in
set_option maxRecDepth 100000 in
theorem rlaid_ack3 (v : Value) (f : Wig.Fr) (k0 : Nat) (w : World) (hv : Fv w w.heap.size v f) (hk : f.kind = (k0 : Int)) (hk0 : k0 = 2 ∨ k0 = 3) (hl0 : 0 < f.spans.length) (hl32 : f.spans.length ≤ 32) (hok : Wig.spOk f.spans = true) (ht2 : ((k0 : Int) == 2) = false) (ht3 : ((k0 : Int) == 3) = true) :
    Calls Tryd.prog 22 #[v] w fun e w' => ∃ v', e = .returned v' ∧ OwnN .u64 22 w' w.heap.size v' ((k0 :: Wig.spNums f.spans) ++ [f.delay, f.ce]) ∧ Below w.heap.size w w' := by
  obtain ⟨i0, hi, hz0, hz1, hz2⟩ := info_parts u64_info
  obtain ⟨D, dc, S, sc, rfl, hlies⟩ := hv
  have hbel : Below w.heap.size w (w.alloc (.cells (farr f D dc S sc) 26)) := (Below.refl _ _).alloc (Nat.le_refl _) _
  have hat := at_box w f D dc S sc 26
  obtain ⟨wn, hwn⟩ : ∃ wn, wn = w.alloc (.cells (farr f D dc S sc) 26) := ⟨_, rfl⟩
  rw [← hwn] at hat hbel
  have hsz : wn.heap.size = w.heap.size + 1 := by rw [hwn]; simp
  obtain ⟨l, hle⟩ : ∃ l, l = f.spans := ⟨_, rfl⟩
  have hr : RdS wn wn.heap.size S l := by rw [hle]; exact (hlies.step hbel).sr
  rw [← hle] at hl0 hl32 hok
  obtain ⟨n, hn⟩ : ∃ n, n = l.length := ⟨_, rfl⟩
  rw [← hn] at hl0 hl32
  obtain ⟨m, hm⟩ : ∃ m, n = m + 1 := ⟨n - 1, by omega⟩
  obtain ⟨⟨s0, s1⟩, hs⟩ : ∃ s, l[m]? = some s := ⟨_, List.getElem?_eq_getElem (by omega)⟩
  obtain ⟨b, off, rfl, hb, hc0, hc1⟩ := hr.at_ hs
  simp only [] at hc0 hc1
  obtain ⟨q1, q2⟩ := Wig.spOk_one hok hs
  simp only [] at q1 q2
  have hlast := Wig.spNums_last (by omega) hs
  have HR := Lib.hid hr
  have HN := Lib.hid hn
  have HK := Lib.hid hok
  have e1 : (n : Int) - 1 = (m : Int) := by omega
  have e1w : IntKind.i64.wrap ((n : Int) - 1) = (m : Int) := by rw [IntKind.wrap_i64]; omega
  have e2 : IntKind.u64.wrap (n : Int) = (n : Int) := by rw [IntKind.wrap_u64]; omega
  have e3 : IntKind.u64.wrap (k0 : Int) = (k0 : Int) := by rw [IntKind.wrap_u64]; omega
  obtain ⟨x1, hx1⟩ : ∃ x1, x1 = s1 - 1 := ⟨_, rfl⟩
  obtain ⟨x2, hx2⟩ : ∃ x2, x2 = s1 - s0 := ⟨_, rfl⟩
  obtain ⟨x3, hx3⟩ : ∃ x3, x3 = x2 - 1 := ⟨_, rfl⟩
  have f1 : IntKind.u64.wrap ((s1 : Int) - 1) = (x1 : Int) := by rw [IntKind.wrap_u64]; omega
  have f2 : IntKind.u64.wrap ((s1 : Int) - (s0 : Int)) = (x2 : Int) := by rw [IntKind.wrap_u64]; omega
  have f3 : IntKind.u64.wrap ((x2 : Int) - 1) = (x3 : Int) := by rw [IntKind.wrap_u64]; omega
  have i0' : (0 : Int) ≤ (m : Int) := by omega
  have i1' : (m : Int) < (n : Int) := by omega
  have g1 : IntKind.i64.wrap ((n : Int) - 2) = (m : Int) - 1 := by rw [IntKind.wrap_i64]; omega
  have g1' : (n : Int) - 2 = (m : Int) - 1 := by omega
  have hL : k0 :: Wig.spNums l = [k0, n, x1, x3] ++ Wig.gaps (s0, s1) (l.take m).reverse := by rw [hlast, hx1, hx3, hx2, hm]; rfl
  have HL := Lib.hid hL
  have HS := Lib.hid hs
  have HM := Lib.hid hm
  have HB := Lib.hid (And.intro hb (And.intro hsz hbel))
  have HA := Lib.hid hat
  have HE := Lib.hid hle
  have H32 := Lib.hid hl32
  have hfs : f.spans.length = n := by rw [← hle, hn]
  have hss : f.delay = f.delay := rfl
  obtain ⟨k0', k1, k2, k3, k4, k5, k6, k7, k8, k9, -⟩ := at_ten hat (by omega) (Below.refl wn.heap.size wn)
  rw [hk] at k0'
  rw [hfs] at k9
  simp only [farr] at hwn ⊢
  rw [hk, hfs]
  rw [hk, hfs] at hwn
  have lw1 : w.heap.size < (wn.alloc (.cells #[.int .u64 (s0 : Int), .int .u64 (s1 : Int)] 42)).heap.size := by simp; omega
  have l0 := (((Below.refl wn.heap.size wn).alloc (Nat.le_refl _) (.cells #[.int .u64 (s0 : Int), .int .u64 (s1 : Int)] 42)).cell (p := ⟨w.heap.size, 0, none⟩) (show w.heap.size < wn.heap.size by omega)).trans k0'
  have n32 : n ≤ 32 := hl32
  have m32 : m ≤ 31 := by omega
  clear hr hn hok hs hm hL hx1 hx2 hx3 q1 q2 hlast hb hl0 hlies hbel hat hsz hle hl32 hfs hss hk k1 k2 k3 k4 k7 k8
  go_enter Tryd.func22, Tryd.ntmps22
  go_upto_region 1 with fail
  rw [← hwn]
  clear hwn
  go_wp2_with fail
  have A0 : RlaRel k0 l wn (.slice (some ⟨wn.heap.size + 1, 0, none⟩) 4 4) (.int .i64 ((m : Int) - 1)) ((wn.alloc (.cells #[.int .u64 (s0 : Int), .int .u64 (s1 : Int)] 42)).alloc (.cells #[.int .u64 (k0 : Int), .int .u64 (n : Int), .int .u64 (x1 : Int), .int .u64 (x3 : Int)] 22)) := by
    have b1 : Below wn.heap.size wn (wn.alloc (.cells #[.int .u64 (s0 : Int), .int .u64 (s1 : Int)] 42)) := (Below.refl _ _).alloc (Nat.le_refl _) _
    refine ⟨m, [k0, n, x1, x3], (s0, s1), by have := HN.out; have := HM.out; omega, rfl, HS.out, ?_, HL.out.symm, b1.alloc b1.size _, by simp⟩
    have := own_lit .u64 22 (wn.alloc (.cells #[.int .u64 (s0 : Int), .int .u64 (s1 : Int)] 42)) wn.heap.size [k0, n, x1, x3] b1.size (by simp [maxLen])
    simp only [World.size_alloc] at this
    exact this
  have A0' := Lib.hid A0
  have K9 := Lib.hid k9
  have K5 := Lib.hid (And.intro k0' (And.intro k5 k6))
  clear A0 hc0 hc1 e1 e1w e2 e3 f1 f2 f3 i0' i1' g1 g1' HL HS k9 k5 k6 k0' l0 lw1
  go_loopw [5, 6] (fun vo vi wr => RlaRel k0 l wn vo vi wr) (fun _ vi _ => (intOf vi + 1).toNat)
  case atStart => exact A0'.out
  case round =>
    obtain ⟨k, L, p, hk, rfl, hp, hown, heq, hbel, hLl⟩ := hrel
    rw [← HN.out] at hk hLl
    have KO := Lib.hid hown
    have KB := Lib.hid hbel
    clear A0'
    by_cases hk0' : 0 < k
    · obtain ⟨j, hj⟩ : ∃ j, k = j + 1 := ⟨k - 1, by omega⟩
      obtain ⟨⟨a0, a1⟩, ha⟩ : ∃ s, l[j]? = some s := ⟨_, List.getElem?_eq_getElem (by have := HN.out; omega)⟩
      obtain ⟨p0, p1⟩ := p
      have o1 := Wig.spOk_pair l j _ _ HK.out ha (by rw [← hj]; exact hp)
      have o2 := Wig.spOk_one HK.out ha
      have o3 := Wig.spOk_one HK.out hp
      simp only [] at o1 o2 o3
      obtain ⟨b', off', e', hb', hp0, hp1⟩ := (HR.out.below KB.out).at_ hp
      injection e' with e'
      injection e' with e1 e2
      subst e1 e2
      obtain ⟨b'', off'', e', hb'', ha0, ha1⟩ := (HR.out.below KB.out).at_ ha
      injection e' with e'
      injection e' with e1 e2
      subst e1 e2
      simp only [] at hp0 hp1 ha0 ha1
      obtain ⟨y1, hy1⟩ : ∃ y1, y1 = p0 - a1 := ⟨_, rfl⟩
      obtain ⟨y2, hy2⟩ : ∃ y2, y2 = y1 - 1 := ⟨_, rfl⟩
      obtain ⟨y3, hy3⟩ : ∃ y3, y3 = a1 - a0 := ⟨_, rfl⟩
      obtain ⟨y4, hy4⟩ : ∃ y4, y4 = y3 - 1 := ⟨_, rfl⟩
      have f1 : IntKind.u64.wrap ((p0 : Int) - (a1 : Int)) = (y1 : Int) := by rw [IntKind.wrap_u64]; omega
      have f2 : IntKind.u64.wrap ((y1 : Int) - 1) = (y2 : Int) := by rw [IntKind.wrap_u64]; omega
      have f3 : IntKind.u64.wrap ((a1 : Int) - (a0 : Int)) = (y3 : Int) := by rw [IntKind.wrap_u64]; omega
      have f4 : IntKind.u64.wrap ((y3 : Int) - 1) = (y4 : Int) := by rw [IntKind.wrap_u64]; omega
      have ej : (k : Int) - 1 = (j : Int) := by omega
      rw [ej]
      have g1 : IntKind.i64.wrap ((j : Int) + 1) = (k : Int) := by rw [IntKind.wrap_i64]; omega
      have i1 : (0 : Int) ≤ (k : Int) := by omega
      have i2 : (k : Int) < (n : Int) := by omega
      have i3 : (0 : Int) ≤ (j : Int) := by omega
      have i4 : (j : Int) < (n : Int) := by omega
      have t1 : decide ((0 : Int) ≤ (j : Int)) = true := decide_eq_true i3
      have HSZ := Lib.hid KB.out.size
      have lb : b < wn.heap.size := hb'
      have lw : w.heap.size < wn.heap.size := by have := HB.out; omega
      have k9 := (KB.out.cell (p := ⟨w.heap.size, 9, none⟩) lw).trans K9.out
      have HLL := Lib.hid (show L.length ≤ 68 by omega)
      have hgaps : Wig.gaps (p0, p1) (l.take k).reverse = [y2, y4] ++ Wig.gaps (a0, a1) (l.take j).reverse := by
        rw [hj, Wig.take_rev ha, Wig.gaps, hy2, hy1, hy4, hy3]
        rfl
      have HG := Lib.hid (show (L ++ [y2, y4]) ++ Wig.gaps (a0, a1) (l.take j).reverse = k0 :: Wig.spNums l by rw [List.append_assoc, ← hgaps]; exact heq)
      have HA2 := Lib.hid (And.intro ha (And.intro hj (show (L ++ [y2, y4]).length ≤ 4 + 2 * (n - j) by simp; omega)))
      clear hp hown heq hbel hLl hk0' ha o1 o2 o3 hb' hb'' hy1 hy2 hy3 hy4 hgaps ej hk hj
      go_wp2_with fail
      go_region_held3 (fun w' => w'.cell? ⟨w.heap.size, 9, none⟩ = some (.slice (some ⟨b, off, none⟩) n sc) ∧ w'.cell? ⟨b, off + k * 2, none⟩ = some (.int .u64 (p0 : Int)) ∧ w'.cell? ⟨b, off + j * 2, none⟩ = some (.int .u64 (a0 : Int)) ∧ w'.cell? ⟨b, off + j * 2 + 1, none⟩ = some (.int .u64 (a1 : Int)))
        (first
          | go_keep
          | exact ⟨(KW.out.cell lw).trans k9, (KW.out.cell lb).trans hp0, (KW.out.cell lb).trans ha0, (KW.out.cell lb).trans ha1⟩
          | fail)
        ((refine step_append_lies _ (by rfl) _ _ _ (by rfl) wn.heap.size 22 i0 _ 1 8 Tryd.underlying51 hi hz0 hz1 hz2 rfl (by omega) _ _ _ (by rfl) (World.ownsRow.alloc (w := wr) KO.out _) ⟨wr.heap.size, 0, none⟩ 2 2 (ncells .u64 [y2, y4]) (by rfl) (by rfl) (cell_two_u64 wr y2 y4) (ncells_one .u64 [y2, y4]) (by omega) (by have := HLL.out; unfold maxLen; omega) (by have := HLL.out; omega) (by have := HSZ.out; simp; omega) (wr.heap.size + 1) (by simp) ?_; intro gg cap w3 hown1 hgrow hat hlt2; have KW := Lib.hid (grown_by hgrow HSZ.out (fun q hq => (KO.out.block q hq).1))))
      have R : RlaRel k0 l wn (.slice (some ⟨gg, 0, none⟩) (L.length + 2) cap) (.int .i64 ((j : Int) - 1)) w3 := by
        refine ⟨j, L ++ [y2, y4], (a0, a1), by have := HA2.out.2.1; have := HN.out; omega, rfl, HA2.out.1, ?_, HG.out, KB.out.trans KW.out, by rw [← HN.out]; exact HA2.out.2.2⟩
        unfold OwnN
        rw [ncells_app, List.length_append]
        exact hown1
      have R' := Lib.hid R
      have HJ := Lib.hid HA2.out.2.1
      clear hown1 hgrow hat hlt2 R k9
      go_wp2_with fail
      go_roundw
      case rel => exact R'.out
      case measure => simp [intOf]
    · obtain rfl : k = 0 := by omega
      have t1 : decide ((0 : Int) ≤ ((0 : Nat) : Int) - 1) = false := by decide
      rw [List.take_zero, List.reverse_nil, Wig.gaps, List.append_nil] at heq
      subst heq
      have lw : w.heap.size < wn.heap.size := by have := HB.out; omega
      have k5 := (KB.out.cell (p := ⟨w.heap.size, 5, none⟩) lw).trans K5.out.2.1
      have LW := Lib.hid lw
      have L1 := Lib.hid (show (k0 :: Wig.spNums l).length ≤ 100 by have := HN.out; omega)
      clear hp hbel hLl hk0' hk hown lw
      go_wp2_with (at_builtin; refine wpList_append_u64 rfl _ _ rfl wn.heap.size u5 (k0 :: Wig.spNums l) f.delay (by rfl) KO.out rfl (by have := L1.out; omega) KB.out.size ?_)
      intro v2 w2 hown2 hb2
      have O2 := Lib.hid hown2
      have B2 := Lib.hid (KB.out.trans hb2)
      have k0c := (B2.out.cell (p := ⟨w.heap.size, 0, none⟩) LW.out).trans K5.out.1
      have k6 := (B2.out.cell (p := ⟨w.heap.size, 6, none⟩) LW.out).trans K5.out.2.2
      clear hown2 hb2 k5
      have L2 := Lib.hid (show ((k0 :: Wig.spNums l) ++ [f.delay]).length ≤ 101 by have := L1.out; simp at this ⊢; omega)
      go_wp2_with (at_builtin; refine wpList_append_u64 rfl _ _ rfl wn.heap.size v2 ((k0 :: Wig.spNums l) ++ [f.delay]) f.ce (by rfl) O2.out rfl (by have := L2.out; omega) B2.out.size ?_)
      intro v3 w3 hown3 hb3
      have B3 := Lib.hid (B2.out.trans hb3)
      have R := Lib.hid (show OwnN .u64 22 w3 w.heap.size v3 ((k0 :: Wig.spNums f.spans) ++ [f.delay, f.ce]) ∧ Below w.heap.size w w3 from ⟨by rw [← HE.out]; simpa using hown3.base_le (base' := w.heap.size) (by have := HB.out; omega), HB.out.2.2.trans (B3.out.mono (by have := HB.out; omega))⟩)
      clear hown3 hb3 k6 k0c
      go_wp2_with fail
      go_ret
      exact ⟨_, rfl, R.out⟩
end Go.Proofs.YtogioabdijgglaaDoor
