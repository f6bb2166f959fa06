/-
  The document's comparers at frames that are the same: they say so. No condition.
-/
import Derived.Test.YtogioabdijgglaaDoorAll
namespace Go.Proofs.YtogioabdijgglaaDoor
open Go.ChangeShapes Go.WideShapes Go.ChangeAt Go.RowKit Go.Deep
set_option linter.unusedVariables false
attribute [local go_sem ↓] Go.wp_at_zero Go.wp_at_succ

/-- 'string(b)' of bytes, wherever they lie. -/
theorem conv_any {P : Program} {w : World} {B : Nat} {A : Option Addr} {xs : List Nat} {src e dst : TypeId} (hs : P.underlying src = some (.slice e)) (he : P.underlying e = some (.int .u8)) (hd : P.underlying dst = some .string)
    (h : RdN .u8 w B A xs) (n c : Nat) (hn : n = xs.length) : (convert src dst (.slice A n c)).run P w = .ok (.string (str xs)) w := by
  by_cases hx : xs = []
  · subst hx
    cases A with
    | none => exact conv_str hs he hd h (fun _ => rfl) n c hn
    | some a =>
      subst hn
      have hl : (loadCells a 0).run P w = .ok (([] : List Int).map (Value.int .u8)).toArray w := by simpa using run_loadCells_list (P := P) w a [] (by simp)
      rw [List.length_nil, run_convert_bytes_string w src dst e _ 0 c hs he hd, run_bytesToString w _ 0 c [] hl, foldl_push_bytes]
      rfl
  · exact conv_str hs he hd h (fun h => absurd h hx) n c hn
theorem span_guard : Tryd.prog.eqGuardType Tryd.prog.depth 42 = false := by kernel_rfl
theorem span_ne (p0 p1 : Nat) (w : World) : (binOp .neq 42 (.agg #[.int .u64 (p0 : Int), .int .u64 (p1 : Int)]) (.agg #[.int .u64 (p0 : Int), .int .u64 (p1 : Int)])).run Tryd.prog w = .ok (.bool false) w := by
  have u := Tryd.underlying22
  have a := Tryd.isAgg22
  have z := Tryd.sizeOf22
  have hS : Tryd.prog.underlying 42 = some (.struct (Tryd.prog.fieldsOf 42)) := by kernel_rfl
  have hp : Tryd.prog.stoodInHeld 42 = false := by kernel_rfl
  rw [run_neq_struct, show (10000 : Nat) = 9999 + 1 from rfl, run_equalIn_agg w 9999 42 _ _ hS hp]
  simp only [Program.fieldsOf, Tryd.underlying42]
  go_simp

def SpEqRel (n : Nat) (w : World) (i : Value) (wr : World) : Prop := ∃ k : Nat, k ≤ n ∧ i = .int .i64 (k : Int) ∧ Below w.heap.size w wr
set_option maxHeartbeats 1000000 in
theorem spans_same (A A2 : Option Addr) (n c c2 : Nat) (l : List Wig.Spn) (w : World) (hn : n = l.length) (hm : n ≤ 100000) (h1 : RdS w w.heap.size A l) (h2 : RdS w w.heap.size A2 l) :
    Calls Tryd.prog 33 #[.slice A n c, .slice A2 n c2] w fun e w' => e = .returned (.bool true) ∧ Below w.heap.size w w' := by
  have H1 := Lib.hid h1
  have H2 := Lib.hid h2
  have HN := Lib.hid hn
  have t : ((n : Int) != (n : Int)) = false := by simp
  have g := span_guard
  clear h1 h2 hn
  go_enter Tryd.func33, Tryd.ntmps33
  go_wp2_with fail
  go_loopw [5] (fun i wr => SpEqRel n w i wr) (fun i _ => n - (intOf i).toNat)
  case atStart => exact ⟨0, Nat.zero_le _, rfl, Below.refl _ _⟩
  case round =>
    obtain ⟨k, hk, rfl, hbel⟩ := hrel
    have KB := Lib.hid hbel
    by_cases hlt : k < n
    · obtain ⟨⟨p0, p1⟩, hp⟩ : ∃ p, l[k]? = some p := ⟨_, List.getElem?_eq_getElem (by have := HN.out; omega)⟩
      obtain ⟨b, off, rfl, _, c0, c1⟩ := (H1.out.below hbel).at_ hp
      obtain ⟨b2, off2, rfl, _, d0, d1⟩ := (H2.out.below hbel).at_ hp
      simp only [] at c0 c1 d0 d1
      have i0 : (0 : Int) ≤ (k : Int) := by omega
      have i1 : (k : Int) < (n : Int) := by omega
      have ne := span_ne p0 p1
      have R := Lib.hid fun nq => (show SpEqRel n w (.int .i64 ((k : Int) + 1)) (wr.drewN nq) from ⟨k + 1, hlt, rfl, below_drewN' KB.out nq⟩)
      clear hp hbel
      go_wp2_with fail
      go_quiet (fail)
      go_wp2_with fail
      go_roundw
      case rel => exact R.out _
      case measure => simp [intOf]; omega
    · have t2 : decide (k < n) = false := decide_eq_false hlt
      clear hbel hk hlt
      go_wp2_with fail
      go_ret
      exact ⟨rfl, KB.out⟩

set_option maxRecDepth 20000 in
set_option maxHeartbeats 4000000 in
theorem same_any (f : Wig.Fr) (D E S T : Option Addr) (dc ec sc tc : Nat) (w : World) (h1 : Lies w w.heap.size f D dc S sc) (h2 : Lies w w.heap.size f E ec T tc) (h5 : f.spans.length ≤ 100000) :
    Calls Tryd.prog 15 #[.agg #[.int .i64 f.kind, .int .u64 (f.id : Int), .int .u64 (f.off : Int), .int .u64 (f.max : Int), .int .u64 (f.code : Int), .int .u64 (f.delay : Int), .int .u64 (f.ce : Int), .bool f.fin, .slice D f.data.length dc, .slice S f.spans.length sc], .agg #[.int .i64 f.kind, .int .u64 (f.id : Int), .int .u64 (f.off : Int), .int .u64 (f.max : Int), .int .u64 (f.code : Int), .int .u64 (f.delay : Int), .int .u64 (f.ce : Int), .bool f.fin, .slice E f.data.length ec, .slice T f.spans.length tc]] w fun e w' => e = .returned (.bool true) ∧ Below w.heap.size w w' := by
  obtain ⟨w1, hw1⟩ : ∃ w1, w1 = w.alloc (.cells (farr f D dc S sc) 26) := ⟨_, rfl⟩
  obtain ⟨w2, hw2⟩ : ∃ w2, w2 = w1.alloc (.cells (farr f E ec T tc) 26) := ⟨_, rfl⟩
  have hb1 : Below w.heap.size w w1 := by rw [hw1]; exact (Below.refl _ _).alloc (Nat.le_refl _) _
  have hb2 : Below w1.heap.size w1 w2 := by rw [hw2]; exact (Below.refl _ _).alloc (Nat.le_refl _) _
  have hb := below_trans' hb1 hb2
  have z1 : w1.heap.size = w.heap.size + 1 := by rw [hw1]; simp
  have a1 : At w2 w.heap.size 0 f D dc S sc := by
    have : At w1 w.heap.size 0 f D dc S sc := by rw [hw1]; exact at_box w f D dc S sc 26
    exact this.below hb2
  have a2 : At w2 (w.heap.size + 1) 0 f E ec T tc := by rw [hw2, ← z1]; exact at_box w1 f E ec T tc 26
  have SP := Lib.hid (spans_same S T f.spans.length sc tc f.spans w2 rfl h5 (h1.step hb).sr (h2.step hb).sr)
  have L := Lib.hid (And.intro (h1.step hb) (h2.step hb))
  have B2 := Lib.hid hb
  have AT := Lib.hid (And.intro a1 a2)
  have Z := Lib.hid (show w.heap.size + 1 < w2.heap.size by rw [hw2]; simp; omega)
  clear h1 h2 hb1 hb2 hb a1 a2 z1 h5
  simp only [farr] at hw1 hw2
  go_enter Tryd.func15, Tryd.ntmps15
  go_upto_region 1 with fail
  rw [← hw1, ← hw2]
  clear hw1 hw2
  have s1 := AT.out.1.c9
  have s2 := AT.out.2.c9
  simp only [Nat.zero_add] at s1 s2
  go_wp2_with fail
  refine (SP.out).mono ?_
  rintro e w3 ⟨rfl, hb3⟩
  have B3 := Lib.hid (below_trans' B2.out hb3)
  obtain ⟨k0, k1, k2, k3, k4, k5, k6, k7, k8, k9, -⟩ := at_ten AT.out.1 (by have := Z.out; omega) hb3
  obtain ⟨m0, m1, m2, m3, m4, m5, m6, m7, m8, m9, -⟩ := at_ten AT.out.2 Z.out hb3
  have hcv := conv_any (P := Tryd.prog) (src := 23) (e := 5) (dst := 9) Tryd.underlying23 Tryd.underlying5 Tryd.underlying9 (L.out.1.step hb3).dr f.data.length dc rfl
  have hcw := conv_any (P := Tryd.prog) (src := 23) (e := 5) (dst := 9) Tryd.underlying23 Tryd.underlying5 Tryd.underlying9 (L.out.2.step hb3).dr f.data.length ec rfl
  obtain ⟨sb, hsb⟩ : ∃ sb, sb = str f.data := ⟨_, rfl⟩
  rw [← hsb] at hcv hcw
  clear hb3 s1 s2 hsb SP
  go_wp2_with fail
  go_ret
  exact ⟨rfl, B3.out⟩

theorem twenty_at {wr w' : World} {b b2 p q : Nat} {f : Wig.Fr} {D E S T : Option Addr} {dc ec sc tc : Nat} (h1 : At wr b p f D dc S sc) (h2 : At wr b2 q f E ec T tc) (hl : b < wr.heap.size ∧ b2 < wr.heap.size) (hb : Below wr.heap.size wr w') :
    w'.cell? ⟨b, p, none⟩ = some (.int .i64 f.kind) ∧ w'.cell? ⟨b, p + 1, none⟩ = some (.int .u64 (f.id : Int)) ∧ w'.cell? ⟨b, p + 2, none⟩ = some (.int .u64 (f.off : Int)) ∧ w'.cell? ⟨b, p + 3, none⟩ = some (.int .u64 (f.max : Int)) ∧ w'.cell? ⟨b, p + 4, none⟩ = some (.int .u64 (f.code : Int)) ∧ w'.cell? ⟨b, p + 5, none⟩ = some (.int .u64 (f.delay : Int)) ∧ w'.cell? ⟨b, p + 6, none⟩ = some (.int .u64 (f.ce : Int)) ∧ w'.cell? ⟨b, p + 7, none⟩ = some (.bool f.fin) ∧ w'.cell? ⟨b, p + 8, none⟩ = some (.slice D f.data.length dc) ∧ w'.cell? ⟨b, p + 9, none⟩ = some (.slice S f.spans.length sc) ∧ w'.cell? ⟨b2, q, none⟩ = some (.int .i64 f.kind) ∧ w'.cell? ⟨b2, q + 1, none⟩ = some (.int .u64 (f.id : Int)) ∧ w'.cell? ⟨b2, q + 2, none⟩ = some (.int .u64 (f.off : Int)) ∧ w'.cell? ⟨b2, q + 3, none⟩ = some (.int .u64 (f.max : Int)) ∧ w'.cell? ⟨b2, q + 4, none⟩ = some (.int .u64 (f.code : Int)) ∧ w'.cell? ⟨b2, q + 5, none⟩ = some (.int .u64 (f.delay : Int)) ∧ w'.cell? ⟨b2, q + 6, none⟩ = some (.int .u64 (f.ce : Int)) ∧ w'.cell? ⟨b2, q + 7, none⟩ = some (.bool f.fin) ∧ w'.cell? ⟨b2, q + 8, none⟩ = some (.slice E f.data.length ec) ∧ w'.cell? ⟨b2, q + 9, none⟩ = some (.slice T f.spans.length tc) :=
  ⟨(hb.cell hl.1).trans h1.c0, (hb.cell hl.1).trans h1.c1, (hb.cell hl.1).trans h1.c2, (hb.cell hl.1).trans h1.c3, (hb.cell hl.1).trans h1.c4, (hb.cell hl.1).trans h1.c5, (hb.cell hl.1).trans h1.c6, (hb.cell hl.1).trans h1.c7, (hb.cell hl.1).trans h1.c8, (hb.cell hl.1).trans h1.c9, (hb.cell hl.2).trans h2.c0, (hb.cell hl.2).trans h2.c1, (hb.cell hl.2).trans h2.c2, (hb.cell hl.2).trans h2.c3, (hb.cell hl.2).trans h2.c4, (hb.cell hl.2).trans h2.c5, (hb.cell hl.2).trans h2.c6, (hb.cell hl.2).trans h2.c7, (hb.cell hl.2).trans h2.c8, (hb.cell hl.2).trans h2.c9⟩
/-- At SameAll's round's head. -/
def SaRel (n : Nat) (w : World) (i : Value) (wr : World) : Prop := ∃ k : Nat, k ≤ n ∧ i = .int .i64 (k : Int) ∧ Below w.heap.size w wr
theorem held_twenty {X : Prop} {B : Nat} {w1 w' : World} (h : X ∧ Below B w1 w') : Below B w1 w' := h.2

set_option maxRecDepth 20000 in
set_option maxHeartbeats 4000000 in
theorem sameAll_any (A A2 : Option Addr) (n c c2 : Nat) (es ds : List FV) (w : World) (hn : n = es.length) (hd : n = ds.length) (hm : n ≤ 100000) (h1 : RdF w w.heap.size A es) (h2 : RdF w w.heap.size A2 ds) (l1 : LiesAll w w.heap.size es) (l2 : LiesAll w w.heap.size ds) (hs : es.map FV.f = ds.map FV.f) (h5 : ∀ e ∈ es, e.f.spans.length ≤ 100000) :
    Calls Tryd.prog 16 #[.slice A n c, .slice A2 n c2] w fun e w' => e = .returned (.bool true) ∧ Below w.heap.size w w' := by
  have H1 := Lib.hid h1
  have H2 := Lib.hid h2
  have L1 := Lib.hid l1
  have L2 := Lib.hid l2
  have HS := Lib.hid hs
  have HN := Lib.hid (And.intro hn hd)
  have t : ((n : Int) != (n : Int)) = false := by simp
  have H5 := Lib.hid h5
  clear h1 h2 l1 l2 hs hn hd h5
  go_enter Tryd.func16, Tryd.ntmps16
  go_wp2_with fail
  go_loopw [5] (fun i wr => SaRel n w i wr) (fun i _ => n - (intOf i).toNat)
  case atStart => exact ⟨0, Nat.zero_le _, rfl, Below.refl _ _⟩
  case round =>
    obtain ⟨k, hk, rfl, hbel⟩ := hrel
    have KB := Lib.hid hbel
    by_cases hlt : k < n
    · obtain ⟨⟨f, D, dc, S, sc⟩, hp⟩ : ∃ p, es[k]? = some p := ⟨_, List.getElem?_eq_getElem (by have := HN.out.1; omega)⟩
      obtain ⟨⟨f2, E, ec, T, tc⟩, hq⟩ : ∃ p, ds[k]? = some p := ⟨_, List.getElem?_eq_getElem (by have := HN.out.2; omega)⟩
      have hff : f2 = f := by
        have e := congrArg (fun l => l[k]?) HS.out
        simp only [List.getElem?_map, hp, hq, Option.map_some, Option.some.injEq] at e
        exact e.symm
      subst hff
      obtain ⟨b, off, rfl, hb, hc⟩ := (H1.out.below hbel) (by intro e; rw [e] at hp; simp at hp)
      obtain ⟨b2, off2, rfl, hb2, hc2⟩ := (H2.out.below hbel) (by intro e; rw [e] at hq; simp at hq)
      have a1 := hc k _ hp
      have a2 := hc2 k _ hq
      have q1 := (L1.out.step KB.out) _ (List.mem_of_getElem? hp)
      have q2 := (L2.out.step KB.out) _ (List.mem_of_getElem? hq)
      have q5 := H5.out _ (List.mem_of_getElem? hp)
      simp only [] at a1 a2 q1 q2 q5
      have i0 : (0 : Int) ≤ (k : Int) := by omega
      have i1 : (k : Int) < (n : Int) := by omega
      have SA := Lib.hid fun (w1 : World) (hb : Below wr.heap.size wr w1) => same_any f2 D E S T dc ec sc tc w1 (q1.step hb) (q2.step hb) q5
      have A1 := Lib.hid a1
      have A2' := Lib.hid a2
      have HLT := Lib.hid hlt
      have LB := Lib.hid (And.intro (Nat.lt_of_lt_of_le hb hbel.size) (Nat.lt_of_lt_of_le hb2 hbel.size))
      clear hp hq hc hc2 hb hb2 a1 a2 q1 q2 q5 hbel hk
      go_wp2_with fail
      go_region_held3 (fun w' => (w'.cell? ⟨b, off + k * 10, none⟩ = some (.int .i64 f2.kind) ∧ w'.cell? ⟨b, off + k * 10 + 1, none⟩ = some (.int .u64 (f2.id : Int)) ∧ w'.cell? ⟨b, off + k * 10 + 2, none⟩ = some (.int .u64 (f2.off : Int)) ∧ w'.cell? ⟨b, off + k * 10 + 3, none⟩ = some (.int .u64 (f2.max : Int)) ∧ w'.cell? ⟨b, off + k * 10 + 4, none⟩ = some (.int .u64 (f2.code : Int)) ∧ w'.cell? ⟨b, off + k * 10 + 5, none⟩ = some (.int .u64 (f2.delay : Int)) ∧ w'.cell? ⟨b, off + k * 10 + 6, none⟩ = some (.int .u64 (f2.ce : Int)) ∧ w'.cell? ⟨b, off + k * 10 + 7, none⟩ = some (.bool f2.fin) ∧ w'.cell? ⟨b, off + k * 10 + 8, none⟩ = some (.slice D f2.data.length dc) ∧ w'.cell? ⟨b, off + k * 10 + 9, none⟩ = some (.slice S f2.spans.length sc) ∧ w'.cell? ⟨b2, off2 + k * 10, none⟩ = some (.int .i64 f2.kind) ∧ w'.cell? ⟨b2, off2 + k * 10 + 1, none⟩ = some (.int .u64 (f2.id : Int)) ∧ w'.cell? ⟨b2, off2 + k * 10 + 2, none⟩ = some (.int .u64 (f2.off : Int)) ∧ w'.cell? ⟨b2, off2 + k * 10 + 3, none⟩ = some (.int .u64 (f2.max : Int)) ∧ w'.cell? ⟨b2, off2 + k * 10 + 4, none⟩ = some (.int .u64 (f2.code : Int)) ∧ w'.cell? ⟨b2, off2 + k * 10 + 5, none⟩ = some (.int .u64 (f2.delay : Int)) ∧ w'.cell? ⟨b2, off2 + k * 10 + 6, none⟩ = some (.int .u64 (f2.ce : Int)) ∧ w'.cell? ⟨b2, off2 + k * 10 + 7, none⟩ = some (.bool f2.fin) ∧ w'.cell? ⟨b2, off2 + k * 10 + 8, none⟩ = some (.slice E f2.data.length ec) ∧ w'.cell? ⟨b2, off2 + k * 10 + 9, none⟩ = some (.slice T f2.spans.length tc)) ∧ Below wr.heap.size wr w')
        (first
          | exact ⟨twenty_at A1.out A2'.out LB.out (Below.refl _ _).drew, (Below.refl _ _).drew⟩
          | exact ⟨twenty_at A1.out A2'.out LB.out KK.out, KK.out⟩
          | fail)
        (first
          | (go_at_call 15; refine (SA.out _ ?_).mono ?_; (exact held_twenty (by assumption)); rintro e wa ⟨rfl, hba⟩; have KK := Lib.hid (below_trans' (held_twenty (by assumption)) hba); clear hba)
          | fail)
      have R : SaRel n w (.int .i64 ((k : Int) + 1)) wa := ⟨k + 1, HLT.out, rfl, KB.out.trans (KK.out.mono KB.out.size)⟩
      have R' := Lib.hid R
      clear R
      go_wp2_with fail
      go_roundw
      case rel => exact R'.out
      case measure => have := HLT.out; simp [intOf]; omega
    · have t2 : decide (k < n) = false := decide_eq_false hlt
      clear hbel hk hlt
      go_wp2_with fail
      go_ret
      exact ⟨rfl, KB.out⟩
end Go.Proofs.YtogioabdijgglaaDoor
