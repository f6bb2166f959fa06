/-
  The document's take(b, count): so many numbers that bytes begin with. Condition: the bytes have an address; at most a hundred numbers.
-/
import Derived.Test.YtogioabdijgglaaDoorRpn
import Derived.Test.YtogioabdijgglaaDoorVarE
import Derived.Test.YtogioabdijgglaaDoorRlk
import Derived.Test.YtogioabdijgglaaDoorRdA
namespace Wig
theorem rtake_none {i : Nat} {xs : List Nat} (h : rtake i xs = none) : ∀ c, i ≤ c → rtake c xs = none
  | c, hc => by
    rcases Nat.eq_or_lt_of_le hc with e | hlt
    · rw [← e]; exact h
    · obtain ⟨d, rfl⟩ : ∃ d, c = d + 1 := ⟨c - 1, by omega⟩
      rw [rtake_snoc]
      unfold pbind
      rw [rtake_none h d (by omega)]
theorem rtake_next {i p : Nat} {xs vs : List Nat} (h : rtake i xs = some (vs, xs.drop p)) : rtake (i + 1) xs = if vshort (xs.drop p) then none else some (vs ++ [vnum (xs.drop p)], xs.drop (p + vneed (xs.drop p))) := by
  rw [rtake_snoc]
  unfold pbind
  rw [h]
  simp only []
  unfold num1 pret
  cases vshort (xs.drop p) with
  | true => rfl
  | false => simp [List.drop_drop]
theorem drop_num {xs : List Nat} (hx : Bytes xs) (p : Nat) (hp : p ≤ xs.length) (h : vshort (xs.drop p) = false) : vnum (xs.drop p) < 4611686018427387904 ∧ p + vneed (xs.drop p) ≤ xs.length ∧ vlen (xs.drop p) = vneed (xs.drop p) ∧ vgot (xs.drop p) = 0 := by
  have h1 : num1 (xs.drop p) = some (vnum (xs.drop p), (xs.drop p).drop (vneed (xs.drop p))) := by unfold num1; rw [h]; rfl
  have f := num1_facts (hx.drop p) h1
  simp only [List.length_drop] at f
  refine ⟨f.1, by omega, ?_, ?_⟩
  · unfold vlen; rw [h]; rfl
  · unfold vgot; rw [h]; rfl
theorem short_num {xs : List Nat} (h : vshort xs = true) : vlen xs = 0 ∧ vgot xs = 30 ∧ vnum xs = 0 := by
  unfold vlen vgot vnum
  rw [h]
  exact ⟨rfl, rfl, rfl⟩
end Wig
namespace Go.Proofs.YtogioabdijgglaaDoor
open Go.ChangeShapes Go.WideShapes Go.ChangeAt Go.RowKit Go.Deep
set_option linter.unusedVariables false
/-- What take returns and leaves. -/
def TakeAt (xs : List Nat) (cnt : Nat) (w : World) (e : Ending) (w' : World) : Prop :=
  (Wig.rtake cnt xs = none ∧ e = .returned (.tuple #[.slice none 0 0, .int .i64 0, .bool false]) ∧ Below w.heap.size w w') ∨
  ∃ v p vs, Wig.rtake cnt xs = some (vs, xs.drop p) ∧ p ≤ xs.length ∧ e = .returned (.tuple #[v, .int .i64 (p : Int), .bool true]) ∧ OwnN .u64 22 w' w.heap.size v vs ∧ (∀ x ∈ vs, x < 4611686018427387904) ∧ Below w.heap.size w w'
/-- At take's round's head. -/
def RtkRel (xs : List Nat) (cnt : Nat) (w : World) (vo vp vi : Value) (wr : World) : Prop :=
  ∃ i p vs, i ≤ cnt ∧ vs.length = i ∧ p ≤ xs.length ∧ vi = .int .i64 (i : Int) ∧ vp = .int .i64 (p : Int) ∧ Wig.rtake i xs = some (vs, xs.drop p) ∧ OwnN .u64 22 wr w.heap.size vo vs ∧ (∀ x ∈ vs, x < 4611686018427387904) ∧ Below w.heap.size w wr
set_option maxHeartbeats 4000000 in
theorem rtake_any (ab ao n c cnt : Nat) (xs : List Nat) (w : World) (hx : Wig.Bytes xs) (hr : RdN .u8 w w.heap.size (some ⟨ab, ao, none⟩) xs) (hn : n = xs.length) (hl : n ≤ c) (hc : c ≤ maxLen) (hcnt : cnt ≤ 100) :
    Calls Tryd.prog 43 #[.slice (some ⟨ab, ao, none⟩) n c, .int .i64 (cnt : Int)] w (TakeAt xs cnt w) := by
  have A0 := Lib.hid (show RtkRel xs cnt w (.slice none 0 0) (.int .i64 0) (.int .i64 0) w from ⟨0, 0, [], Nat.zero_le _, rfl, Nat.zero_le _, rfl, rfl, rfl, World.ownsRow_nil _ _ _ _, (by simp), Below.refl _ _⟩)
  have HX := Lib.hid hx
  have HR := Lib.hid hr
  have HN := Lib.hid hn
  have HL := Lib.hid (And.intro hl hc)
  have HC := Lib.hid hcnt
  clear hx hr hn hl hc hcnt
  go_enter Tryd.func43, Tryd.ntmps43
  go_wp2_with fail
  go_loopw [7, 8, 9] (fun vo vp vi wr => RtkRel xs cnt w vo vp vi wr) (fun _ _ vi _ => cnt - (intOf vi).toNat)
  case atStart => exact A0.out
  case round =>
    obtain ⟨i, p, vs, hi, hvl, hp, rfl, rfl, htk, hown, hlt, hbel⟩ := hrel
    rw [← HN.out] at hp
    have KO := Lib.hid hown
    have KB := Lib.hid hbel
    have KT := Lib.hid htk
    have KV := Lib.hid (And.intro hlt hvl)
    clear A0
    by_cases hic : i < cnt
    · have t1 : decide ((i : Int) < (cnt : Int)) = true := decide_eq_true (by omega)
      have t1' : decide (i < cnt) = true := decide_eq_true hic
      have b1 : (0 : Int) ≤ (p : Int) := by omega
      have b2 : p ≤ n := hp
      have b3 : p ≤ c := by have := HL.out; omega
      have b4 : n ≤ c := HL.out.1
      have HI := Lib.hid hic
      by_cases hcp : c = p
      · have hnp : n = p := by omega
        subst hcp hnp
        have hd : xs.drop n = [] := List.drop_eq_nil_of_le (by have := HN.out; omega)
        have C := Lib.hid (rget_any (some ⟨ab, ao, none⟩) 0 0 [] wr (by intro x hx; cases hx) RdN.empty rfl (Nat.le_refl _) (Nat.zero_le _))
        have hno := Wig.rtake_next htk
        rw [hd, if_pos (show Wig.vshort [] = true from rfl)] at hno
        have R := Lib.hid (show Wig.rtake cnt xs = none from Wig.rtake_none hno cnt (by omega))
        clear hown hbel htk hlt hvl hi hic hno hd hp b2 b3 b4
        go_wp2_with fail
        refine (C.out).mono ?_
        rintro e w1 ⟨rfl, rfl⟩
        have e1 : ((Wig.vgot [] : Nat) : Int) = 30 := rfl
        have e2 : ((Wig.vlen [] : Nat) : Int) = 0 := rfl
        have e3 : ((Wig.vnum [] : Nat) : Int) = 0 := rfl
        rw [e1, e2, e3]
        clear e1 e2 e3
        go_wp2_with fail
        go_ret3
        exact .inl ⟨R.out, rfl, KB.out⟩
      · have hrp : RdN .u8 wr wr.heap.size (some ⟨ab, ao + p, none⟩) (xs.drop p) := RdN.drop (HR.out.below hbel |>.wide hbel.size) p
        have C := Lib.hid (rget_any (some ⟨ab, ao + p, none⟩) (n - p) (c - p) (xs.drop p) wr (HX.out.drop p) hrp (by rw [List.length_drop, ← HN.out]) (by omega) (by have := HL.out; omega))
        unfold GetsAt at C
        cases hsh : Wig.vshort (xs.drop p) with
        | true =>
          obtain ⟨e1, e2, e3⟩ := Wig.short_num hsh
          rw [e1, e2, e3] at C
          have hno := Wig.rtake_next htk
          rw [hsh, if_pos rfl] at hno
          have R := Lib.hid (show Wig.rtake cnt xs = none from Wig.rtake_none hno cnt (by omega))
          clear hown hbel htk hlt hvl hi hic hno hp hrp hsh e1 e2 e3
          go_wp2_with fail
          refine (C.out).mono ?_
          rintro e w1 ⟨rfl, rfl⟩
          go_wp2_with fail
          go_ret3
          exact .inl ⟨R.out, rfl, KB.out⟩
        | false =>
          obtain ⟨hv62, hpn, e2, e3⟩ := Wig.drop_num HX.out p (by rw [← HN.out]; exact hp) hsh
          have hno := Wig.rtake_next htk
          rw [hsh, if_neg (by decide)] at hno
          rw [e2, e3] at C
          generalize Wig.vnum (xs.drop p) = x at *
          generalize Wig.vneed (xs.drop p) = s at *
          have g1 : IntKind.i64.wrap ((i : Int) + 1) = ((i : Int) + 1) := by rw [IntKind.wrap_i64]; have := HC.out; omega
          have g2 : IntKind.i64.wrap ((p : Int) + (s : Int)) = ((p + s : Nat) : Int) := by rw [IntKind.wrap_i64]; have q1 := HL.out; have q2 := HN.out; unfold maxLen at q1; omega
          have R := Lib.hid fun v2 w2 (ho : OwnN .u64 22 w2 w.heap.size v2 (vs ++ [x])) (hb : Below w.heap.size w w2) => (show RtkRel xs cnt w v2 (.int .i64 ((p + s : Nat) : Int)) (.int .i64 ((i : Int) + 1)) w2 from
            ⟨i + 1, p + s, vs ++ [x], hic, by simp [hvl], hpn, by simp, rfl, hno, ho, (by intro y hy; rcases List.mem_append.1 hy with h | h; exact hlt y h; rw [List.mem_singleton.1 h]; exact hv62), hb⟩)
          clear hown hbel htk hlt hvl hi hic hno hp hrp hsh e2 e3 hv62 hpn
          obtain ⟨q, hq⟩ : ∃ q, q = p + s := ⟨_, rfl⟩
          rw [← hq] at g2 R
          clear hq
          go_wp2_with fail
          refine (C.out).mono ?_
          rintro e w1 ⟨rfl, rfl⟩
          clear C
          go_wp2_with (at_builtin; refine wpList_append_u64 rfl _ _ rfl w.heap.size u7 vs x (by rfl) KO.out rfl (by have := KV.out.2; have := HC.out; have := HI.out; omega) KB.out.size ?_)
          intro v2 w2 hown2 hb2
          have R' := Lib.hid (R.out v2 w2 hown2 (KB.out.trans hb2))
          clear hown2 hb2 R
          go_wp2_with fail
          go_roundw
          case rel => exact R'.out
          case measure => have := HI.out; simp [intOf]; omega
    · obtain rfl : i = cnt := by omega
      have t1 : decide ((i : Int) < (i : Int)) = false := decide_eq_false (by omega)
      have t1' : decide (i < i) = false := decide_eq_false (by omega)
      have R := Lib.hid (show TakeAt xs i w (.returned (.tuple #[u7, .int .i64 (p : Int), .bool true])) wr from .inr ⟨u7, p, vs, htk, by rw [← HN.out]; exact hp, rfl, hown, hlt, hbel⟩)
      clear hown hbel htk hlt hvl hi hic hp
      go_wp2_with fail
      go_ret3
      exact R.out
end Go.Proofs.YtogioabdijgglaaDoor
