/-
  ProbeLows: the least time is that of the answers, and the best rate that of the rounds' window. Condition: the table of the phases' parts holds what the door laid.
-/
import Derived.Test.YtjojnbeflongkaaDoorPbW
import Derived.Test.YtjojnbeflongkaaDoorOpen
import Derived.Test.YtjojnbeflongkaaDoorLaidP
import Derived.Test.YtjojnbeflongkaaDoorByt
import Derived.Deep.CutBlock
import Derived.Deep.DeepCutAuto
namespace Go.Proofs.YtjojnbeflongkaaDoor.probeLows
open Go.ChangeShapes Go.WideShapes Go.ChangeAt Go.RowKit Go.Deep
set_option linter.unusedVariables false

def LoRel (p : Nat) (w : World) (nw lw mw i : Value) (wr : World) : Prop :=
  ∃ (k now low most : Nat) (s : Int) (A : Option Addr) (n c lo la fu sl ro ph si hi : Nat) (ss : List Wig.Smp), k ≤ 60 ∧ now ≤ 100 * k ∧ low < 18446744073709551616 ∧ most < 18446744073709551616 ∧ n ≤ k ∧
    nw = .int .u64 (now : Int) ∧ lw = .int .u64 (low : Int) ∧ mw = .int .u64 (most : Int) ∧ i = .int .i64 (k : Int) ∧ Wig.PLow low most ⟨s, ss, lo, la, fu, sl, ro, ph, si, hi⟩ ∧ Wig.Pb.Ok ⟨s, ss, lo, la, fu, sl, ro, ph, si, hi⟩ ∧
    BxPb p s A n c lo la fu sl ro ph si hi wr ∧ Rt wr (p + 1) wr.heap.size A n ss ∧ p < wr.heap.size ∧ w.heap.size ≤ p ∧ Below w.heap.size w wr

set_option maxRecDepth 20000 in
set_option maxHeartbeats 16000000 in
theorem walk (A1 : Option Addr) (c1 : Nat) (xs : List Nat) (A2 : Option Addr) (c2 : Nat) (ts : List Nat) (A3 : Option Addr) (c3 : Nat) (rs : List Nat) (hx1 : ∀ x ∈ xs, x < 256) (hl1 : xs.length ≤ c1) (hm1 : c1 ≤ maxLen) (hx2 : ∀ x ∈ ts, x < 65536) (hl2 : ts.length ≤ c2) (hm2 : c2 ≤ maxLen) (hx3 : ∀ x ∈ rs, x < 4294967296) (hl3 : rs.length ≤ c3) (hm3 : c3 ≤ maxLen) (w : World) (hr1 : RdN .u8 w w.heap.size A1 xs) (hr2 : RdN .u16 w w.heap.size A2 ts) (hr3 : RdN .u32 w w.heap.size A3 rs) (hT : Tab w) :
    Calls Tryd.prog 6 #[.slice A1 xs.length c1, .slice A2 ts.length c2, .slice A3 rs.length c3] w fun e w' => e = .returned (.bool true) ∧ Below w.heap.size w w' := by
  have C0 := Lib.hid (fun (w0 : World) (hb0 : Below w.heap.size w w0) => awake_any w0 (hT.below hb0))
  obtain ⟨m1, hmx1⟩ : ∃ m, m = xs.length := ⟨_, rfl⟩
  rw [← hmx1]
  rw [← hmx1] at hl1
  obtain ⟨m2, hmx2⟩ : ∃ m, m = ts.length := ⟨_, rfl⟩
  rw [← hmx2]
  rw [← hmx2] at hl2
  obtain ⟨m3, hmx3⟩ : ∃ m, m = rs.length := ⟨_, rfl⟩
  rw [← hmx3]
  rw [← hmx3] at hl3
  have HX1 := Lib.hid (And.intro hx1 hmx1)
  have HX2 := Lib.hid (And.intro hx2 hmx2)
  have HX3 := Lib.hid (And.intro hx3 hmx3)
  have HD1 := Lib.hid hr1
  have HD2 := Lib.hid hr2
  have HD3 := Lib.hid hr3
  have CN := Lib.hid (fun w0 => (show Calls Tryd.prog 15 #[.int .u64 0] w0 fun e w' => e = .returned (.agg #[.int .i64 0, .slice none 0 0, .int .u64 18446744073709551615, .int .u64 0, .int .u64 0, .int .u64 0, .int .u64 0, .int .u64 0, .int .u64 0, .int .u64 16777216]) ∧ Below w0.heap.size w0 w' from new_any 0 w0))
  clear hx1 hx2 hx3 hl1 hl2 hl3 hm1 hm2 hm3 hmx1 hmx2 hmx3 hr1 hr2 hr3 hT
  have B0 := Lib.hid (Below.refl w.heap.size w)
  go_enter Tryd.func6, Tryd.ntmps6
  go_wp2_with fail
  refine (C0.out _ B0.out).mono ?_
  rintro e w1 ⟨rfl, hb⟩
  have B1 := Lib.hid (below_trans' B0.out hb)
  clear hb B0
  go_wp2_with fail
  refine (CN.out _).mono ?_
  rintro e w2 ⟨rfl, hb⟩
  have B2 := Lib.hid (below_trans' B1.out hb)
  clear hb B1
  go_upto_region 3 with fail
  obtain ⟨w3, hw⟩ : ∃ wx, wx = w2.alloc (.cells #[.int .i64 0, .slice none 0 0, .int .u64 18446744073709551615, .int .u64 0, .int .u64 0, .int .u64 0, .int .u64 0, .int .u64 0, .int .u64 0, .int .u64 16777216] 26) := ⟨_, rfl⟩
  rw [← hw]
  obtain ⟨pP, hp⟩ : ∃ px, px = w2.heap.size := ⟨_, rfl⟩
  rw [← hp]
  have hb : Below w2.heap.size w2 w3 := by rw [hw]; exact (Below.refl _ _).alloc (Nat.le_refl _) _
  have hx : BxPb pP 0 none 0 0 18446744073709551615 0 0 0 0 0 0 16777216 w3 := by rw [hp, hw]; exact BxPb.new _ 0 none 0 0 18446744073709551615 0 0 0 0 0 0 16777216
  have hs : pP < w3.heap.size := by rw [hp, hw]; simp
  have GP := Lib.hid (show w.heap.size ≤ pP by rw [hp]; exact B2.out.size)
  have B3 := Lib.hid (below_trans' B2.out hb)
  clear hb B2
  have XP3 := Lib.hid hx
  have SP3 := Lib.hid hs
  clear hx hs hw hp
  have ST := Lib.hid (show LoRel pP w (.int .u64 0) (.int .u64 18446744073709551615) (.int .u64 0) (.int .i64 0) w3 from ⟨0, 0, 18446744073709551615, 0, 0, none, 0, 0, 18446744073709551615, 0, 0, 0, 0, 0, 0, 16777216, [], by omega, by omega, by decide, by decide, by omega, rfl, rfl, rfl, rfl, Wig.plow_new, Wig.pbnew_ok (n := 0) (by decide), XP3.out, Rt.empty, SP3.out, GP.out, B3.out⟩)
  go_wp2_with fail
  go_loopw [9, 10, 11, 12] (fun nw lw mw i wr => LoRel pP w nw lw mw i wr) (fun _ _ _ i _ => 60 - (intOf i).toNat)
  case atStart => exact ST.out
  case round =>
    obtain ⟨k, now, low, most, s, A, n, c, lo, la, fu, sl, ro, ph, si, hi, ss, hk, hnow, hlow, hmost, hnk, rfl, rfl, rfl, rfl, hpl, ok, hbx, hrt, hlt, hge, hbel⟩ := hrel
    have XP20 := Lib.hid hbx
    have SP20 := Lib.hid hlt
    have B20 := Lib.hid hbel
    have RT20 := Lib.hid hrt
    have LTP := Lib.hid (show pP < pP + 1 by omega)
    clear XP3 SP3 B3 ST hbx hlt hbel hrt hge
    by_cases a1 : k < m1
    · by_cases a2 : k < m2
      · by_cases a3 : k < m3
        · by_cases a4 : k < 60
          · have t1 : decide (k < m1) = true := decide_eq_true a1
            have t2 : decide (k < m2) = true := decide_eq_true a2
            have t3 : decide (k < m3) = true := decide_eq_true a3
            have t4 : decide ((k : Int) < 60) = true := decide_eq_true (by omega)
            obtain ⟨v1, hp1⟩ : ∃ v, xs[k]? = some v := ⟨_, List.getElem?_eq_getElem (by have := HX1.out.2; omega)⟩
            have hv1 := HX1.out.1 _ (List.mem_of_getElem? hp1)
            obtain ⟨bb1, off1, rfl, hbb1, ce1⟩ := HD1.out.at_ hp1
            have E1 := Lib.hid ce1
            have HBB1 := Lib.hid (show (⟨bb1, off1 + k, none⟩ : Addr).block < w.heap.size from hbb1)
            clear hp1 ce1 hbb1
            have i1a : (0 : Int) ≤ (k : Int) := by omega
            have i1b : (k : Int) < (m1 : Int) := by omega
            obtain ⟨v2, hp2⟩ : ∃ v, ts[k]? = some v := ⟨_, List.getElem?_eq_getElem (by have := HX2.out.2; omega)⟩
            have hv2 := HX2.out.1 _ (List.mem_of_getElem? hp2)
            obtain ⟨bb2, off2, rfl, hbb2, ce2⟩ := HD2.out.at_ hp2
            have E2 := Lib.hid ce2
            have HBB2 := Lib.hid (show (⟨bb2, off2 + k, none⟩ : Addr).block < w.heap.size from hbb2)
            clear hp2 ce2 hbb2
            have i2b : (k : Int) < (m2 : Int) := by omega
            obtain ⟨v3, hp3⟩ : ∃ v, rs[k]? = some v := ⟨_, List.getElem?_eq_getElem (by have := HX3.out.2; omega)⟩
            have hv3 := HX3.out.1 _ (List.mem_of_getElem? hp3)
            obtain ⟨bb3, off3, rfl, hbb3, ce3⟩ := HD3.out.at_ hp3
            have E3 := Lib.hid ce3
            have HBB3 := Lib.hid (show (⟨bb3, off3 + k, none⟩ : Addr).block < w.heap.size from hbb3)
            clear hp3 ce3 hbb3
            have i3b : (k : Int) < (m3 : Int) := by omega
            have cv1 : IntKind.u64.wrap (v1 : Int) = (v1 : Int) := by rw [IntKind.wrap_u64]; omega
            have cv2 : IntKind.u64.wrap (v2 : Int) = (v2 : Int) := by rw [IntKind.wrap_u64]; omega
            have cv3 : IntKind.u64.wrap (v3 : Int) = (v3 : Int) := by rw [IntKind.wrap_u64]; omega
            obtain ⟨r, hrr⟩ : ∃ r, r = v1 % 100 := ⟨_, rfl⟩
            have cr1 : (v1 : Int) % 100 = (r : Int) := by omega
            have cr2 : IntKind.u64.wrap (r : Int) = (r : Int) := by rw [IntKind.wrap_u64]; omega
            obtain ⟨now1, hn1⟩ : ∃ q, q = now + r := ⟨_, rfl⟩
            have cr3 : IntKind.u64.wrap ((now : Int) + (r : Int)) = (now1 : Int) := by rw [IntKind.wrap_u64]; omega
            obtain ⟨k1, hk1⟩ : ∃ k1, k1 = k + 1 := ⟨_, rfl⟩
            have q3 : IntKind.i64.wrap ((k : Int) + 1) = (k1 : Int) := by rw [IntKind.wrap_i64] <;> omega
            obtain ⟨low1, hl1⟩ : ∃ q, q = min low v2 := ⟨_, rfl⟩
            obtain ⟨most1, hm1⟩ : ∃ q, q = max most v3 := ⟨_, rfl⟩
            have mn : ∀ ts ty w, (Builtin.min_ ts ty #[.int .u64 (low : Int), .int .u64 (v2 : Int)]).run Tryd.prog w = .ok (.int .u64 (low1 : Int)) w := by
              intro ts ty w
              rw [run_min_int2, show (if (v2 : Int) < (low : Int) then (v2 : Int) else (low : Int)) = (low1 : Int) by split <;> omega]
            have mx : ∀ ts ty w, (Builtin.max_ ts ty #[.int .u64 (most : Int), .int .u64 (v3 : Int)]).run Tryd.prog w = .ok (.int .u64 (most1 : Int)) w := by
              intro ts ty w
              rw [run_max_int2, show (if (v3 : Int) > (most : Int) then (v3 : Int) else (most : Int)) = (most1 : Int) by split <;> omega]
            have hg : Wig.Gt.Ok ⟨now1, 0, 0, 0, 0, v2, 0, v3, false, false⟩ := got_ok (by omega) (by decide) (by decide) (by decide) (by decide) (by omega) (by decide) (by omega)
            obtain ⟨⟨s', ss', lo', la', fu', sl', ro', ph', si', hi'⟩, hack⟩ : ∃ q, Wig.pback ⟨s, ss, lo, la, fu, sl, ro, ph, si, hi⟩ ⟨now1, 0, 0, 0, 0, v2, 0, v3, false, false⟩ = q := ⟨_, rfl⟩
            have hpl1 : Wig.PLow low1 most1 ⟨s', ss', lo', la', fu', sl', ro', ph', si', hi'⟩ := by rw [← hack, hl1, hm1]; exact Wig.plow_ack hpl (by omega) 0 0 0 0 0
            have ok1 : Wig.Pb.Ok ⟨s', ss', lo', la', fu', sl', ro', ph', si', hi'⟩ := by rw [← hack]; exact Wig.pback_ok ok hg
            obtain ⟨n', hn'⟩ : ∃ n', ss'.length = n' := ⟨_, rfl⟩
            have hn2 : n' ≤ n + 1 := by have e := Wig.pback_len ⟨s, ss, lo, la, fu, sl, ro, ph, si, hi⟩ ⟨now1, 0, 0, 0, 0, v2, 0, v3, false, false⟩; rw [hack] at e; have e3 := RT20.out.len; simp only at e; omega
            have C1 := Lib.hid (fun (w0 : World) (hR : Rt w0 0 w0.heap.size A n ss) => (show Calls Tryd.prog 11 #[aggPb s A n c lo la fu sl ro ph si hi, .agg #[.int .u64 (now1 : Int), .int .u64 0, .int .u64 0, .int .u64 0, .int .u64 0, .int .u64 (v2 : Int), .int .u64 0, .int .u64 (v3 : Int), .bool false, .bool false]] w0 fun e w' => ∃ A' c', e = .returned (aggPb s' A' n' c' lo' la' fu' sl' ro' ph' si' hi') ∧ Rt w' w0.heap.size w'.heap.size A' n' ss' ∧ Below w0.heap.size w0 w' from ack_any s A n c lo la fu sl ro ph si hi ss now1 0 0 0 0 v2 0 v3 false false s' ss' lo' la' fu' sl' ro' ph' si' hi' n' w0 ok hR hg (by omega) hack hn'))
            have CB := Lib.hid (fun (A' : Option Addr) (c' : Nat) (w0 : World) (hR : Rt w0 0 w0.heap.size A' n' ss') => best_rt ss' n' most1 A' c' w0 hR hpl1.2.2.2.2.1)
            have z1 : ((lo' : Int) != (low1 : Int)) = false := by have e : lo' = low1 := hpl1.2.2.1; simp [e]
            have z2 : ((most1 : Int) != (most1 : Int)) = false := by simp
            have z3 : ((ro' : Int) != 0) = false := by have e : ro' = 0 := hpl1.2.1; simp [e]
            have HR := Lib.hid (show k1 ≤ 60 ∧ now1 ≤ 100 * k1 ∧ low1 < 18446744073709551616 ∧ most1 < 18446744073709551616 ∧ n' ≤ k1 ∧ Wig.PLow low1 most1 ⟨s', ss', lo', la', fu', sl', ro', ph', si', hi'⟩ ∧ Wig.Pb.Ok ⟨s', ss', lo', la', fu', sl', ro', ph', si', hi'⟩ ∧ 60 - k1 < 60 - k from ⟨by omega, by omega, by omega, by omega, by omega, hpl1, ok1, by omega⟩)
            clear hk hnow hlow hmost hnk hpl ok a1 a2 a3 a4 hv1 hv2 hv3 hrr hn1 hk1 hl1 hm1 hg hack hpl1 ok1 hn' hn2
            have d1 := (B20.out.cell HBB1.out).trans E1.out
            go_upto_region 10 with fail
            clear d1
            obtain ⟨p0, p1, p2, p3, p4, p5, p6, p7, p8, p9, -, -, -, -, -, -, -, -, -, -⟩ := XP20.out
            refine wp_region_held_drew (S := fun wx => wx.cell? ⟨bb2, off2 + k, none⟩ = some (.int .u16 (v2 : Int)) ∧ wx.cell? ⟨bb3, off3 + k, none⟩ = some (.int .u32 (v3 : Int))) (by kernel_rfl) ?_ (fun hHeld => ?_)
            · exact ⟨(B20.out.drew.cell HBB2.out).trans E2.out, (B20.out.drew.cell HBB3.out).trans E3.out⟩
            refine held_take (v := ?vv101) 1 rfl (by kernel_rfl) (by kernel_rfl) (by kernel_rfl) (fun _ _ _ h => h) (by rfl) ?yy101 (by assumption) ?nn101
            case yy101 =>
              intro w hSw
              (try dsimp only at hSw)
              go_simp
              try with_reducible rfl
            try simp only [Act.put, List.setIfInBounds_toArray, List.set_cons_zero, List.set_cons_succ]
            refine held_take (v := ?vv102) 2 rfl (by kernel_rfl) (by kernel_rfl) (by kernel_rfl) (fun _ _ _ h => h) (by rfl) ?yy102 (by assumption) ?nn102
            case yy102 =>
              intro w hSw
              (try dsimp only at hSw)
              go_simp
              try with_reducible rfl
            try simp only [Act.put, List.setIfInBounds_toArray, List.set_cons_zero, List.set_cons_succ]
            refine held_take (v := ?vv103) 3 rfl (by kernel_rfl) (by kernel_rfl) (by kernel_rfl) (fun _ _ _ h => h) (by rfl) ?yy103 (by assumption) ?nn103
            case yy103 =>
              intro w hSw
              (try dsimp only at hSw)
              go_simp
              try with_reducible rfl
            try simp only [Act.put, List.setIfInBounds_toArray, List.set_cons_zero, List.set_cons_succ]
            refine held_take (v := ?vv104) 4 rfl (by kernel_rfl) (by kernel_rfl) (by kernel_rfl) (fun _ _ _ h => h) (by rfl) ?yy104 (by assumption) ?nn104
            case yy104 =>
              intro w hSw
              (try dsimp only at hSw)
              go_simp
              try with_reducible rfl
            try simp only [Act.put, List.setIfInBounds_toArray, List.set_cons_zero, List.set_cons_succ]
            refine held_take (v := .int .u16 (v2 : Int)) 5 rfl (by kernel_rfl) (by kernel_rfl) (by kernel_rfl) (fun _ _ _ h => h) (by rfl) (fun wx hSw => by have a0 := hSw.1; clear hSw; (try dsimp only at a0); go_simp) (by assumption) ?_
            try simp only [Act.put, List.setIfInBounds_toArray, List.set_cons_zero, List.set_cons_succ]
            refine held_take (v := ?vv106) 6 rfl (by kernel_rfl) (by kernel_rfl) (by kernel_rfl) (fun _ _ _ h => h) (by rfl) ?yy106 (by assumption) ?nn106
            case yy106 =>
              intro w hSw
              (try dsimp only at hSw)
              go_simp
              try with_reducible rfl
            try simp only [Act.put, List.setIfInBounds_toArray, List.set_cons_zero, List.set_cons_succ]
            refine held_take (v := ?vv107) 7 rfl (by kernel_rfl) (by kernel_rfl) (by kernel_rfl) (fun _ _ _ h => h) (by rfl) ?yy107 (by assumption) ?nn107
            case yy107 =>
              intro w hSw
              (try dsimp only at hSw)
              go_simp
              try with_reducible rfl
            try simp only [Act.put, List.setIfInBounds_toArray, List.set_cons_zero, List.set_cons_succ]
            refine held_take (v := ?vv108) 8 rfl (by kernel_rfl) (by kernel_rfl) (by kernel_rfl) (fun _ _ _ h => h) (by rfl) ?yy108 (by assumption) ?nn108
            case yy108 =>
              intro w hSw
              (try dsimp only at hSw)
              go_simp
              try with_reducible rfl
            try simp only [Act.put, List.setIfInBounds_toArray, List.set_cons_zero, List.set_cons_succ]
            refine held_take (v := ?vv109) 9 rfl (by kernel_rfl) (by kernel_rfl) (by kernel_rfl) (fun _ _ _ h => h) (by rfl) ?yy109 (by assumption) ?nn109
            case yy109 =>
              intro w hSw
              (try dsimp only at hSw)
              go_simp
              try with_reducible rfl
            try simp only [Act.put, List.setIfInBounds_toArray, List.set_cons_zero, List.set_cons_succ]
            refine held_take (v := .int .u32 (v3 : Int)) 10 rfl (by kernel_rfl) (by kernel_rfl) (by kernel_rfl) (fun _ _ _ h => h) (by rfl) (fun wx hSw => by have a0 := hSw.2; clear hSw; (try dsimp only at a0); go_simp) (by assumption) ?_
            try simp only [Act.put, List.setIfInBounds_toArray, List.set_cons_zero, List.set_cons_succ]
            refine held_take (v := ?vv111) 11 rfl (by kernel_rfl) (by kernel_rfl) (by kernel_rfl) (fun _ _ _ h => h) (by rfl) ?yy111 (by assumption) ?nn111
            case yy111 =>
              intro w hSw
              (try dsimp only at hSw)
              go_simp
              try with_reducible rfl
            try simp only [Act.put, List.setIfInBounds_toArray, List.set_cons_zero, List.set_cons_succ]
            refine held_take (v := ?vv112) 12 rfl (by kernel_rfl) (by kernel_rfl) (by kernel_rfl) (fun _ _ _ h => h) (by rfl) ?yy112 (by assumption) ?nn112
            case yy112 =>
              intro w hSw
              (try dsimp only at hSw)
              go_simp
              try with_reducible rfl
            try simp only [Act.put, List.setIfInBounds_toArray, List.set_cons_zero, List.set_cons_succ]
            refine held_do 0 rfl (by kernel_rfl) (by rfl) (fun K hK => ?_)
            go_wp2_with fail
            refine hK.out _ _ ?_ (fun hHeld => ?_)
            · exact ⟨(B20.out.drew.cell HBB2.out).trans E2.out, (B20.out.drew.cell HBB3.out).trans E3.out⟩
            clear hK K
            try simp only [Act.put, List.setIfInBounds_toArray, List.set_cons_zero, List.set_cons_succ]
            refine held_do 13 rfl (by kernel_rfl) (by rfl) (fun K hK => ?_)
            go_wp2_with (go_at_call 11; refine (C1.out _ RT20.out.drew.low).mono ?_; rintro e w21 ⟨A', c', rfl, hr, hb21⟩; have HB := Lib.hid hb21; clear hb21)
            refine hK.out _ _ ?_ (fun hHeld => ?_)
            · exact ⟨((below_trans' B20.out.drew HB.out).cell HBB2.out).trans E2.out, ((below_trans' B20.out.drew HB.out).cell HBB3.out).trans E3.out⟩
            clear hK K
            try simp only [Act.put, List.setIfInBounds_toArray, List.set_cons_zero, List.set_cons_succ]
            have LUP := Lib.hid (show pP < wr.heap.size from SP20.out)
            have QU := Lib.hid (show w.heap.size ≤ wr.heap.size from B20.out.size)
            clear RT20
            have B21 := Lib.hid (below_trans' B20.out.drew HB.out)
            have XP21 := Lib.hid (XP20.out.drew.below HB.out SP20.out)
            have SP21 := Lib.hid (Nat.lt_of_lt_of_le SP20.out HB.out.size)
            clear p0 p1 p2 p3 p4 p5 p6 p7 p8 p9
            clear HB B20 XP20 SP20
            have RU21 := Lib.hid (show Rt w21 wr.heap.size w21.heap.size A' n' ss' from hr)
            clear hr
            obtain ⟨p0, p1, p2, p3, p4, p5, p6, p7, p8, p9, pf0, pf1, pf2, pf3, pf4, pf5, pf6, pf7, pf8, pf9⟩ := XP21.out
            refine held_do 14 rfl (by kernel_rfl) (by rfl) (fun K hK => ?_)
            go_wp2_with fail
            refine hK.out _ _ ?_ (fun hHeld => ?_)
            · exact ⟨((B21.out.trans (putPb_below (p := pP) GP.out)).cell HBB2.out).trans E2.out, ((B21.out.trans (putPb_below (p := pP) GP.out)).cell HBB3.out).trans E3.out⟩
            clear hK K
            try simp only [Act.put, List.setIfInBounds_toArray, List.set_cons_zero, List.set_cons_succ]
            refine wpAnyH_done (by kernel_rfl) ?_ _
            clear hHeld
            obtain ⟨w22, hw⟩ : ∃ wx, wx = putPb pP s' A' n' c' lo' la' fu' sl' ro' ph' si' hi' w21 := ⟨_, rfl⟩
            have XP22 := Lib.hid (show BxPb pP s' A' n' c' lo' la' fu' sl' ro' ph' si' hi' w22 by rw [hw]; exact XP21.out.put)
            have B22 := Lib.hid (show Below w.heap.size w w22 by rw [hw]; exact B21.out.trans (putPb_below GP.out))
            have hz : w21.heap.size ≤ w22.heap.size := by rw [hw]; exact (putPb_below (B := 0) (Nat.zero_le _)).size
            have SP22 := Lib.hid (Nat.lt_of_lt_of_le SP21.out hz)
            rw [show (((((((((w21.setCell ⟨pP, 0, none⟩ (.int .i64 (s'))).setCell ⟨pP, 1, none⟩ (.slice A' n' c')).setCell ⟨pP, 2, none⟩ (.int .u64 (lo' : Int))).setCell ⟨pP, 3, none⟩ (.int .u64 (la' : Int))).setCell ⟨pP, 4, none⟩ (.int .u64 (fu' : Int))).setCell ⟨pP, 5, none⟩ (.int .u64 (sl' : Int))).setCell ⟨pP, 6, none⟩ (.int .u64 (ro' : Int))).setCell ⟨pP, 7, none⟩ (.int .u64 (ph' : Int))).setCell ⟨pP, 8, none⟩ (.int .u64 (si' : Int))).setCell ⟨pP, 9, none⟩ (.int .u64 (hi' : Int)) = w22 from hw.symm]
            have RU22 := Lib.hid (show Rt w22 wr.heap.size w22.heap.size A' n' ss' by rw [hw]; exact RU21.out.put LUP.out _ _ _ _ _ _ _ _ _ _ _ _ )
            clear p0 p1 p2 p3 p4 p5 p6 p7 p8 p9 pf0 pf1 pf2 pf3 pf4 pf5 pf6 pf7 pf8 pf9
            clear hw hz B21 XP21 SP21 RU21
            have d2 := (B22.out.cell HBB2.out).trans E2.out
            have d3 := (B22.out.cell HBB3.out).trans E3.out
            have p1 := XP22.out.c1
            have p2 := XP22.out.c2
            have p6 := XP22.out.c6
            go_wp2_with fail
            refine (CB.out _ _ _ RU22.out.low).mono ?_
            rintro e _ ⟨rfl, rfl⟩
            have RZ := Lib.hid (show LoRel pP w (.int .u64 (now1 : Int)) (.int .u64 (low1 : Int)) (.int .u64 (most1 : Int)) (.int .i64 (k1 : Int)) w22 from ⟨k1, now1, low1, most1, s', A', n', c', lo', la', fu', sl', ro', ph', si', hi', ss', HR.out.1, HR.out.2.1, HR.out.2.2.1, HR.out.2.2.2.1, HR.out.2.2.2.2.1, rfl, rfl, rfl, rfl, HR.out.2.2.2.2.2.1, HR.out.2.2.2.2.2.2.1, XP22.out, RU22.out.wide LUP.out (Nat.le_refl _), SP22.out, GP.out, B22.out⟩)
            go_wp2_with fail
            go_roundw
            case rel => exact RZ.out
            case measure => have := HR.out; simp [intOf]; omega
          · have t1 : decide (k < m1) = true := decide_eq_true a1
            have t2 : decide (k < m2) = true := decide_eq_true a2
            have t3 : decide (k < m3) = true := decide_eq_true a3
            have t4 : decide ((k : Int) < 60) = false := decide_eq_false (by omega)
            clear hk hnow hlow hmost hnk hpl ok a1 a2 a3 a4
            go_wp2_with fail
            go_ret
            exact ⟨rfl, B20.out⟩
        · have t1 : decide (k < m1) = true := decide_eq_true a1
          have t2 : decide (k < m2) = true := decide_eq_true a2
          have t3 : decide (k < m3) = false := decide_eq_false (by omega)
          clear hk hnow hlow hmost hnk hpl ok a1 a2 a3
          go_wp2_with fail
          go_ret
          exact ⟨rfl, B20.out⟩
      · have t1 : decide (k < m1) = true := decide_eq_true a1
        have t2 : decide (k < m2) = false := decide_eq_false (by omega)
        clear hk hnow hlow hmost hnk hpl ok a1 a2
        go_wp2_with fail
        go_ret
        exact ⟨rfl, B20.out⟩
    · have t1 : decide (k < m1) = false := decide_eq_false (by omega)
      clear hk hnow hlow hmost hnk hpl ok a1
      go_wp2_with fail
      go_ret
      exact ⟨rfl, B20.out⟩

set_option maxRecDepth 100000 in
theorem lifted (os : Os) (started : os.Started) (H : Type) (enc : TypeId × Value → H) :
    ReturnsInHanded {} Tryd.checked os 6 .any (fun w args => (Rows.probeLowsSpec.pre enc Tryd.prog Tryd.f6 [] false w args ∧ laidMetH Tryd.prog laidList w) ∧ sizedMet enc Tryd.prog Tryd.f6 (OpenSpec.ofChange Rows.probeLowsSpec) false w args)
      (Rows.probeLowsSpec.post enc Tryd.prog Tryd.f6 false true false false) := by
  refine returnsInHanded_of_change_and (C := Tryd.checked) (X := fun w _ => laidMetH Tryd.prog laidList w) (fun _ _ _ hh h => h.of_heap hh) own started (by kernel_rfl) Tryd.func6
    (ChangeSpec.witness_shaped (enc := enc) (C := Tryd.checked) (os := os) (X := fun w _ => laidMetH Tryd.prog laidList w) false (World.doorLaid Tryd.prog 400 os) #[.slice none 0 0, .slice none 0 0, .slice none 0 0] 8 rfl (World.shaped_of_RefB (by kernel_rfl) (by kernel_rfl)) (by kernel_rfl) (by kernel_rfl) (by kernel_rfl) (door_met os _)) ?_
  intro W base args ds gs before hval0 hW _ _ hL _
  have hval : ∀ (j : Nat) t v, Tryd.f6.params[j]? = some t → args[j]? = some v → Value.okWide Tryd.prog W .any base t v := hval0
  have hW' := hW
  obtain ⟨p, q, hA0, hV, rfl, hfz, hnd⟩ := hW
  have hA : DataW.TrodAll enc Tryd.prog W 0 (fun _ => true) true Tryd.f6.params.toList args.toList ds p := hA0
  obtain ⟨rfl, rfl⟩ := trodVars_none hV
  simp only [List.append_nil] at hW'
  have hlow : ∀ x ∈ p, x.block < W.heap.size := fun x hx => hW'.lt x hx
  have hA2 := hA
  rw [Tryd.params6] at hval hA2
  obtain ⟨v0, vs0, d0, ds0, p0, q0, hargs, rfl, rfl, h0, r0⟩ := trodAll_cons hA2
  obtain ⟨v1, vs1, d1, ds1, p1, q1, rfl, rfl, rfl, h1, r1⟩ := trodAll_cons r0
  obtain ⟨v2, vs2, d2, ds2, p2, q2, rfl, rfl, rfl, h2, r2⟩ := trodAll_cons r1
  obtain ⟨rfl, rfl, rfl⟩ := trodAll_nil r2
  obtain rfl : args = #[v0, v1, v2] := by cases args; simp_all
  obtain ⟨A0, c0, xs0, rfl, hx0, hr0, hl0, hm0⟩ := open_row 256 Tryd.underlying40 Tryd.underlying5 (by kernel_rfl) (by intro x h; simp [Lit.wf, IntKind.min, IntKind.max, IntKind.signed, IntKind.bits] at h; omega) (hval 0 40 v0 rfl rfl) h0 (fun x hx => hlow x (by simp [hx]))
  obtain ⟨A1, c1, xs1, rfl, hx1, hr1, hl1, hm1⟩ := open_row 65536 Tryd.underlying41 Tryd.underlying43 (by kernel_rfl) (by intro x h; simp [Lit.wf, IntKind.min, IntKind.max, IntKind.signed, IntKind.bits] at h; omega) (hval 1 41 v1 rfl rfl) h1 (fun x hx => hlow x (by simp [hx]))
  obtain ⟨A2, c2, xs2, rfl, hx2, hr2, hl2, hm2⟩ := open_row 4294967296 Tryd.underlying42 Tryd.underlying44 (by kernel_rfl) (by intro x h; simp [Lit.wf, IntKind.min, IntKind.max, IntKind.signed, IntKind.bits] at h; omega) (hval 2 42 v2 rfl rfl) h2 (fun x hx => hlow x (by simp [hx]))
  refine (walk A0 c0 xs0 A1 c1 xs1 A2 c2 xs2 hx0 hl0 hm0 hx1 hl1 hm1 hx2 hl2 hm2 W hr0 hr1 hr2 (tab_of_laid hL)).mono fun e W' ⟨he, hg⟩ => ?_
  subst he
  exact ⟨_, rfl, law_true laid_out (by kernel_rfl) rfl Tryd.underlying4 (by kernel_rfl) hW' hA rfl rfl rfl hg⟩

theorem over : Rows.probeLowsRow.holds Tryd.pinned (OpenSpec.ofChange Rows.probeLowsSpec) :=
  OpenClaim.holds_of_wide 6 Tryd.f6 rfl rfl rfl rfl rfl rfl rfl ⟨rfl, rfl, rfl, rfl, rfl⟩ rfl rfl rfl rfl rfl (by kernel_rfl) Tryd.func6 (by kernel_rfl)
    (of_decide_eq_true (by kernel_rfl)) (by unfold Func.isWrapper; first | (rw [if_pos (by decide +kernel)]; kernel_rfl) | (rw [if_neg (by decide +kernel)]; exact ⟨rfl, rfl⟩))
    (fun os started H enc _ => lifted os started H enc)

/-- The statement: the card of it, its table tied to the program. -/
theorem proved : Rows.ProbeLowsCardSaid :=
  Claim7.holds_tied_plain_at .later [] [.data] true (true, "0cfa15146e02506e26c00cdb08a8114b329d7ab63ab7622119cae80ce9231d0a") false
    over (fun _ h => by cases h) (by kernel_rfl) (fun _ h => by cases h) probeLows_row_tie rfl ⟨rfl, rfl⟩ (by kernel_rfl) rfl
    (fun f fn hf hfn => by
      obtain rfl : f = 6 := Option.some.inj ((show Tryd.prog.funcNamed "wigwag/wigwaglaw13.ProbeLows" = some 6 by kernel_rfl).symm.trans hf) |>.symm
      obtain rfl : fn = Tryd.f6 := (Option.some.inj (Tryd.func6.symm.trans hfn)).symm
      exact ⟨by kernel_rfl, fun j t ht => by
        rw [Tryd.params6] at ht
        have hm : t ∈ [40, 41, 42] := by simpa using Array.mem_of_getElem? ht
        have hall : ([40, 41, 42].all fun u => !Tryd.prog.wantsStandIn u) = true := by kernel_rfl
        exact (show Tryd.prog.wantsStandIn t = false by simpa using List.all_eq_true.1 hall t hm)⟩)
    (by kernel_rfl)
end Go.Proofs.YtjojnbeflongkaaDoor.probeLows
