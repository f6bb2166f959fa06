/-
  What package pnum's Whole returns, and the document's, for all numbers of 64 bits and all sizes. No condition.
-/
import Derived.Test.YtmodafmnokiceaaPnmA
import Derived.OwnWalk
import Derived.Deep.DeepCutAuto
namespace Go.Proofs.Ytmodafmnokiceaa
open Go.ChangeShapes Go.WideShapes Go.ChangeAt Go.RowKit
set_option linter.unusedVariables false

/-- What Whole reckons, written out: c the candidate. -/
theorem pwhole_of {p w n m r : Nat} (hm : n % w = m) (hr : p % w = r) :
    Wig.pwhole p w n = if n - m + r + w / 2 ≤ n ∧ n - m + r + w ≤ 4611686018427387903 then n - m + r + w else if n + w / 2 < n - m + r ∧ w ≤ n - m + r then n - m + r - w else n - m + r := by
  subst hm hr; rfl
theorem pcap_min (n : Nat) : min (n : Int) 4611686018427387903 = ((Wig.pcap n : Nat) : Int) := by
  unfold Wig.pcap; split <;> omega

set_option maxHeartbeats 1000000 in
theorem whole_any (p : Nat) (i : Int) (n : Nat) (w : World) (hp : p < 18446744073709551616) (hn : n < 18446744073709551616) :
    Calls Try.prog 28 #[.int .u64 (p : Int), .int .i64 i, .int .u64 (n : Int)] w fun e w' => e = .returned (.int .u64 ((Wig.pwhole p (Wig.pwin (Wig.pk i)) (Wig.pcap n) : Nat) : Int)) ∧ ∃ k, w.drewN k = w' := by
  have C := Lib.hid (window_any i)
  obtain ⟨g, hg⟩ : ∃ g, g = Wig.pwin (Wig.pk i) := ⟨_, rfl⟩
  have g4 := Wig.pwin_four (Wig.pk i)
  rw [← hg] at C g4 ⊢
  clear hg
  have hmin := pcap_min n
  have hc := Wig.pcap_le n
  obtain ⟨m, hm⟩ : ∃ m, m = Wig.pcap n := ⟨_, rfl⟩
  rw [← hm] at hmin hc ⊢
  clear hm
  obtain ⟨h, hh⟩ : ∃ h, h = g / 2 := ⟨_, rfl⟩
  obtain ⟨a, ha⟩ : ∃ a, a = m % g := ⟨_, rfl⟩
  obtain ⟨b, hb⟩ : ∃ b, b = p % g := ⟨_, rfl⟩
  have ag : a < g := by rw [ha]; exact Nat.mod_lt _ (by omega)
  have bg : b < g := by rw [hb]; exact Nat.mod_lt _ (by omega)
  have am : a ≤ m := by rw [ha]; exact Nat.mod_le _ _
  obtain ⟨d, hd⟩ : ∃ d, d = m - a := ⟨_, rfl⟩
  obtain ⟨c, hcc⟩ : ∃ c, c = d + b := ⟨_, rfl⟩
  have R := Lib.hid (show Wig.pwhole p g m = if c + h ≤ m ∧ c + g ≤ 4611686018427387903 then c + g else if m + h < c ∧ g ≤ c then c - g else c by rw [pwhole_of ha.symm hb.symm, hcc, hd, hh])
  have g0 : ¬ g = 0 := by omega
  have e1 : (g : Int) / 2 = (h : Int) := by omega
  have e2 : IntKind.u64.wrap (h : Int) = (h : Int) := by rw [IntKind.wrap_u64]; omega
  have e3 : (m : Int) % (g : Int) = (a : Int) := by rw [ha]; rfl
  have e4 : (p : Int) % (g : Int) = (b : Int) := by rw [hb]; rfl
  have e5 : IntKind.u64.wrap ((m : Int) - (a : Int)) = (d : Int) := by rw [IntKind.wrap_u64]; omega
  have e6 : IntKind.u64.wrap ((d : Int) + (b : Int)) = (c : Int) := by rw [IntKind.wrap_u64]; omega
  obtain ⟨x, hx⟩ : ∃ x, x = c + h := ⟨_, rfl⟩
  obtain ⟨y, hy⟩ : ∃ y, y = c + g := ⟨_, rfl⟩
  obtain ⟨z, hz⟩ : ∃ z, z = m + h := ⟨_, rfl⟩
  have e7 : IntKind.u64.wrap ((c : Int) + (h : Int)) = (x : Int) := by rw [IntKind.wrap_u64]; omega
  have e8 : IntKind.u64.wrap ((c : Int) + (g : Int)) = (y : Int) := by rw [IntKind.wrap_u64]; omega
  have e9 : IntKind.u64.wrap ((m : Int) + (h : Int)) = (z : Int) := by rw [IntKind.wrap_u64]; omega
  rw [← hx, ← hy, ← hz] at R
  by_cases hA : x ≤ m
  · have t1 : decide (x ≤ m) = true := decide_eq_true hA
    by_cases hA2 : y ≤ 4611686018427387903
    · skip
      have RA := Lib.hid (show Wig.pwhole p g m = y from by rw [R.out, if_pos ⟨hA, hA2⟩])
      have t2 : decide ((y : Int) ≤ 4611686018427387903) = true := decide_eq_true (by omega)
      clear R hh ha hb hd hcc hx hy hz ag bg am g4 hc hp hn hA hA2
      go_enter Try.func28, Try.ntmps28
      go_upto_region 1 with fail
      go_cut [2] (fun s2 wx => w = wx ∧ s2 = .int .u64 (m : Int))
      case first =>
        clear e1 e2 e3 e4 e5 e6 e7 e8 e9 t1 t2
        go_wp2_with fail
        all_goals go_meet
        all_goals
          case rel => exact ⟨rfl, by congr 1; omega⟩
      case rest =>
        obtain ⟨rfl, rfl⟩ := hcut
        clear hmin
        go_wp2_with fail
        refine (C.out _).mono ?_
        rintro e w' ⟨rfl, rfl⟩
        go_wp2_with fail
        go_quiet (fail)
        go_wp2_with fail
        go_ret
        exact ⟨ret_u64 (by rw [RA.out]), _, rfl⟩
    · skip
      have RA := Lib.hid (show Wig.pwhole p g m = c from by rw [R.out, if_neg (fun h => hA2 h.2), if_neg (fun h => by omega)])
      have t2 : decide ((y : Int) ≤ 4611686018427387903) = false := decide_eq_false (by omega)
      have t3 : decide (z < c) = false := decide_eq_false (by omega)
      clear R hh ha hb hd hcc hx hy hz ag bg am g4 hc hp hn hA hA2
      go_enter Try.func28, Try.ntmps28
      go_upto_region 1 with fail
      go_cut [2] (fun s2 wx => w = wx ∧ s2 = .int .u64 (m : Int))
      case first =>
        clear e1 e2 e3 e4 e5 e6 e7 e8 e9 t1 t2 t3
        go_wp2_with fail
        all_goals go_meet
        all_goals
          case rel => exact ⟨rfl, by congr 1; omega⟩
      case rest =>
        obtain ⟨rfl, rfl⟩ := hcut
        clear hmin
        go_wp2_with fail
        refine (C.out _).mono ?_
        rintro e w' ⟨rfl, rfl⟩
        go_wp2_with fail
        go_quiet (fail)
        go_wp2_with fail
        go_ret
        exact ⟨ret_u64 (by rw [RA.out]), _, rfl⟩
  · have t1 : decide (x ≤ m) = false := decide_eq_false hA
    by_cases hB : z < c
    · have t2 : decide (z < c) = true := decide_eq_true hB
      by_cases hB2 : g ≤ c
      · obtain ⟨u, hu⟩ : ∃ u, u = c - g := ⟨_, rfl⟩
        have e10 : IntKind.u64.wrap ((c : Int) - (g : Int)) = (u : Int) := by rw [IntKind.wrap_u64]; omega
        have RA := Lib.hid (show Wig.pwhole p g m = u from by rw [R.out, if_neg (fun h => hA h.1), if_pos ⟨hB, hB2⟩, hu])
        have t3 : decide (g ≤ c) = true := decide_eq_true hB2
        clear R hh ha hb hd hcc hx hy hz ag bg am g4 hc hp hn hA hB hB2 hu
        go_enter Try.func28, Try.ntmps28
        go_upto_region 1 with fail
        go_cut [2] (fun s2 wx => w = wx ∧ s2 = .int .u64 (m : Int))
        case first =>
          clear e1 e2 e3 e4 e5 e6 e7 e8 e9 t1 t2 t3 e10
          go_wp2_with fail
          all_goals go_meet
          all_goals
            case rel => exact ⟨rfl, by congr 1; omega⟩
        case rest =>
          obtain ⟨rfl, rfl⟩ := hcut
          clear hmin
          go_wp2_with fail
          refine (C.out _).mono ?_
          rintro e w' ⟨rfl, rfl⟩
          go_wp2_with fail
          go_quiet (fail)
          go_wp2_with fail
          go_ret
          exact ⟨ret_u64 (by rw [RA.out]), _, rfl⟩
      · skip
        have RA := Lib.hid (show Wig.pwhole p g m = c from by rw [R.out, if_neg (fun h => hA h.1), if_neg (fun h => hB2 h.2)])
        have t3 : decide (g ≤ c) = false := decide_eq_false hB2
        clear R hh ha hb hd hcc hx hy hz ag bg am g4 hc hp hn hA hB hB2
        go_enter Try.func28, Try.ntmps28
        go_upto_region 1 with fail
        go_cut [2] (fun s2 wx => w = wx ∧ s2 = .int .u64 (m : Int))
        case first =>
          clear e1 e2 e3 e4 e5 e6 e7 e8 e9 t1 t2 t3
          go_wp2_with fail
          all_goals go_meet
          all_goals
            case rel => exact ⟨rfl, by congr 1; omega⟩
        case rest =>
          obtain ⟨rfl, rfl⟩ := hcut
          clear hmin
          go_wp2_with fail
          refine (C.out _).mono ?_
          rintro e w' ⟨rfl, rfl⟩
          go_wp2_with fail
          go_quiet (fail)
          go_wp2_with fail
          go_ret
          exact ⟨ret_u64 (by rw [RA.out]), _, rfl⟩
    · skip
      have RA := Lib.hid (show Wig.pwhole p g m = c from by rw [R.out, if_neg (fun h => hA h.1), if_neg (fun h => hB h.1)])
      have t2 : decide (z < c) = false := decide_eq_false hB
      clear R hh ha hb hd hcc hx hy hz ag bg am g4 hc hp hn hA hB
      go_enter Try.func28, Try.ntmps28
      go_upto_region 1 with fail
      go_cut [2] (fun s2 wx => w = wx ∧ s2 = .int .u64 (m : Int))
      case first =>
        clear e1 e2 e3 e4 e5 e6 e7 e8 e9 t1 t2
        go_wp2_with fail
        all_goals go_meet
        all_goals
          case rel => exact ⟨rfl, by congr 1; omega⟩
      case rest =>
        obtain ⟨rfl, rfl⟩ := hcut
        clear hmin
        go_wp2_with fail
        refine (C.out _).mono ?_
        rintro e w' ⟨rfl, rfl⟩
        go_wp2_with fail
        go_quiet (fail)
        go_wp2_with fail
        go_ret
        exact ⟨ret_u64 (by rw [RA.out]), _, rfl⟩

set_option maxHeartbeats 1000000 in
theorem rwhole_any (p : Nat) (i : Int) (n : Nat) (w : World) (hp : p < 18446744073709551616) (hn : n < 18446744073709551616) :
    Calls Try.prog 30 #[.int .u64 (p : Int), .int .i64 i, .int .u64 (n : Int)] w fun e w' => e = .returned (.int .u64 ((Wig.pwhole p (Wig.pwin (Wig.pk i)) (Wig.pcap n) : Nat) : Int)) ∧ w = w' := by
  have C := Lib.hid (rwindow_any i)
  obtain ⟨g, hg⟩ : ∃ g, g = Wig.pwin (Wig.pk i) := ⟨_, rfl⟩
  have g4 := Wig.pwin_four (Wig.pk i)
  rw [← hg] at C g4 ⊢
  clear hg
  have hmin := pcap_min n
  have hc := Wig.pcap_le n
  obtain ⟨m, hm⟩ : ∃ m, m = Wig.pcap n := ⟨_, rfl⟩
  rw [← hm] at hmin hc ⊢
  clear hm
  obtain ⟨h, hh⟩ : ∃ h, h = g / 2 := ⟨_, rfl⟩
  obtain ⟨a, ha⟩ : ∃ a, a = m % g := ⟨_, rfl⟩
  obtain ⟨b, hb⟩ : ∃ b, b = p % g := ⟨_, rfl⟩
  have ag : a < g := by rw [ha]; exact Nat.mod_lt _ (by omega)
  have bg : b < g := by rw [hb]; exact Nat.mod_lt _ (by omega)
  have am : a ≤ m := by rw [ha]; exact Nat.mod_le _ _
  obtain ⟨d, hd⟩ : ∃ d, d = m - a := ⟨_, rfl⟩
  obtain ⟨c, hcc⟩ : ∃ c, c = d + b := ⟨_, rfl⟩
  have R := Lib.hid (show Wig.pwhole p g m = if c + h ≤ m ∧ c + g ≤ 4611686018427387903 then c + g else if m + h < c ∧ g ≤ c then c - g else c by rw [pwhole_of ha.symm hb.symm, hcc, hd, hh])
  have g0 : ¬ g = 0 := by omega
  have e1 : (g : Int) / 2 = (h : Int) := by omega
  have e2 : IntKind.u64.wrap (h : Int) = (h : Int) := by rw [IntKind.wrap_u64]; omega
  have e3 : (m : Int) % (g : Int) = (a : Int) := by rw [ha]; rfl
  have e4 : (p : Int) % (g : Int) = (b : Int) := by rw [hb]; rfl
  have e5 : IntKind.u64.wrap ((m : Int) - (a : Int)) = (d : Int) := by rw [IntKind.wrap_u64]; omega
  have e6 : IntKind.u64.wrap ((d : Int) + (b : Int)) = (c : Int) := by rw [IntKind.wrap_u64]; omega
  obtain ⟨x, hx⟩ : ∃ x, x = c + h := ⟨_, rfl⟩
  obtain ⟨y, hy⟩ : ∃ y, y = c + g := ⟨_, rfl⟩
  obtain ⟨z, hz⟩ : ∃ z, z = m + h := ⟨_, rfl⟩
  have e7 : IntKind.u64.wrap ((c : Int) + (h : Int)) = (x : Int) := by rw [IntKind.wrap_u64]; omega
  have e8 : IntKind.u64.wrap ((c : Int) + (g : Int)) = (y : Int) := by rw [IntKind.wrap_u64]; omega
  have e9 : IntKind.u64.wrap ((m : Int) + (h : Int)) = (z : Int) := by rw [IntKind.wrap_u64]; omega
  rw [← hx, ← hy, ← hz] at R
  by_cases hA : x ≤ m
  · have t1 : decide (x ≤ m) = true := decide_eq_true hA
    by_cases hA2 : y ≤ 4611686018427387903
    · skip
      have RA := Lib.hid (show Wig.pwhole p g m = y from by rw [R.out, if_pos ⟨hA, hA2⟩])
      have t2 : decide ((y : Int) ≤ 4611686018427387903) = true := decide_eq_true (by omega)
      clear R hh ha hb hd hcc hx hy hz ag bg am g4 hc hp hn hA hA2
      go_enter Try.func30, Try.ntmps30
      go_upto_if 10 with fail
      go_cut [2] (fun s2 wx => w = wx ∧ s2 = .int .u64 (m : Int))
      case first =>
        clear e1 e2 e3 e4 e5 e6 e7 e8 e9 t1 t2
        go_wp2_with fail
        all_goals go_meet
        all_goals
          case rel => exact ⟨rfl, by congr 1; omega⟩
      case rest =>
        obtain ⟨rfl, rfl⟩ := hcut
        clear hmin
        go_wp2_with fail
        refine (C.out _).mono ?_
        rintro e w' ⟨rfl, rfl⟩
        go_wp2_with fail
        go_ret
        exact ⟨ret_u64 (by rw [RA.out]), rfl⟩
    · skip
      have RA := Lib.hid (show Wig.pwhole p g m = c from by rw [R.out, if_neg (fun h => hA2 h.2), if_neg (fun h => by omega)])
      have t2 : decide ((y : Int) ≤ 4611686018427387903) = false := decide_eq_false (by omega)
      have t3 : decide (z < c) = false := decide_eq_false (by omega)
      clear R hh ha hb hd hcc hx hy hz ag bg am g4 hc hp hn hA hA2
      go_enter Try.func30, Try.ntmps30
      go_upto_if 10 with fail
      go_cut [2] (fun s2 wx => w = wx ∧ s2 = .int .u64 (m : Int))
      case first =>
        clear e1 e2 e3 e4 e5 e6 e7 e8 e9 t1 t2 t3
        go_wp2_with fail
        all_goals go_meet
        all_goals
          case rel => exact ⟨rfl, by congr 1; omega⟩
      case rest =>
        obtain ⟨rfl, rfl⟩ := hcut
        clear hmin
        go_wp2_with fail
        refine (C.out _).mono ?_
        rintro e w' ⟨rfl, rfl⟩
        go_wp2_with fail
        go_ret
        exact ⟨ret_u64 (by rw [RA.out]), rfl⟩
  · have t1 : decide (x ≤ m) = false := decide_eq_false hA
    by_cases hB : z < c
    · have t2 : decide (z < c) = true := decide_eq_true hB
      by_cases hB2 : g ≤ c
      · obtain ⟨u, hu⟩ : ∃ u, u = c - g := ⟨_, rfl⟩
        have e10 : IntKind.u64.wrap ((c : Int) - (g : Int)) = (u : Int) := by rw [IntKind.wrap_u64]; omega
        have RA := Lib.hid (show Wig.pwhole p g m = u from by rw [R.out, if_neg (fun h => hA h.1), if_pos ⟨hB, hB2⟩, hu])
        have t3 : decide (g ≤ c) = true := decide_eq_true hB2
        clear R hh ha hb hd hcc hx hy hz ag bg am g4 hc hp hn hA hB hB2 hu
        go_enter Try.func30, Try.ntmps30
        go_upto_if 10 with fail
        go_cut [2] (fun s2 wx => w = wx ∧ s2 = .int .u64 (m : Int))
        case first =>
          clear e1 e2 e3 e4 e5 e6 e7 e8 e9 t1 t2 t3 e10
          go_wp2_with fail
          all_goals go_meet
          all_goals
            case rel => exact ⟨rfl, by congr 1; omega⟩
        case rest =>
          obtain ⟨rfl, rfl⟩ := hcut
          clear hmin
          go_wp2_with fail
          refine (C.out _).mono ?_
          rintro e w' ⟨rfl, rfl⟩
          go_wp2_with fail
          go_ret
          exact ⟨ret_u64 (by rw [RA.out]), rfl⟩
      · skip
        have RA := Lib.hid (show Wig.pwhole p g m = c from by rw [R.out, if_neg (fun h => hA h.1), if_neg (fun h => hB2 h.2)])
        have t3 : decide (g ≤ c) = false := decide_eq_false hB2
        clear R hh ha hb hd hcc hx hy hz ag bg am g4 hc hp hn hA hB hB2
        go_enter Try.func30, Try.ntmps30
        go_upto_if 10 with fail
        go_cut [2] (fun s2 wx => w = wx ∧ s2 = .int .u64 (m : Int))
        case first =>
          clear e1 e2 e3 e4 e5 e6 e7 e8 e9 t1 t2 t3
          go_wp2_with fail
          all_goals go_meet
          all_goals
            case rel => exact ⟨rfl, by congr 1; omega⟩
        case rest =>
          obtain ⟨rfl, rfl⟩ := hcut
          clear hmin
          go_wp2_with fail
          refine (C.out _).mono ?_
          rintro e w' ⟨rfl, rfl⟩
          go_wp2_with fail
          go_ret
          exact ⟨ret_u64 (by rw [RA.out]), rfl⟩
    · skip
      have RA := Lib.hid (show Wig.pwhole p g m = c from by rw [R.out, if_neg (fun h => hA h.1), if_neg (fun h => hB h.1)])
      have t2 : decide (z < c) = false := decide_eq_false hB
      clear R hh ha hb hd hcc hx hy hz ag bg am g4 hc hp hn hA hB
      go_enter Try.func30, Try.ntmps30
      go_upto_if 10 with fail
      go_cut [2] (fun s2 wx => w = wx ∧ s2 = .int .u64 (m : Int))
      case first =>
        clear e1 e2 e3 e4 e5 e6 e7 e8 e9 t1 t2
        go_wp2_with fail
        all_goals go_meet
        all_goals
          case rel => exact ⟨rfl, by congr 1; omega⟩
      case rest =>
        obtain ⟨rfl, rfl⟩ := hcut
        clear hmin
        go_wp2_with fail
        refine (C.out _).mono ?_
        rintro e w' ⟨rfl, rfl⟩
        go_wp2_with fail
        go_ret
        exact ⟨ret_u64 (by rw [RA.out]), rfl⟩
end Go.Proofs.Ytmodafmnokiceaa
