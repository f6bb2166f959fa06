/-
  LedgerAll: what is taken and what is left are all packets, of all bytes, each once; what is lost and what is left, too; and both rise, if all did. No condition.
-/
import Derived.Test.YthdhcppgpnnccaaLedW
namespace Go.Proofs.Ythdhcppgpnnccaa.ledgerAll
open Go.ChangeShapes Go.WideShapes Go.ChangeAt Go.RowKit Go.Deep
set_option linter.unusedVariables false

def AlRel (l : List Wig.Snt) (w0 : World) (i : Value) (wr : World) : Prop := ∃ k : Nat, k ≤ l.length ∧ i = .int .i64 (k : Int) ∧ (∀ (j : Nat) (x : Wig.Snt), j < k → l[j]? = some x → x.size ≤ 4294967296) ∧ w0 = wr
theorem all_sizes {l : List Wig.Snt} (h : ∀ (j : Nat) (x : Wig.Snt), j < l.length → l[j]? = some x → x.size ≤ 4294967296) : ∀ x ∈ l, x.size ≤ 4294967296 := fun x hx => by
  obtain ⟨j, hj⟩ := List.getElem?_of_mem hx
  exact h j x (List.getElem?_eq_some_iff.1 hj).1 hj

set_option maxRecDepth 20000 in
set_option maxHeartbeats 8000000 in
theorem walk (A : Option Addr) (c : Nat) (ss : List Wig.Snt) (B : Option Addr) (d : Nat) (tt : List Wig.Spn) (next now late : Nat) (hf : Wig.TFits ss) (hl : ss.length ≤ maxLen) (hc : ss.length ≤ c) (hf2 : Wig.SFits tt) (hl2 : tt.length ≤ maxLen) (hc2 : tt.length ≤ d) (hnext : next < 18446744073709551616) (hnow : now < 18446744073709551616) (hlate : late < 18446744073709551616) (w : World) (hr : RdT w w.heap.size A ss) (hq : RdS w w.heap.size B tt) :
    Calls Try.prog 5 #[.slice A ss.length c, .slice B tt.length d, .int .u64 (next : Int), .int .u64 (now : Int), .int .u64 (late : Int)] w fun e w' => e = .returned (.bool true) ∧ Below w.heap.size w w' := by
  obtain ⟨n, hn⟩ : ∃ n, n = ss.length := ⟨_, rfl⟩
  rw [← hn] at hl hc ⊢
  have RA := Lib.hid hr
  have B0 := Lib.hid (Below.refl w.heap.size w)
  have C0 := Lib.hid (fun w => awake_any w)
  clear hr hl hc
  obtain ⟨m, hm⟩ : ∃ m, m = tt.length := ⟨_, rfl⟩
  rw [← hm] at hl2 hc2 ⊢
  have RB := Lib.hid hq
  clear hq hl2 hc2 hf2
  by_cases h1 : n ≤ 50
  · by_cases h2 : m ≤ 50
    · skip
      have CF := Lib.hid (fun A c w => few_any A n c true w (decide_eq_true h1))
      have dm : decide ((50 : Int) < (m : Int)) = false := decide_eq_false (by omega)
      have dm' : decide (50 < m) = false := decide_eq_false (by omega)
      obtain ⟨xs, hxs⟩ : ∃ xs, ss.filter (Wig.tin tt) = xs := ⟨_, rfl⟩
      obtain ⟨ys, hys⟩ : ∃ ys, (ss.filter fun x => !Wig.tin tt x) = ys := ⟨_, rfl⟩
      obtain ⟨a, ha⟩ : ∃ a, xs.length = a := ⟨_, rfl⟩
      obtain ⟨b, hb⟩ : ∃ b, ys.length = b := ⟨_, rfl⟩
      have la : a ≤ 50 := by rw [← ha, ← hxs]; exact Nat.le_trans (List.length_filter_le _ _) (by omega)
      have lb : b ≤ 50 := by rw [← hb, ← hys]; exact Nat.le_trans (List.length_filter_le _ _) (by omega)
      obtain ⟨us, hus⟩ : ∃ us, ss.filter (Wig.tlost next now late) = us := ⟨_, rfl⟩
      obtain ⟨vs, hvs⟩ : ∃ vs, (ss.filter fun x => !Wig.tlost next now late x) = vs := ⟨_, rfl⟩
      obtain ⟨p, hp⟩ : ∃ p, us.length = p := ⟨_, rfl⟩
      obtain ⟨q, hq'⟩ : ∃ q, vs.length = q := ⟨_, rfl⟩
      obtain ⟨t, ht⟩ : ∃ t, Wig.twhen next now late ss = t := ⟨_, rfl⟩
      have lp : p ≤ 50 := by rw [← hp, ← hus]; exact Nat.le_trans (List.length_filter_le _ _) (by omega)
      have lq : q ≤ 50 := by rw [← hq', ← hvs]; exact Nat.le_trans (List.length_filter_le _ _) (by omega)
      obtain ⟨r, hrr⟩ : ∃ r, Wig.tcheck ss = r := ⟨_, rfl⟩
      obtain ⟨f, hff⟩ : ∃ f, Wig.tflight ss = f := ⟨_, rfl⟩
      obtain ⟨fx, hfx⟩ : ∃ f, Wig.tflight xs = f := ⟨_, rfl⟩
      obtain ⟨fy, hfy⟩ : ∃ f, Wig.tflight ys = f := ⟨_, rfl⟩
      obtain ⟨fu, hfu⟩ : ∃ f, Wig.tflight us = f := ⟨_, rfl⟩
      obtain ⟨fv, hfv⟩ : ∃ f, Wig.tflight vs = f := ⟨_, rfl⟩
      have C1 := Lib.hid (fun A B c d w h k => take_gives ss xs ys tt A B n c m d a b w hn hm (by omega) (by omega) h k hxs hys ha hb hf)
      have C2 := Lib.hid (fun A c w h => lost_gives ss us vs next now late t A n c p q w hn (by omega) hf hlate h hus hvs hp hq' ht)
      have C3 := Lib.hid (fun A c w h => flight_any ss f A n c w hn (by omega) hf h hff)
      have C4 := Lib.hid (fun A c w h => flight_any xs fx A a c w ha.symm (by omega) (by rw [← hxs]; exact hf.filter _) h hfx)
      have C5 := Lib.hid (fun A c w h => flight_any ys fy A b c w hb.symm (by omega) (by rw [← hys]; exact hf.filter _) h hfy)
      have C6 := Lib.hid (fun A c w h => flight_any us fu A p c w hp.symm (by omega) (by rw [← hus]; exact hf.filter _) h hfu)
      have C7 := Lib.hid (fun A c w h => flight_any vs fv A q c w hq'.symm (by omega) (by rw [← hvs]; exact hf.filter _) h hfv)
      have C8 := Lib.hid (fun A c w h => check_any ss r A n c w hn (by omega) h hrr)
      have CHK := Lib.hid (fun (hr : r = true) => And.intro (fun A c w h => check_any xs true A a c w ha.symm (by omega) h (by rw [← hxs]; exact Wig.tcheck_filter (by rw [hrr]; exact hr) _)) (And.intro (fun A c w h => check_any ys true A b c w hb.symm (by omega) h (by rw [← hys]; exact Wig.tcheck_filter (by rw [hrr]; exact hr) _)) (And.intro (fun A c w h => check_any us true A p c w hp.symm (by omega) h (by rw [← hus]; exact Wig.tcheck_filter (by rw [hrr]; exact hr) _)) (fun A c w h => check_any vs true A q c w hq'.symm (by omega) h (by rw [← hvs]; exact Wig.tcheck_filter (by rw [hrr]; exact hr) _)))))
      have s1 : a + b = n := by rw [← ha, ← hb, ← hxs, ← hys, hn]; exact Wig.part_len _ _
      have s2 : p + q = n := by rw [← hp, ← hq', ← hus, ← hvs, hn]; exact Wig.part_len _ _
      have e1 : IntKind.i64.wrap ((a : Int) + (b : Int)) = (n : Int) := by rw [IntKind.wrap_i64]; omega
      have e1' : (a : Int) + (b : Int) = (n : Int) := by omega
      have e2 : IntKind.i64.wrap ((p : Int) + (q : Int)) = (n : Int) := by rw [IntKind.wrap_i64]; omega
      have e2' : (p : Int) + (q : Int) = (n : Int) := by omega
      have HSUM := Lib.hid (fun (hs : ∀ x ∈ ss, x.size ≤ 4294967296) => show fx + fy = f ∧ fu + fv = f ∧ f < 1099511627776 from by
        have k1 := Wig.part_flight (Wig.tin tt) (by omega) hs
        have k2 := Wig.part_flight (Wig.tlost next now late) (by omega) hs
        rw [hxs, hys, hfx, hfy, hff] at k1
        rw [hus, hvs, hfu, hfv, hff] at k2
        exact ⟨k1.1, k2.1, k1.2⟩)
      have HN := Lib.hid hn
      have en : IntKind.i64.wrap (n : Int) = (n : Int) := by rw [IntKind.wrap_i64]; omega
      have HE := Lib.hid (And.intro e1 (And.intro e1' (And.intro e2 (And.intro e2' en))))
      have HM := Lib.hid h1
      clear hn hm hf h1 h2 hxs hys ha hb la lb hus hvs hp hq' ht lp lq hrr hff hfx hfy hfu hfv s1 s2 e1 e1' e2 e2' en hnext hnow hlate
      go_enter Try.func5, Try.ntmps5
      go_wp2_with fail
      refine (C0.out _).mono ?_
      rintro e x105 ⟨rfl, hb⟩
      have RA_106 := Lib.hid (RA.out.step hb)
      have RB_106 := Lib.hid (RB.out.step hb)
      have B_106 := Lib.hid (B0.out.trans (hb.mono B0.out.size))
      clear hb RA RB B0
      go_wp2_with fail
      refine (CF.out _ _ _).mono ?_
      rintro e _ ⟨rfl, rfl⟩
      go_wp2_with fail
      go_loopw [12] (fun i wr => AlRel ss x105 i wr) (fun i _ => n - (intOf i).toNat)
      case atStart => exact ⟨0, Nat.zero_le _, rfl, fun j x h _ => absurd h (Nat.not_lt_zero _), rfl⟩
      case round =>
        obtain ⟨k, hk, rfl, hall, rfl⟩ := hrel
        rw [← HN.out] at hk
        have HALL := Lib.hid hall
        clear hall
        by_cases hlt : k < n
        · obtain ⟨⟨pn, pa, pz, pb⟩, hp⟩ : ∃ p, ss[k]? = some p := ⟨_, List.getElem?_eq_getElem (by have := HN.out; omega)⟩
          obtain ⟨b', off, rfl, _, -, -, c2, -⟩ := RA_106.out.at_ hp
          simp only [] at c2
          have i0 : (0 : Int) ≤ (k : Int) := by omega
          have i1 : (k : Int) < (n : Int) := by omega
          have i2 : k < 50 := by have := HM.out; omega
          by_cases hz : pz ≤ 4294967296
          · have dz : decide ((4294967296 : Int) < (pz : Int)) = false := decide_eq_false (by omega)
            have dz' : decide (4294967296 < pz) = false := decide_eq_false (by omega)
            have R := Lib.hid (show ∀ (j : Nat) (x : Wig.Snt), j < k + 1 → ss[j]? = some x → x.size ≤ 4294967296 from fun j x h1 h2 => by
              by_cases e : j = k
              · subst e
                rw [hp] at h2
                cases h2
                exact hz
              · exact HALL.out j x (by omega) h2)
            clear hp hk hz
            go_wp2_with fail
            go_roundw
            case rel => exact ⟨k + 1, by have := HN.out; omega, rfl, R.out, rfl⟩
            case measure => simp [intOf]; omega
          · have dz : decide ((4294967296 : Int) < (pz : Int)) = true := decide_eq_true (by omega)
            have dz' : decide (4294967296 < pz) = true := decide_eq_true (by omega)
            clear hp hk hz
            go_wp2_with fail
            (try rw [Exit.noGoto_ret])
            go_ret
            exact ⟨rfl, B_106.out⟩
        · obtain ⟨f1, f2, f3⟩ := HSUM.out (all_sizes fun j x h1 h2 => HALL.out j x (by have := HN.out; omega) h2)
          obtain ⟨e1, e1', e2, e2', en⟩ := HE.out
          have t2 : decide (k < n) = false := decide_eq_false hlt
          have fe1 : IntKind.u64.wrap ((fx : Int) + (fy : Int)) = (f : Int) := by rw [IntKind.wrap_u64]; omega
          have fe1' : (fx : Int) + (fy : Int) = (f : Int) := by omega
          have fe2 : IntKind.u64.wrap ((fu : Int) + (fv : Int)) = (f : Int) := by rw [IntKind.wrap_u64]; omega
          have fe2' : (fu : Int) + (fv : Int) = (f : Int) := by omega
          have fe3 : IntKind.u64.wrap (f : Int) = (f : Int) := by rw [IntKind.wrap_u64]; omega
          clear f1 f2 f3 hk hlt HSUM
          cases r with
          | true =>
            obtain ⟨K1, K2, K3, K4⟩ := CHK.out rfl
            have K1 := Lib.hid K1
            have K2 := Lib.hid K2
            have K3 := Lib.hid K3
            have K4 := Lib.hid K4
            clear CHK
            go_wp2_with fail
            refine (C1.out _ _ _ _ _ RA_106.out RB_106.out).mono ?_
            rintro e x108 ⟨AX1, cX1, AY1, cY1, rfl, hra, hrb, hb⟩
            have RA_109 := Lib.hid (RA_106.out.step hb)
            have RB_109 := Lib.hid (RB_106.out.step hb)
            have B_109 := Lib.hid (B_106.out.trans (hb.mono B_106.out.size))
            have RX1 := Lib.hid hra
            have RY1 := Lib.hid hrb
            clear hb hra hrb RA_106 RB_106 B_106
            go_wp2_with fail
            refine (C2.out _ _ _ RA_109.out).mono ?_
            rintro e x110 ⟨AX2, cX2, AY2, cY2, rfl, hra, hrb, hb⟩
            have RA_111 := Lib.hid (RA_109.out.step hb)
            have RB_111 := Lib.hid (RB_109.out.step hb)
            have X1_111 := Lib.hid (RX1.out.step hb)
            have Y1_111 := Lib.hid (RY1.out.step hb)
            have B_111 := Lib.hid (B_109.out.trans (hb.mono B_109.out.size))
            have RX2 := Lib.hid hra
            have RY2 := Lib.hid hrb
            clear hb hra hrb RA_109 RB_109 RX1 RY1 B_109
            go_wp2_with fail
            refine (C3.out _ _ _ RA_111.out).mono ?_
            rintro e x112 ⟨rfl, hb⟩
            have RA_113 := Lib.hid (RA_111.out.step hb)
            have RB_113 := Lib.hid (RB_111.out.step hb)
            have X1_113 := Lib.hid (X1_111.out.step hb)
            have Y1_113 := Lib.hid (Y1_111.out.step hb)
            have X2_113 := Lib.hid (RX2.out.step hb)
            have Y2_113 := Lib.hid (RY2.out.step hb)
            have B_113 := Lib.hid (B_111.out.trans (hb.mono B_111.out.size))
            clear hb RA_111 RB_111 X1_111 Y1_111 RX2 RY2 B_111
            go_wp2_with fail
            refine (C4.out _ _ _ X1_113.out).mono ?_
            rintro e x114 ⟨rfl, hb⟩
            have RA_115 := Lib.hid (RA_113.out.step hb)
            have RB_115 := Lib.hid (RB_113.out.step hb)
            have X1_115 := Lib.hid (X1_113.out.step hb)
            have Y1_115 := Lib.hid (Y1_113.out.step hb)
            have X2_115 := Lib.hid (X2_113.out.step hb)
            have Y2_115 := Lib.hid (Y2_113.out.step hb)
            have B_115 := Lib.hid (B_113.out.trans (hb.mono B_113.out.size))
            clear hb RA_113 RB_113 X1_113 Y1_113 X2_113 Y2_113 B_113
            go_wp2_with fail
            refine (C5.out _ _ _ Y1_115.out).mono ?_
            rintro e x116 ⟨rfl, hb⟩
            have RA_117 := Lib.hid (RA_115.out.step hb)
            have RB_117 := Lib.hid (RB_115.out.step hb)
            have X1_117 := Lib.hid (X1_115.out.step hb)
            have Y1_117 := Lib.hid (Y1_115.out.step hb)
            have X2_117 := Lib.hid (X2_115.out.step hb)
            have Y2_117 := Lib.hid (Y2_115.out.step hb)
            have B_117 := Lib.hid (B_115.out.trans (hb.mono B_115.out.size))
            clear hb RA_115 RB_115 X1_115 Y1_115 X2_115 Y2_115 B_115
            go_wp2_with fail
            refine (C6.out _ _ _ X2_117.out).mono ?_
            rintro e x118 ⟨rfl, hb⟩
            have RA_119 := Lib.hid (RA_117.out.step hb)
            have RB_119 := Lib.hid (RB_117.out.step hb)
            have X1_119 := Lib.hid (X1_117.out.step hb)
            have Y1_119 := Lib.hid (Y1_117.out.step hb)
            have X2_119 := Lib.hid (X2_117.out.step hb)
            have Y2_119 := Lib.hid (Y2_117.out.step hb)
            have B_119 := Lib.hid (B_117.out.trans (hb.mono B_117.out.size))
            clear hb RA_117 RB_117 X1_117 Y1_117 X2_117 Y2_117 B_117
            go_wp2_with fail
            refine (C7.out _ _ _ Y2_119.out).mono ?_
            rintro e x120 ⟨rfl, hb⟩
            have RA_121 := Lib.hid (RA_119.out.step hb)
            have RB_121 := Lib.hid (RB_119.out.step hb)
            have X1_121 := Lib.hid (X1_119.out.step hb)
            have Y1_121 := Lib.hid (Y1_119.out.step hb)
            have X2_121 := Lib.hid (X2_119.out.step hb)
            have Y2_121 := Lib.hid (Y2_119.out.step hb)
            have B_121 := Lib.hid (B_119.out.trans (hb.mono B_119.out.size))
            clear hb RA_119 RB_119 X1_119 Y1_119 X2_119 Y2_119 B_119
            go_wp2_with fail
            refine (C8.out _ _ _ RA_121.out).mono ?_
            rintro e x122 ⟨rfl, hb⟩
            have RA_123 := Lib.hid (RA_121.out.step hb)
            have RB_123 := Lib.hid (RB_121.out.step hb)
            have X1_123 := Lib.hid (X1_121.out.step hb)
            have Y1_123 := Lib.hid (Y1_121.out.step hb)
            have X2_123 := Lib.hid (X2_121.out.step hb)
            have Y2_123 := Lib.hid (Y2_121.out.step hb)
            have B_123 := Lib.hid (B_121.out.trans (hb.mono B_121.out.size))
            clear hb RA_121 RB_121 X1_121 Y1_121 X2_121 Y2_121 B_121
            go_wp2_with fail
            refine (K1.out _ _ _ X1_123.out).mono ?_
            rintro e x124 ⟨rfl, hb⟩
            have RA_125 := Lib.hid (RA_123.out.step hb)
            have RB_125 := Lib.hid (RB_123.out.step hb)
            have X1_125 := Lib.hid (X1_123.out.step hb)
            have Y1_125 := Lib.hid (Y1_123.out.step hb)
            have X2_125 := Lib.hid (X2_123.out.step hb)
            have Y2_125 := Lib.hid (Y2_123.out.step hb)
            have B_125 := Lib.hid (B_123.out.trans (hb.mono B_123.out.size))
            clear hb RA_123 RB_123 X1_123 Y1_123 X2_123 Y2_123 B_123
            go_wp2_with fail
            refine (K2.out _ _ _ Y1_125.out).mono ?_
            rintro e x126 ⟨rfl, hb⟩
            have RA_127 := Lib.hid (RA_125.out.step hb)
            have RB_127 := Lib.hid (RB_125.out.step hb)
            have X1_127 := Lib.hid (X1_125.out.step hb)
            have Y1_127 := Lib.hid (Y1_125.out.step hb)
            have X2_127 := Lib.hid (X2_125.out.step hb)
            have Y2_127 := Lib.hid (Y2_125.out.step hb)
            have B_127 := Lib.hid (B_125.out.trans (hb.mono B_125.out.size))
            clear hb RA_125 RB_125 X1_125 Y1_125 X2_125 Y2_125 B_125
            go_wp2_with fail
            refine (K3.out _ _ _ X2_127.out).mono ?_
            rintro e x128 ⟨rfl, hb⟩
            have RA_129 := Lib.hid (RA_127.out.step hb)
            have RB_129 := Lib.hid (RB_127.out.step hb)
            have X1_129 := Lib.hid (X1_127.out.step hb)
            have Y1_129 := Lib.hid (Y1_127.out.step hb)
            have X2_129 := Lib.hid (X2_127.out.step hb)
            have Y2_129 := Lib.hid (Y2_127.out.step hb)
            have B_129 := Lib.hid (B_127.out.trans (hb.mono B_127.out.size))
            clear hb RA_127 RB_127 X1_127 Y1_127 X2_127 Y2_127 B_127
            go_wp2_with fail
            refine (K4.out _ _ _ Y2_129.out).mono ?_
            rintro e x130 ⟨rfl, hb⟩
            have RA_131 := Lib.hid (RA_129.out.step hb)
            have RB_131 := Lib.hid (RB_129.out.step hb)
            have X1_131 := Lib.hid (X1_129.out.step hb)
            have Y1_131 := Lib.hid (Y1_129.out.step hb)
            have X2_131 := Lib.hid (X2_129.out.step hb)
            have Y2_131 := Lib.hid (Y2_129.out.step hb)
            have B_131 := Lib.hid (B_129.out.trans (hb.mono B_129.out.size))
            clear hb RA_129 RB_129 X1_129 Y1_129 X2_129 Y2_129 B_129
            go_wp2_with fail
            go_ret
            exact ⟨rfl, B_131.out⟩
          | false =>
            clear CHK
            go_wp2_with fail
            refine (C1.out _ _ _ _ _ RA_106.out RB_106.out).mono ?_
            rintro e x132 ⟨AX1, cX1, AY1, cY1, rfl, hra, hrb, hb⟩
            have RA_133 := Lib.hid (RA_106.out.step hb)
            have RB_133 := Lib.hid (RB_106.out.step hb)
            have B_133 := Lib.hid (B_106.out.trans (hb.mono B_106.out.size))
            have RX1 := Lib.hid hra
            have RY1 := Lib.hid hrb
            clear hb hra hrb RA_106 RB_106 B_106
            go_wp2_with fail
            refine (C2.out _ _ _ RA_133.out).mono ?_
            rintro e x134 ⟨AX2, cX2, AY2, cY2, rfl, hra, hrb, hb⟩
            have RA_135 := Lib.hid (RA_133.out.step hb)
            have RB_135 := Lib.hid (RB_133.out.step hb)
            have X1_135 := Lib.hid (RX1.out.step hb)
            have Y1_135 := Lib.hid (RY1.out.step hb)
            have B_135 := Lib.hid (B_133.out.trans (hb.mono B_133.out.size))
            have RX2 := Lib.hid hra
            have RY2 := Lib.hid hrb
            clear hb hra hrb RA_133 RB_133 RX1 RY1 B_133
            go_wp2_with fail
            refine (C3.out _ _ _ RA_135.out).mono ?_
            rintro e x136 ⟨rfl, hb⟩
            have RA_137 := Lib.hid (RA_135.out.step hb)
            have RB_137 := Lib.hid (RB_135.out.step hb)
            have X1_137 := Lib.hid (X1_135.out.step hb)
            have Y1_137 := Lib.hid (Y1_135.out.step hb)
            have X2_137 := Lib.hid (RX2.out.step hb)
            have Y2_137 := Lib.hid (RY2.out.step hb)
            have B_137 := Lib.hid (B_135.out.trans (hb.mono B_135.out.size))
            clear hb RA_135 RB_135 X1_135 Y1_135 RX2 RY2 B_135
            go_wp2_with fail
            refine (C4.out _ _ _ X1_137.out).mono ?_
            rintro e x138 ⟨rfl, hb⟩
            have RA_139 := Lib.hid (RA_137.out.step hb)
            have RB_139 := Lib.hid (RB_137.out.step hb)
            have X1_139 := Lib.hid (X1_137.out.step hb)
            have Y1_139 := Lib.hid (Y1_137.out.step hb)
            have X2_139 := Lib.hid (X2_137.out.step hb)
            have Y2_139 := Lib.hid (Y2_137.out.step hb)
            have B_139 := Lib.hid (B_137.out.trans (hb.mono B_137.out.size))
            clear hb RA_137 RB_137 X1_137 Y1_137 X2_137 Y2_137 B_137
            go_wp2_with fail
            refine (C5.out _ _ _ Y1_139.out).mono ?_
            rintro e x140 ⟨rfl, hb⟩
            have RA_141 := Lib.hid (RA_139.out.step hb)
            have RB_141 := Lib.hid (RB_139.out.step hb)
            have X1_141 := Lib.hid (X1_139.out.step hb)
            have Y1_141 := Lib.hid (Y1_139.out.step hb)
            have X2_141 := Lib.hid (X2_139.out.step hb)
            have Y2_141 := Lib.hid (Y2_139.out.step hb)
            have B_141 := Lib.hid (B_139.out.trans (hb.mono B_139.out.size))
            clear hb RA_139 RB_139 X1_139 Y1_139 X2_139 Y2_139 B_139
            go_wp2_with fail
            refine (C6.out _ _ _ X2_141.out).mono ?_
            rintro e x142 ⟨rfl, hb⟩
            have RA_143 := Lib.hid (RA_141.out.step hb)
            have RB_143 := Lib.hid (RB_141.out.step hb)
            have X1_143 := Lib.hid (X1_141.out.step hb)
            have Y1_143 := Lib.hid (Y1_141.out.step hb)
            have X2_143 := Lib.hid (X2_141.out.step hb)
            have Y2_143 := Lib.hid (Y2_141.out.step hb)
            have B_143 := Lib.hid (B_141.out.trans (hb.mono B_141.out.size))
            clear hb RA_141 RB_141 X1_141 Y1_141 X2_141 Y2_141 B_141
            go_wp2_with fail
            refine (C7.out _ _ _ Y2_143.out).mono ?_
            rintro e x144 ⟨rfl, hb⟩
            have RA_145 := Lib.hid (RA_143.out.step hb)
            have RB_145 := Lib.hid (RB_143.out.step hb)
            have X1_145 := Lib.hid (X1_143.out.step hb)
            have Y1_145 := Lib.hid (Y1_143.out.step hb)
            have X2_145 := Lib.hid (X2_143.out.step hb)
            have Y2_145 := Lib.hid (Y2_143.out.step hb)
            have B_145 := Lib.hid (B_143.out.trans (hb.mono B_143.out.size))
            clear hb RA_143 RB_143 X1_143 Y1_143 X2_143 Y2_143 B_143
            go_wp2_with fail
            refine (C8.out _ _ _ RA_145.out).mono ?_
            rintro e x146 ⟨rfl, hb⟩
            have RA_147 := Lib.hid (RA_145.out.step hb)
            have RB_147 := Lib.hid (RB_145.out.step hb)
            have X1_147 := Lib.hid (X1_145.out.step hb)
            have Y1_147 := Lib.hid (Y1_145.out.step hb)
            have X2_147 := Lib.hid (X2_145.out.step hb)
            have Y2_147 := Lib.hid (Y2_145.out.step hb)
            have B_147 := Lib.hid (B_145.out.trans (hb.mono B_145.out.size))
            clear hb RA_145 RB_145 X1_145 Y1_145 X2_145 Y2_145 B_145
            go_wp2_with fail
            go_ret
            exact ⟨rfl, B_147.out⟩
    · skip
      have CF := Lib.hid (fun A c w => few_any A n c true w (decide_eq_true h1))
      have dm : decide ((50 : Int) < (m : Int)) = true := decide_eq_true (by omega)
      have dm' : decide (50 < m) = true := decide_eq_true (by omega)
      clear hn hf h1 h2 hm hnext hnow hlate
      go_enter Try.func5, Try.ntmps5
      go_wp2_with fail
      refine (C0.out _).mono ?_
      rintro e x148 ⟨rfl, hb⟩
      have RA_149 := Lib.hid (RA.out.step hb)
      have RB_149 := Lib.hid (RB.out.step hb)
      have B_149 := Lib.hid (B0.out.trans (hb.mono B0.out.size))
      clear hb RA RB B0
      go_wp2_with fail
      refine (CF.out _ _ _).mono ?_
      rintro e _ ⟨rfl, rfl⟩
      go_wp2_with fail
      go_ret
      exact ⟨rfl, B_149.out⟩
  · skip
    have CF := Lib.hid (fun A c w => few_any A n c false w (decide_eq_false h1))
    clear hn hf h1 hm hnext hnow hlate
    go_enter Try.func5, Try.ntmps5
    go_wp2_with fail
    refine (C0.out _).mono ?_
    rintro e x151 ⟨rfl, hb⟩
    have RA_152 := Lib.hid (RA.out.step hb)
    have RB_152 := Lib.hid (RB.out.step hb)
    have B_152 := Lib.hid (B0.out.trans (hb.mono B0.out.size))
    clear hb RA RB B0
    go_wp2_with fail
    refine (CF.out _ _ _).mono ?_
    rintro e _ ⟨rfl, rfl⟩
    go_wp2_with fail
    go_ret
    exact ⟨rfl, B_152.out⟩

set_option maxRecDepth 100000 in
theorem lifted (os : Os) (started : os.Started) (H : Type) (enc : TypeId × Value → H) :
    ReturnsInHanded {} Try.checked os 5 .any (Rows.ledgerAllSpec.pre6 enc Try.prog Try.f5 Rows.ledgerAllRow.domain false) (Rows.ledgerAllSpec.post enc Try.prog Try.f5 false true false false) := by
  refine returnsInHanded_of_change (C := Try.checked) own started (by kernel_rfl) Try.func5
    (ChangeSpec.witness6 (enc := enc) (C := Try.checked) false ⟨#[], #[.slice none 0 0, .slice none 0 0, .int .u64 0, .int .u64 0, .int .u64 0], []⟩ 8 (by kernel_rfl) (by kernel_rfl) (by kernel_rfl) (by kernel_rfl)) ?_
  intro W base args ds gs before hval0 hW hcnd _
  have hval : ∀ (j : Nat) t v, Try.f5.params[j]? = some t → args[j]? = some v → Value.okWide Try.prog W .any base t v := hval0
  have hW' := hW
  obtain ⟨p, q, hA0, hV, rfl, hfz, hnd⟩ := hW
  have hA : DataW.TrodAll enc Try.prog W 0 (fun _ => true) true Try.f5.params.toList args.toList ds p := hA0
  obtain ⟨rfl, rfl⟩ := trodVars_none hV
  simp only [List.append_nil] at hW'
  have hlow : ∀ x ∈ p, x.block < W.heap.size := fun x hx => hW'.lt x hx
  have hA2 := hA
  rw [Try.params5] at hval hA2
  obtain ⟨v0, vs0, d0, ds0, p0, q0, hargs, rfl, rfl, h0, r0⟩ := trodAll_cons hA2
  obtain ⟨v1, vs1, d1, ds1, p1, q1, rfl, rfl, rfl, h1, r1⟩ := trodAll_cons r0
  obtain ⟨v2, vs2, d2, ds2, p2, q2, rfl, rfl, rfl, h2, r2⟩ := trodAll_cons r1
  obtain ⟨v3, vs3, d3, ds3, p3, q3, rfl, rfl, rfl, h3, r3⟩ := trodAll_cons r2
  obtain ⟨v4, vs4, d4, ds4, p4, q4, rfl, rfl, rfl, h4, r4⟩ := trodAll_cons r3
  obtain ⟨rfl, rfl, rfl⟩ := trodAll_nil r4
  obtain rfl : args = #[v0, v1, v2, v3, v4] := by cases args; simp_all
  obtain ⟨A0, c0, ss0, rfl, hf0, hr0, hl0, hc0⟩ := open_sents Try.underlying22 Try.underlying37 (by kernel_rfl) (by kernel_rfl) rfl rfl rfl rfl Try.underlying29 Try.underlying4 (hval 0 22 v0 rfl rfl) h0 (fun x hx => hlow x (by simp [hx]))
  obtain ⟨A1, c1, ss1, rfl, hf1, hr1, hl1, hc1⟩ := open_spansc Try.underlying23 Try.underlying43 (by kernel_rfl) (by kernel_rfl) rfl rfl Try.underlying29 (hval 1 23 v1 rfl rfl) h1 (fun x hx => hlow x (by simp [hx]))
  obtain ⟨n2, rfl, hn2⟩ := open_u64 Try.underlying29 (hval 2 29 v2 rfl rfl) h2
  obtain ⟨n3, rfl, hn3⟩ := open_u64 Try.underlying29 (hval 3 29 v3 rfl rfl) h3
  obtain ⟨n4, rfl, hn4⟩ := open_u64 Try.underlying29 (hval 4 29 v4 rfl rfl) h4
  refine (walk A0 c0 ss0 A1 c1 ss1 n2 n3 n4 hf0 hl0 hc0 hf1 hl1 hc1 hn2 hn3 hn4 W hr0 hr1).mono fun e W' ⟨he, hg⟩ => ?_
  subst he
  exact ⟨_, rfl, law_true laid_out (by kernel_rfl) rfl Try.underlying4 (by kernel_rfl) hW' hA rfl rfl rfl hg⟩

theorem over : Rows.ledgerAllRow.holds Try.pinned (OpenSpec.ofChange Rows.ledgerAllSpec) :=
  OpenClaim.holds_of_wide 5 Try.f5 rfl rfl rfl rfl rfl rfl rfl ⟨rfl, rfl, rfl, rfl, rfl⟩ rfl rfl rfl rfl rfl (by kernel_rfl) Try.func5 (by kernel_rfl)
    (of_decide_eq_true (by kernel_rfl)) (by unfold Func.isWrapper; first | (rw [if_pos (by decide +kernel)]; kernel_rfl) | (rw [if_neg (by decide +kernel)]; exact ⟨rfl, rfl⟩))
    (fun os started H enc _ => lifted os started H enc)

/-- The statement. -/
theorem proved : Rows.LedgerAllSaid := over
end Go.Proofs.Ythdhcppgpnnccaa.ledgerAll
