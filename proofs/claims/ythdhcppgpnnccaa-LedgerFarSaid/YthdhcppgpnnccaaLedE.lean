/-
  What package ledger's Long and the document's return. Conditions: the lists read as packets of 64 bits; they are not too long.
-/
import Derived.Test.YthdhcppgpnnccaaLedA
namespace Go.Proofs.Ythdhcppgpnnccaa
open Go.ChangeShapes Go.WideShapes Go.ChangeAt Go.RowKit Go.Deep
set_option linter.unusedVariables false

def LoRel (time : Nat) (l : List Wig.Snt) (w : World) (v i : Value) (wr : World) : Prop := ∃ k e : Nat, k ≤ l.length ∧ e < 18446744073709551616 ∧ v = .int .u64 (e : Int) ∧ i = .int .i64 (k : Int) ∧ Wig.LAt time l k e ∧ Below w.heap.size w wr
set_option maxHeartbeats 4000000 in
theorem long_any (l : List Wig.Snt) (time : Nat) (r : Bool) (A : Option Addr) (n c : Nat) (w : World) (hn : n = l.length) (hm : n ≤ 10000) (hf : Wig.TFits l) (ht : time < 18446744073709551616) (hr : RdT w w.heap.size A l) (hs : Wig.tlong time l = r) :
    Calls Try.prog 21 #[.slice A n c, .int .u64 (time : Int)] w fun e w' => e = .returned (.bool r) ∧ Below w.heap.size w w' := by
  have HR := Lib.hid hr
  have HN := Lib.hid hn
  have HF := Lib.hid hf
  have HT := Lib.hid ht
  have HS := Lib.hid hs
  clear hr hn hf ht hs
  go_enter Try.func21, Try.ntmps21
  go_wp2_with fail
  go_loopw [5, 10] (fun v i wr => LoRel time l w v i wr) (fun _ i _ => n - (intOf i).toNat)
  case atStart => exact ⟨0, 0, Nat.zero_le _, by omega, rfl, rfl, .inl rfl, Below.refl _ _⟩
  case round =>
    obtain ⟨k, e, hk, hel, rfl, rfl, hat, hbel⟩ := hrel
    rw [← HN.out] at hk
    have KB := Lib.hid hbel
    have KA := Lib.hid hat
    have KE := Lib.hid hel
    clear hel
    by_cases hlt : k < n
    · obtain ⟨⟨pn, pa, pz, pb⟩, hp⟩ : ∃ p, l[k]? = some p := ⟨_, List.getElem?_eq_getElem (by have := HN.out; omega)⟩
      obtain ⟨b, off, rfl, hb, c0, c1, c2, c3⟩ := (HR.out.below hbel).at_ hp
      simp only [] at c0 c1 c2 c3
      have i0 : (0 : Int) ≤ (k : Int) := by omega
      have i1 : (k : Int) < (n : Int) := by omega
      have ok := Wig.tfits_at HF.out hp
      have OK := Lib.hid ok
      obtain ⟨wb, hwb⟩ : ∃ wb, wb = wr.alloc (.cells #[.int .u64 (pn : Int), .int .u64 (pa : Int), .int .u64 (pz : Int), .bool pb] 37) := ⟨_, rfl⟩
      have hb1 : Below wr.heap.size wr wb := by rw [hwb]; exact (Below.refl _ _).alloc (Nat.le_refl _) _
      have B1 := Lib.hid (KB.out.trans (hb1.mono KB.out.size))
      have X1 := Lib.hid (show BxT wr.heap.size pn pa pz pb wb by rw [hwb]; exact BxT.new wr _ _ _ _)
      have S1 := Lib.hid (show wr.heap.size < wb.heap.size by rw [hwb]; simp)
      obtain ⟨k0, k1, k2, k3⟩ := X1.out
      by_cases hk0 : k = 0
      · have R := Lib.hid (show Wig.LAt time l (k + 1) pa by subst hk0; exact Wig.lat_first hp)
        have d0 : ((k : Int) == 0) = true := by simp; omega
        have d0' : decide (k = 0) = true := decide_eq_true hk0
        clear hp hbel hat ok hk0 hk hb1 hb
        go_wp2_with fail
        rw [← hwb]
        clear hwb
        clear c0 c1 c2 c3
        go_wp2_with fail
        go_quiet (fail)
        have m1 := k1
        go_wp2_with fail
        go_roundw
        case rel => exact ⟨k + 1, pa, by have := HN.out; omega, OK.out.2.1, rfl, rfl, R.out, below_drewN' B1.out _⟩
        case measure => simp [intOf]; omega
      · obtain ⟨j, hj⟩ : ∃ j, k = j + 1 := ⟨k - 1, by omega⟩
        obtain ⟨⟨qn, qa, qz, qb⟩, hq⟩ : ∃ q, l[j]? = some q := ⟨_, List.getElem?_eq_getElem (by have := HN.out; omega)⟩
        obtain ⟨b2, off2, e2, hb2, d1, -, -, -⟩ := (HR.out.below hbel).at_ hq
        injection e2 with e2
        injection e2 with ea eb
        subst ea eb
        simp only [] at d1
        have g1 : wb.cell? ⟨b, off + j * 4, none⟩ = some (.int .u64 (qn : Int)) := by rw [hwb]; exact cell_box d1 _
        have okq := Wig.tfits_at HF.out hq
        obtain ⟨x, hx⟩ : ∃ x, Wig.fadd qn 1 = x := ⟨_, rfl⟩
        have CA := Lib.hid (fun w => show Calls Try.prog 28 #[.int .u64 (qn : Int), .int .u64 1] w (fun e w' => e = .returned (.int .u64 (x : Int)) ∧ w = w') by rw [← hx]; exact add_any qn 1 w okq.1 (by omega))
        obtain ⟨y, hy⟩ : ∃ y, Wig.fadd e time = y := ⟨_, rfl⟩
        have CT := Lib.hid (fun w => add_any e time w KE.out HT.out)
        rw [hy] at CT
        have d0 : ((k : Int) == 0) = false := by simp; omega
        have d0' : decide (k = 0) = false := decide_eq_false hk0
        have fj : IntKind.i64.wrap ((k : Int) - 1) = (j : Int) := by rw [IntKind.wrap_i64]; omega
        have fj2 : (k : Int) - 1 = (j : Int) := by omega
        have fj3 : IntKind.i64.wrap (j : Int) = (j : Int) := by rw [IntKind.wrap_i64]; omega
        have j0 : (0 : Int) ≤ (j : Int) := by omega
        have j1 : (j : Int) < (n : Int) := by omega
        have hp' : l[j + 1]? = some ⟨pn, pa, pz, pb⟩ := by rw [← hj]; exact hp
        have hat' : Wig.LAt time l (j + 1) e := by rw [← hj]; exact hat
        by_cases hne : pn = x
        · obtain ⟨z, hz⟩ : ∃ z, z = min e pa := ⟨_, rfl⟩
          have m1 : (if pa < e then (pa : Int) else (e : Int)) = (z : Int) := by split <;> omega
          have m2 : min (e : Int) (pa : Int) = (z : Int) := by omega
          have dn : ((x : Int) != (pn : Int)) = false := by simp; omega
          have ZL := Lib.hid (show z < 18446744073709551616 by have := KE.out; omega)
          by_cases hto : y ≤ pa
          · have R := Lib.hid (show true = r by rw [← HS.out]; exact (Wig.lat_hit hat' hq hp' (by rw [hx]; exact hne) (by rw [hy]; exact hto)).symm)
            have dt : decide (y ≤ pa) = true := decide_eq_true hto
            clear hp hp' hq hbel hat hat' ok okq hk0 hk hb hb1 hb2 hj hx hy hne hto hz m1 m2
            go_wp2_with fail
            rw [← hwb]
            clear hwb c0 c1 c2 c3 d1
            go_wp2_with fail
            go_quiet (first | (go_at_call 28; exact quiet_eq (CA.out _)) | fail)
            go_wp2_with fail
            generalize hw2 : wb.drewN _ = w2
            have B2 := Lib.hid (show Below w.heap.size w w2 by rw [← hw2]; exact below_drewN' B1.out _)
            have X2 := Lib.hid (show BxT wr.heap.size pn pa pz pb w2 by rw [← hw2]; exact ⟨X1.out.c0, X1.out.c1, X1.out.c2, X1.out.c3⟩)
            clear hw2 k0 k1 k2 k3 g1
            obtain ⟨k0, k1, k2, k3⟩ := X2.out
            go_quiet (first | (go_at_call 28; exact quiet_eq (CT.out _)) | fail)
            go_wp2_with fail
            go_ret
            exact ⟨ret_bool R.out, below_drewN' B2.out _⟩
          · have R := Lib.hid (show Wig.LAt time l (k + 1) z by rw [hj, hz]; exact Wig.lat_next hat' hq hp' (by rw [hx]; exact hne) (by rw [hy]; exact hto))
            have dt : decide (y ≤ pa) = false := decide_eq_false hto
            clear hp hp' hq hbel hat hat' ok okq hk0 hk hb hb1 hb2 hj hx hy hne hto hz
            go_wp2_with fail
            rw [← hwb]
            clear hwb c0 c1 c2 c3 d1
            go_wp2_with fail
            go_quiet (first | (go_at_call 28; exact quiet_eq (CA.out _)) | fail)
            go_wp2_with fail
            generalize hw2 : wb.drewN _ = w2
            have B2 := Lib.hid (show Below w.heap.size w w2 by rw [← hw2]; exact below_drewN' B1.out _)
            have X2 := Lib.hid (show BxT wr.heap.size pn pa pz pb w2 by rw [← hw2]; exact ⟨X1.out.c0, X1.out.c1, X1.out.c2, X1.out.c3⟩)
            clear hw2 k0 k1 k2 k3 g1
            obtain ⟨k0, k1, k2, k3⟩ := X2.out
            go_quiet (first | (go_at_call 28; exact quiet_eq (CT.out _)) | fail)
            go_wp2_with fail
            go_roundw
            case rel => exact ⟨k + 1, z, by have := HN.out; omega, ZL.out, rfl, rfl, R.out, below_drewN' B2.out _⟩
            case measure => simp [intOf]; omega
        · have R := Lib.hid (show Wig.LAt time l (k + 1) pa by rw [hj]; exact Wig.lat_gap hat' hq hp' (by rw [hx]; exact hne))
          have dn : ((x : Int) != (pn : Int)) = true := by simp; omega
          clear hp hp' hq hbel hat hat' ok okq hk0 hk hb hb1 hb2 hj hx hy hne CT
          go_wp2_with fail
          rw [← hwb]
          clear hwb c0 c1 c2 c3 d1
          go_wp2_with fail
          go_quiet (first | (go_at_call 28; exact quiet_eq (CA.out _)) | fail)
          go_wp2_with fail
          go_roundw
          case rel => exact ⟨k + 1, pa, by have := HN.out; omega, OK.out.2.1, rfl, rfl, R.out, below_drewN' B1.out _⟩
          case measure => simp [intOf]; omega
    · have R := Lib.hid (show false = r by rw [← HS.out]; exact (Wig.lat_end hat (by have := HN.out; omega)).symm)
      have t2 : decide (k < n) = false := decide_eq_false hlt
      clear hbel hat hk hlt
      go_wp2_with fail
      go_ret
      exact ⟨ret_bool R.out, KB.out⟩

def RloRel (time : Nat) (l : List Wig.Snt) (r : Bool) (w : World) (i : Value) (wr : World) : Prop := ∃ k : Nat, k ≤ l.length ∧ i = .int .i64 (k : Int) ∧ Wig.tlong time (l.drop k) = r ∧ Below w.heap.size w wr
def RliRel (time : Nat) (l : List Wig.Snt) (i : Nat) (w : World) (v : Value) (wr : World) : Prop := ∃ k : Nat, k ≤ l.length ∧ v = .int .i64 (k : Int) ∧ i < k ∧ Wig.RAt time l i k ∧ Below w.heap.size w wr
set_option maxHeartbeats 8000000 in
theorem rlong_any (l : List Wig.Snt) (time : Nat) (r : Bool) (A : Option Addr) (n c : Nat) (w : World) (hn : n = l.length) (hm : n ≤ 10000) (hf : Wig.TFits l) (ht : time < 18446744073709551616) (hr : RdT w w.heap.size A l) (hs : Wig.tlong time l = r) :
    Calls Try.prog 22 #[.slice A n c, .int .u64 (time : Int)] w fun e w' => e = .returned (.bool r) ∧ Below w.heap.size w w' := by
  have HR := Lib.hid hr
  have HN := Lib.hid hn
  have HF := Lib.hid hf
  have HT := Lib.hid ht
  have HS := Lib.hid hs
  clear hr hn hf ht hs
  go_enter Try.func22, Try.ntmps22
  go_wp2_with fail
  go_loopw [5] (fun i wr => RloRel time l r w i wr) (fun i _ => n - (intOf i).toNat)
  case atStart => exact ⟨0, Nat.zero_le _, rfl, by rw [List.drop_zero]; exact HS.out, Below.refl _ _⟩
  case round =>
    obtain ⟨i, hi, rfl, hlo, hbel⟩ := hrel
    rw [← HN.out] at hi
    have KB := Lib.hid hbel
    have KL := Lib.hid hlo
    by_cases hlt : i < n
    · obtain ⟨⟨pn, pa, pz, pb⟩, hp⟩ : ∃ p, l[i]? = some p := ⟨_, List.getElem?_eq_getElem (by have := HN.out; omega)⟩
      have HP := Lib.hid hp
      have ST := Lib.hid (show RliRel time l i w (.int .i64 ((i : Int) + 1)) wr from ⟨i + 1, by have := HN.out; omega, by simp, by omega, Wig.rat_first hp, hbel⟩)
      have okp := Wig.tfits_at HF.out hp
      obtain ⟨y, hy⟩ : ∃ y, Wig.fadd pa time = y := ⟨_, rfl⟩
      have CT := Lib.hid (fun w => radd_any pa time w okp.2.1 HT.out)
      rw [hy] at CT
      have HY := Lib.hid hy
      have j0 : (0 : Int) ≤ (i : Int) := by omega
      have j1 : (i : Int) < (n : Int) := by omega
      have fi : IntKind.i64.wrap ((i : Int) + 1) = (i : Int) + 1 := by rw [IntKind.wrap_i64]; omega
      clear hp hlo hbel KB okp hy
      go_wp2_with fail
      go_loopw [6] (fun v wr => RliRel time l i w v wr) (fun v _ => n - (intOf v).toNat)
      case atStart => exact ST.out
      case round =>
        obtain ⟨k, hk, rfl, hik, hat, hbel⟩ := hrel
        rw [← HN.out] at hk
        have KB := Lib.hid hbel
        obtain ⟨j, hj⟩ : ∃ j, k = j + 1 := ⟨k - 1, by omega⟩
        obtain ⟨⟨qn, qa, qz, qb⟩, hq⟩ : ∃ q, l[j]? = some q := ⟨_, List.getElem?_eq_getElem (by have := HN.out; omega)⟩
        have hat' : Wig.RAt time l i (j + 1) := by rw [← hj]; exact hat
        by_cases hlt2 : k < n
        · obtain ⟨⟨sn, sa, sz, sb⟩, hk'⟩ : ∃ q, l[k]? = some q := ⟨_, List.getElem?_eq_getElem (by have := HN.out; omega)⟩
          obtain ⟨b, off, rfl, hb, c0, c1, -, -⟩ := (HR.out.below hbel).at_ hk'
          obtain ⟨b2, off2, e2, -, d1, -, -, -⟩ := (HR.out.below hbel).at_ hq
          injection e2 with e2
          injection e2 with ea eb
          subst ea eb
          obtain ⟨b3, off3, e3, -, -, d2, -, -⟩ := (HR.out.below hbel).at_ HP.out
          injection e3 with e3
          injection e3 with ea eb
          subst ea eb
          simp only [] at c0 c1 d1 d2
          have hs' : l[j + 1]? = some ⟨sn, sa, sz, sb⟩ := by rw [← hj]; exact hk'
          have okq := Wig.tfits_at HF.out hq
          obtain ⟨x, hx⟩ : ∃ x, Wig.fadd qn 1 = x := ⟨_, rfl⟩
          have CA := Lib.hid (fun w => show Calls Try.prog 23 #[.int .u64 (qn : Int), .int .u64 1] w (fun e w' => e = .returned (.int .u64 (x : Int)) ∧ w = w') by rw [← hx]; exact radd_any qn 1 w okq.1 (by omega))
          have t1 : decide (k < n) = true := decide_eq_true hlt2
          have i0 : (0 : Int) ≤ (k : Int) := by omega
          have i1 : (k : Int) < (n : Int) := by omega
          have fj : IntKind.i64.wrap ((k : Int) - 1) = (j : Int) := by rw [IntKind.wrap_i64]; omega
          have fj2 : (k : Int) - 1 = (j : Int) := by omega
          have fj3 : IntKind.i64.wrap (j : Int) = (j : Int) := by rw [IntKind.wrap_i64]; omega
          have fk : IntKind.i64.wrap ((k : Int) + 1) = (k : Int) + 1 := by rw [IntKind.wrap_i64]; omega
          have jj0 : (0 : Int) ≤ (j : Int) := by omega
          have jj1 : (j : Int) < (n : Int) := by omega
          have HK := Lib.hid (And.intro hik (And.intro hk hlt2))
          by_cases hne : sn = x
          · have dn : ((sn : Int) == (x : Int)) = true := by simp; omega
            have dn' : decide (sn = x) = true := decide_eq_true hne
            by_cases hto : y ≤ sa
            · have R := Lib.hid (show true = r by rw [← KL.out]; exact (Wig.rat_hit hat' HP.out hq hs' (by rw [hx]; exact hne) (by rw [HY.out]; exact hto)).symm)
              have dt : decide (y ≤ sa) = true := decide_eq_true hto
              clear hq hk' hbel hat hat' okq hik hk hb hj hx hne hto hs'
              go_wp2_with fail
              go_quiet (first | (go_at_call 23; exact quiet_eq (CA.out _)) | fail)
              go_wp2_with fail
              generalize hw2 : wr.drewN _ = w2
              have B2 := Lib.hid (show Below w.heap.size w w2 by rw [← hw2]; exact below_drewN' KB.out _)
              have k1 : w2.cell? ⟨b, off + k * 4 + 1, none⟩ = some (.int .u64 (sa : Int)) := by rw [← hw2]; exact c1
              have k2 : w2.cell? ⟨b, off + i * 4 + 1, none⟩ = some (.int .u64 (pa : Int)) := by rw [← hw2]; exact d2
              clear hw2 c0 c1 d1 d2
              go_quiet (first | (go_at_call 23; exact quiet_eq (CT.out _)) | fail)
              go_wp2_with fail
              (try rw [Exit.noGoto_ret])
              go_ret
              exact ⟨ret_bool R.out, below_drewN' B2.out _⟩
            · have R := Lib.hid (show Wig.RAt time l i (k + 1) by rw [hj]; exact Wig.rat_next hat' HP.out hq hs' (by rw [hx]; exact hne) (by rw [HY.out]; exact hto))
              have dt : decide (y ≤ sa) = false := decide_eq_false hto
              clear hq hk' hbel hat hat' okq hik hk hb hj hx hne hto hs'
              go_wp2_with fail
              go_quiet (first | (go_at_call 23; exact quiet_eq (CA.out _)) | fail)
              go_wp2_with fail
              generalize hw2 : wr.drewN _ = w2
              have B2 := Lib.hid (show Below w.heap.size w w2 by rw [← hw2]; exact below_drewN' KB.out _)
              have k1 : w2.cell? ⟨b, off + k * 4 + 1, none⟩ = some (.int .u64 (sa : Int)) := by rw [← hw2]; exact c1
              have k2 : w2.cell? ⟨b, off + i * 4 + 1, none⟩ = some (.int .u64 (pa : Int)) := by rw [← hw2]; exact d2
              clear hw2 c0 c1 d1 d2
              go_quiet (first | (go_at_call 23; exact quiet_eq (CT.out _)) | fail)
              go_wp2_with fail
              go_roundw
              case rel => exact ⟨k + 1, by have := HN.out; have := HK.out; omega, by simp, by have := HK.out; omega, R.out, below_drewN' B2.out _⟩
              case measure => have := HK.out; simp [intOf]; omega
          · have dn : ((sn : Int) == (x : Int)) = false := by simp; omega
            have dn' : decide (sn = x) = false := decide_eq_false hne
            have R := Lib.hid (show Wig.tlong time (l.drop (i + 1)) = r by rw [← KL.out]; exact Wig.rat_gap hat' HP.out hq hs' (by rw [hx]; exact hne))
            clear hq hk' hbel hat hat' okq hik hk hb hj hx hne hs' CT
            go_wp2_with fail
            go_quiet (first | (go_at_call 23; exact quiet_eq (CA.out _)) | fail)
            go_wp2_with fail
            go_roundw
            case rel => exact ⟨i + 1, by have := HN.out; omega, by simp, R.out, below_drewN' KB.out _⟩
            case measure => simp [intOf]; omega
        · have t1 : decide (k < n) = false := decide_eq_false hlt2
          have R := Lib.hid (show Wig.tlong time (l.drop (i + 1)) = r by rw [← KL.out]; exact Wig.rat_end hat' HP.out hq (by have := HN.out; omega))
          clear hq hbel hat hat' hik hk hj hlt2 CT
          go_wp2_with fail
          go_quiet (fail)
          go_wp2_with fail
          go_roundw
          case rel => exact ⟨i + 1, by have := HN.out; omega, by simp, R.out, below_drewN' KB.out _⟩
          case measure => simp [intOf]; omega
    · have R := Lib.hid (show false = r by rw [← KL.out, show i = l.length by have := HN.out; omega, List.drop_length]; rfl)
      have t2 : decide (i < n) = false := decide_eq_false hlt
      clear hbel hlo hi hlt
      go_wp2_with fail
      go_ret
      exact ⟨ret_bool R.out, KB.out⟩
end Go.Proofs.Ythdhcppgpnnccaa
