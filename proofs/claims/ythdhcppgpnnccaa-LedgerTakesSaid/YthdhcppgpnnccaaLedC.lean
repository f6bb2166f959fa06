/-
  What package ledger's first, Take and Lost return: new lists of the call's own. Conditions: the lists read as packets of 64 bits, as spans; they are not too long.
-/
import Derived.Test.YthdhcppgpnnccaaLedB
import Derived.Laws.EntriesVeiled
namespace Go.Proofs.Ythdhcppgpnnccaa
open Go.ChangeShapes Go.WideShapes Go.ChangeAt Go.RowKit Go.Deep
set_option linter.unusedVariables false

def FiRel (late e0 : Nat) (l : List Wig.Snt) (w : World) (v i : Value) (wr : World) : Prop := ∃ k : Nat, k ≤ l.length ∧ v = .int .u64 (Wig.tmin late e0 (l.take k) : Int) ∧ i = .int .i64 (k : Int) ∧ Below w.heap.size w wr
set_option maxHeartbeats 2000000 in
theorem first_any (l : List Wig.Snt) (late r : Nat) (A : Option Addr) (n c : Nat) (w : World) (hn : n = l.length) (hm : n ≤ 10000) (hf : Wig.TFits l) (hl : late < 18446744073709551616) (hr : RdT w w.heap.size A l) (he : Wig.tfirst late l = r) :
    Calls Try.prog 32 #[.slice A n c, .int .u64 (late : Int)] w fun e w' => e = .returned (.int .u64 (r : Int)) ∧ Below w.heap.size w w' := by
  subst he
  by_cases h0 : n = 0
  · subst h0
    obtain rfl : l = [] := List.eq_nil_of_length_eq_zero hn.symm
    clear hn hm hf hr hl
    go_enter Try.func32, Try.ntmps32
    go_wp2_with fail
    go_ret
    exact ⟨rfl, Below.refl _ _⟩
  · obtain ⟨⟨qn, qa, qz, qb⟩, hq⟩ : ∃ p, l[0]? = some p := ⟨_, List.getElem?_eq_getElem (by omega)⟩
    obtain ⟨b, off, rfl, hb0, c0, c1, c2, c3⟩ := hr.at_ hq
    simp only [Nat.zero_mul, Nat.add_zero] at c0 c1 c2 c3
    have okq := Wig.tfits_at hf hq
    obtain ⟨e0, he0⟩ : ∃ e0, Wig.fadd qa late = e0 := ⟨_, rfl⟩
    have CQ := Lib.hid (end_any qn qa qz late e0 qb w okq.2.1 hl he0)
    have E0 := Lib.hid (show e0 < 18446744073709551616 by rw [← he0]; exact Wig.fadd_lt' _ _)
    have RES : Wig.tfirst late l = Wig.tmin late e0 l := by
      rcases l with _ | ⟨x, l⟩
      · cases hq
      · simp at hq
        rw [hq, ← he0]
        rfl
    rw [RES]
    have HR := Lib.hid hr
    have HF := Lib.hid hf
    have HN := Lib.hid hn
    have HL := Lib.hid hl
    have d0 : ((n : Int) == 0) = false := by simp; omega
    have i0 : (0 : Int) < (n : Int) := by omega
    clear hq hr hf hn hl okq he0 RES hb0
    go_enter Try.func32, Try.ntmps32
    go_wp2_with fail
    refine (CQ.out).mono ?_
    rintro e w1 ⟨rfl, hb1⟩
    have B1 := Lib.hid hb1
    clear hb1 c0 c1 c2 c3 i0
    go_wp2_with fail
    go_loopw [5, 18] (fun v i wr => FiRel late e0 l w v i wr) (fun _ i _ => n - (intOf i).toNat)
    case atStart => exact ⟨0, Nat.zero_le _, rfl, rfl, B1.out⟩
    case round =>
      obtain ⟨k, hk, rfl, rfl, hbel⟩ := hrel
      rw [← HN.out] at hk
      have KB := Lib.hid hbel
      obtain ⟨a, ha⟩ : ∃ a, Wig.tmin late e0 (l.take k) = a := ⟨_, rfl⟩
      rw [ha]
      by_cases hlt : k < n
      · obtain ⟨⟨pn, pa, pz, pb⟩, hp⟩ : ∃ p, l[k]? = some p := ⟨_, List.getElem?_eq_getElem (by have := HN.out; omega)⟩
        obtain ⟨b', off', e', _, c0, c1, c2, c3⟩ := (HR.out.below hbel).at_ hp
        injection e' with e'
        injection e' with ea eb
        subst ea eb
        simp only [] at c0 c1 c2 c3
        have i0' : (0 : Int) ≤ (k : Int) := by omega
        have i1' : (k : Int) < (n : Int) := by omega
        have ok := Wig.tfits_at HF.out hp
        obtain ⟨wb, hwb⟩ : ∃ wb, wb = wr.alloc (.cells #[.int .u64 (pn : Int), .int .u64 (pa : Int), .int .u64 (pz : Int), .bool pb] 37) := ⟨_, rfl⟩
        have B2 := Lib.hid (show Below w.heap.size w wb by rw [hwb]; exact hbel.alloc hbel.size _)
        have X1 := Lib.hid (show BxT wr.heap.size pn pa pz pb wb by rw [hwb]; exact BxT.new wr _ _ _ _)
        obtain ⟨q, hq⟩ : ∃ q, Wig.fadd pa late = q := ⟨_, rfl⟩
        have CE := Lib.hid (fun w => end_any pn pa pz late q pb w ok.2.1 HL.out hq)
        obtain ⟨z, hz⟩ : ∃ z, min a q = z := ⟨_, rfl⟩
        have R := Lib.hid (show Wig.tmin late e0 (l.take (k + 1)) = z by rw [Wig.tmin_take hp, ha, ← hz, ← hq]; rfl)
        have m1 : (if q < a then (q : Int) else (a : Int)) = (z : Int) := by split <;> omega
        have m2 : min (a : Int) (q : Int) = (z : Int) := by omega
        obtain ⟨k0, k1, k2, k3⟩ := X1.out
        clear hp hbel ok hq hz ha hk
        go_wp2_with fail
        rw [← hwb]
        clear hwb
        go_wp2_with fail
        refine (CE.out _).mono ?_
        rintro e w2 ⟨rfl, hb2⟩
        have B3 := Lib.hid (B2.out.trans (hb2.mono B2.out.size))
        clear hb2 k0 k1 k2 k3
        go_wp2_with fail
        go_roundw
        case rel => exact ⟨k + 1, by have := HN.out; omega, by rw [R.out], rfl, B3.out⟩
        case measure => simp [intOf]; omega
      · have hkn : k = n := by omega
        have R := Lib.hid (show a = Wig.tmin late e0 l by rw [← ha, hkn, HN.out, List.take_length])
        have t2 : decide (k < n) = false := decide_eq_false hlt
        clear hbel ha hk hkn hlt
        go_wp2_with fail
        go_ret
        exact ⟨by rw [R.out]; rfl, KB.out⟩

set_option maxHeartbeats 2000000 in
theorem take_any (l : List Wig.Snt) (s : List Wig.Spn) (A B : Option Addr) (n c m d : Nat) (w : World) (hn : n = l.length) (hm : m = s.length) (hn1 : n ≤ 10000) (hm1 : m ≤ 10000) (hf : Wig.TFits l) (hr : RdT w w.heap.size A l) (hs : RdS w w.heap.size B s) :
    Calls Try.prog 12 #[.slice A n c, .slice B m d] w fun e w' =>
      ∃ v u, e = .returned (.tuple #[v, u]) ∧ Two w' w.heap.size v u (l.filter (Wig.tin s)) (l.filter fun x => !Wig.tin s x) ∧ Below w.heap.size w w' := by
  have hmf : ∀ (fn : Fn) (first cap : Array Value) (w : World), (Instr.makeFunc fn first cap).run Try.prog w = .ok (.func fn first cap) w := fun _ _ _ _ => rfl
  obtain ⟨w1, hw1⟩ : ∃ w1, w1 = w.alloc (.cells #[.slice B m d] 23) := ⟨_, rfl⟩
  have hb1 : Below w.heap.size w w1 := by rw [hw1]; exact (Below.refl _ _).alloc (Nat.le_refl _) _
  have hk : w1.cell? ⟨w.heap.size, 0, none⟩ = some (.slice B m d) := by rw [hw1, World.cell?_alloc_at _ _ _ _ rfl]; rfl
  have hsz : w1.heap.size = w.heap.size + 1 := by rw [hw1]; simp
  have rs := (hs.below hb1).wide hb1.size
  have C := Lib.hid (partT_any (Wig.tin s) l A n c w.heap.size w1 hn hn1 hf ((hr.below hb1).wide hb1.size) (fun w' pn pa pz pb _ hb hB =>
    takep_any s B m d w.heap.size pn pa pz pb w' hm (by omega) ((rs.below hb).wide hB) ((hb.cell (by simp; omega)).trans hk)))
  have B1 := Lib.hid hb1
  have S1 := Lib.hid hsz
  clear hb1 hk hsz rs hr hs hf hn hm hn1 hm1
  subst hw1
  go_enter Try.func12, Try.ntmps12
  go_wp2_with fail
  refine (C.out).mono ?_
  rintro e w2 ⟨v, u, rfl, htwo, hb⟩
  have T := Lib.hid (htwo.base_le B1.out.size)
  have B2 := Lib.hid (B1.out.trans (hb.mono B1.out.size))
  clear htwo hb
  go_wp2_with fail
  go_ret2
  exact ⟨_, _, rfl, T.out, B2.out⟩

set_option maxHeartbeats 4000000 in
theorem lost_any (l : List Wig.Snt) (next now late r : Nat) (A : Option Addr) (n c : Nat) (w : World) (hn : n = l.length) (hn1 : n ≤ 10000) (hf : Wig.TFits l) (hl : late < 18446744073709551616) (hr : RdT w w.heap.size A l) (he : Wig.twhen next now late l = r) :
    Calls Try.prog 19 #[.slice A n c, .int .u64 (next : Int), .int .u64 (now : Int), .int .u64 (late : Int)] w fun e w' =>
      ∃ v u, e = .returned (.tuple #[v, u, .int .u64 (r : Int)]) ∧ Two w' w.heap.size v u (l.filter (Wig.tlost next now late)) (l.filter fun x => !Wig.tlost next now late x) ∧ Below w.heap.size w w' := by
  have hmf : ∀ (fn : Fn) (first cap : Array Value) (w : World), (Instr.makeFunc fn first cap).run Try.prog w = .ok (.func fn first cap) w := fun _ _ _ _ => rfl
  obtain ⟨wa, hwa⟩ : ∃ wa, wa = w.alloc (.cells #[.int .u64 (next : Int)] 29) := ⟨_, rfl⟩
  obtain ⟨wb, hwb⟩ : ∃ wb, wb = wa.alloc (.cells #[.int .u64 (now : Int)] 29) := ⟨_, rfl⟩
  obtain ⟨wc, hwc⟩ : ∃ wc, wc = wb.alloc (.cells #[.int .u64 (late : Int)] 29) := ⟨_, rfl⟩
  obtain ⟨w1, hw1⟩ : ∃ w1, w1 = wc.alloc (.cells #[.func (.func 29) #[] #[.pointer (some ⟨w.heap.size, 0, none⟩)]] 46) := ⟨_, rfl⟩
  have sa : wa.heap.size = w.heap.size + 1 := by rw [hwa]; simp
  have sb : wb.heap.size = w.heap.size + 2 := by rw [hwb]; simp [sa]
  have sc : wc.heap.size = w.heap.size + 3 := by rw [hwc]; simp [sb]
  have s1 : w1.heap.size = w.heap.size + 4 := by rw [hw1]; simp [sc]
  have ba : Below w.heap.size w wa := by rw [hwa]; exact (Below.refl _ _).alloc (Nat.le_refl _) _
  have bb : Below wa.heap.size wa wb := by rw [hwb]; exact (Below.refl _ _).alloc (Nat.le_refl _) _
  have bc : Below wb.heap.size wb wc := by rw [hwc]; exact (Below.refl _ _).alloc (Nat.le_refl _) _
  have b1 : Below wc.heap.size wc w1 := by rw [hw1]; exact (Below.refl _ _).alloc (Nat.le_refl _) _
  have hb1 : Below w.heap.size w w1 := ba.trans ((bb.trans ((bc.trans (b1.mono (by omega))).mono (by omega))).mono (by omega))
  have ca : wa.cell? ⟨w.heap.size, 0, none⟩ = some (.int .u64 (next : Int)) := by rw [hwa, World.cell?_alloc_at _ _ _ _ rfl]; rfl
  have cb : wb.cell? ⟨w.heap.size + 1, 0, none⟩ = some (.int .u64 (now : Int)) := by rw [hwb, World.cell?_alloc_at _ _ _ _ sa.symm]; rfl
  have cc : wc.cell? ⟨w.heap.size + 2, 0, none⟩ = some (.int .u64 (late : Int)) := by rw [hwc, World.cell?_alloc_at _ _ _ _ sb.symm]; rfl
  have cd : w1.cell? ⟨w.heap.size + 3, 0, none⟩ = some (.func (.func 29) #[] #[.pointer (some ⟨w.heap.size, 0, none⟩)]) := by rw [hw1, World.cell?_alloc_at _ _ _ _ sc.symm]; rfl
  have caps : Caps (w.heap.size + 3) w.heap.size (w.heap.size + 2) (w.heap.size + 1) next late now w1 := by
    refine ⟨cd, ?_, ?_, ?_⟩
    · rw [b1.cell (by simp; omega), bc.cell (by simp; omega), bb.cell (by simp; omega)]; exact ca
    · rw [b1.cell (by simp; omega)]; exact cc
    · rw [b1.cell (by simp; omega), bc.cell (by simp; omega)]; exact cb
  have C1 := Lib.hid (partL_any (Wig.tlost next now late) l A n c (w.heap.size + 3) w.heap.size (w.heap.size + 2) (w.heap.size + 1) w1 hn hn1 hf ((hr.below hb1).wide hb1.size) (fun w' pn pa pz pb ok hb hB =>
    lostp_any next late now (w.heap.size + 3) w.heap.size (w.heap.size + 2) (w.heap.size + 1) pn pa pz pb w' ok hl (caps.below hb)))
  have KC := Lib.hid caps
  have B1 := Lib.hid hb1
  have HF := Lib.hid hf
  have HE := Lib.hid he
  have HL := Lib.hid hl
  have LEN := Lib.hid (And.intro hn hn1)
  subst hwa
  subst hwb
  subst hwc
  clear sa sb sc s1 ba bb bc b1 hb1 ca cb cc cd caps hf hn hn1 hl hr he
  go_enter Try.func19, Try.ntmps19
  go_wp2_with fail
  rw [← hw1]
  clear hw1
  refine (C1.out).mono ?_
  rintro e w2 ⟨v, u, rfl, htwo, hb2⟩
  have T2 := Lib.hid htwo
  have B2 := Lib.hid (B1.out.trans (hb2.mono B1.out.size))
  have K2 := Lib.hid (KC.out.below hb2)
  obtain ⟨Au, cu, hu, hcu, hru, _⟩ := htwo.two.rd
  obtain ⟨a, ha⟩ : ∃ a, a = (l.filter fun x => !Wig.tlost next now late x).length := ⟨_, rfl⟩
  rw [← ha] at hu hcu
  have LA := Lib.hid (show a ≤ 10000 by rw [ha]; have := LEN.out; exact Nat.le_trans (List.length_filter_le _ _) (by omega))
  have C2 := Lib.hid (partB_any (Wig.tback next) (l.filter fun x => !Wig.tlost next now late x) Au a cu w.heap.size w2 ha LA.out (HF.out.filter _) hru (fun w' pn pa pz pb ok hb hB =>
    behind_any next w.heap.size pn pa pz pb w' ok.1 (K2.out.below hb).n))
  subst hu
  have S2 := Lib.hid B1.out.size
  clear htwo hb2 ha hcu hru C1
  have kf := K2.out.f
  go_wp2_with fail
  refine (C2.out).mono ?_
  rintro e w3 ⟨v3, u3, rfl, htwo, hb3⟩
  have T3 := Lib.hid (T2.out.below hb3 (Nat.le_refl _))
  have B3 := Lib.hid (B2.out.trans (hb3.mono B2.out.size))
  have K3 := Lib.hid (K2.out.below hb3)
  obtain ⟨Av, cv, hv, hcv, hrv, _⟩ := htwo.one.rd
  rw [Wig.wait_filter] at hv hcv hrv
  obtain ⟨b, hb⟩ : ∃ b, b = (l.filter (Wig.twait next now late)).length := ⟨_, rfl⟩
  rw [← hb] at hv hcv
  have C3 := Lib.hid (first_any (l.filter (Wig.twait next now late)) late r Av b cv w3 hb (by rw [hb]; have := LEN.out; exact Nat.le_trans (List.length_filter_le _ _) (by omega)) (HF.out.filter _) HL.out hrv (by rw [Wig.first_when]; exact HE.out))
  subst hv
  clear htwo hb3 hb hcv hrv C2 kf
  have kl := K3.out.l
  go_wp2_with fail
  refine (C3.out).mono ?_
  rintro e w4 ⟨rfl, hb4⟩
  have T4 := Lib.hid ((T3.out.below hb4 (Nat.le_refl _)).base_le S2.out)
  have B4 := Lib.hid (B3.out.trans (hb4.mono B3.out.size))
  clear hb4 kl
  go_wp2_with fail
  exact bodyPost_ret (v := .tuple #[v, .slice Au a cu, .int .u64 (r : Int)]) (by simp [results, Try.results19, go_sem]) rfl ⟨_, _, rfl, T4.out, B4.out⟩
end Go.Proofs.Ythdhcppgpnnccaa
