/-
  What package seal's Open returns where the first byte tells a size. No condition.
-/
import Derived.Test.YtmodafmnokiceaaSeaD
namespace Go.Proofs.Ytmodafmnokiceaa
open Go.ChangeShapes Go.WideShapes Go.ChangeAt Go.RowKit Go.Deep
set_option linter.unusedVariables false

set_option maxHeartbeats 2000000 in
theorem open_yes (A : Option Addr) (n c : Nat) (xs : List Nat) (next : Nat) (w : World) (hx : Wig.Bytes xs) (hn : n = xs.length) (hc : n ≤ c) (hcm : c ≤ maxLen) (hr : RdN .u8 w w.heap.size A xs) (hs : 0 < Wig.ssize xs) (hnext : next < 18446744073709551616) :
    Calls Try.prog 16 #[.slice A n c, .int .u64 (next : Int)] w (OpensAt xs next w) := by
  obtain ⟨p1, p2, p3⟩ := Wig.ssize_pos hs
  have p4 := Wig.ssize_le xs
  have C := sizeOf_any A n c xs w hx hn (by omega) hr
  rw [decide_eq_true hs] at C
  obtain ⟨s, hss⟩ : ∃ s, s = Wig.ssize xs := ⟨_, rfl⟩
  obtain ⟨f, hf⟩ : ∃ f, f = 1 + s := ⟨_, rfl⟩
  obtain ⟨m, hm⟩ : ∃ m, m = n - 4 := ⟨_, rfl⟩
  rw [← hss] at C p2 p3 p4 hs
  have C1 := Lib.hid C
  obtain ⟨b, off, rfl, hb, -⟩ := hr (by intro e; rw [e] at p2; simp at p2)
  have hlen : (xs.take m).length = m := by rw [List.length_take]; omega
  have hne : xs.take m ≠ [] := by intro e; rw [e] at hlen; simp at hlen; omega
  have C2 := Lib.hid (fun w1 (h : Below w.heap.size w w1) => withSum_any (.slice (some ⟨b, off, none⟩) m m) (xs.take m) w1 w.heap.size (.inr ⟨⟨b, off, none⟩, by rw [hlen], (hr.below h).take m, hne⟩) h.size (bytes_take hx m) (by omega))
  have e1 : (1 : Int) + (s : Int) = (f : Int) := by omega
  have e2 : (n : Int) - 4 = (m : Int) := by omega
  have m0 : (0 : Int) ≤ (m : Int) := by omega
  have m1 : m ≤ c := by omega
  have n2 : n ≤ 1200 := by omega
  have s5 : s ≤ 4 := p4
  have HX := Lib.hid hx
  have HN := Lib.hid hn
  have HR := Lib.hid hr
  have HS := Lib.hid hss
  obtain ⟨ys, hys⟩ : ∃ ys, ys = Wig.sealed (xs.take m) := ⟨_, rfl⟩
  have hL : ys.length = n := by rw [hys, Wig.sealed_length, hlen]; omega
  have hyb : Wig.Bytes ys := by rw [hys]; exact Wig.sealed_bytes (bytes_take hx m)
  have hop : Wig.sopens xs = decide (ys = xs) := by
    unfold Wig.sopens
    rw [← hss, ← hn, ← hm, ← hys]
    by_cases h : ys = xs
    · rw [decide_eq_true h, decide_eq_true ⟨hs, h⟩]
    · rw [decide_eq_false h, decide_eq_false (fun hh => h hh.2)]
  have HO := Lib.hid (And.intro hop (And.intro hL hyb))
  have HY := Lib.hid hys
  rw [← hys] at C2
  have HF := Lib.hid (And.intro hf (And.intro hm (And.intro p2 (And.intro hlen (And.intro hs hnext)))))
  clear hys hL hyb hop p1 p2 p3 p4 C hss hf hm hr hb hn hc hcm hx hlen hne hs hnext
  go_enter Try.func16, Try.ntmps16
  go_wp2_with fail
  refine (C1.out).mono ?_
  rintro e w' ⟨rfl, rfl⟩
  go_wp2_with fail
  refine (C2.out _ (Below.refl _ _)).mono ?_
  rintro e w1 ⟨v1, rfl, hown1, hb1⟩
  obtain ⟨g, cap, ev, hg0, hg1⟩ := World.ownsRow.form hown1 (by rw [HO.out.2.1]; have := HF.out; omega)
  rw [HO.out.2.1] at ev
  subst ev
  have O1 := Lib.hid hown1
  have B1 := Lib.hid hb1
  obtain ⟨A1, c1, ev, hnc, hcm, hr1, -⟩ := hown1.rd
  injection ev with e1' e2' e3'
  subst e1' e3'
  have R1 := Lib.hid hr1
  have K1 := Lib.hid (And.intro hnc hcm)
  have RB := Lib.hid (HR.out.step hb1)
  obtain ⟨t, ht⟩ : ∃ t, t = decide (ys = xs) := ⟨_, rfl⟩
  have C3 := Lib.hid (equal_any (some ⟨g, 0, none⟩) (some ⟨b, off, none⟩) n cap n c ys xs w1 HO.out.2.2 HX.out HO.out.2.1.symm HN.out hr1 RB.out (by intro e; have := HO.out.2.1; rw [e] at this; simp at this; have := HF.out; omega) (by intro e; have := HN.out; rw [e] at this; simp at this; have := HF.out; omega) t ht.symm)
  have HT := Lib.hid ht
  clear hown1 hb1 hr1 hnc hcm e2' C2 C1 ht hg0 hg1
  go_wp2_with fail
  refine (C3.out).mono ?_
  rintro e w' ⟨rfl, rfl⟩
  cases t with
  | false =>
    have F := Lib.hid (show Wig.sopens xs = false by rw [HO.out.1]; exact HT.out.symm)
    go_wp2_with fail
    go_ret3
    exact opens_no F.out B1.out
  | true =>
    have F := Lib.hid (show Wig.sopens xs = true by rw [HO.out.1]; exact HT.out.symm)
    have hyx : ys = xs := of_decide_eq_true HT.out.symm
    obtain ⟨u, hu⟩ : ∃ u, u = Wig.val (Wig.spart xs) := ⟨_, rfl⟩
    obtain ⟨r, hr⟩ : ∃ r, r = Wig.snum xs next := ⟨_, rfl⟩
    have hpart : Wig.spart xs = (xs.drop 1).take s := by unfold Wig.spart; rw [HS.out]
    have ef : f - 1 = s := by have := HF.out; omega
    have D1 := Lib.hid (fun k => readPart_any (some ⟨g, 1, none⟩) s s ((xs.drop 1).take s) (w1.drewN k) (fun x hx => HX.out x (List.mem_of_mem_drop (List.mem_of_mem_take hx))) (by rw [List.length_take, List.length_drop]; have := HF.out; have := HN.out; omega) (by omega) w1.heap.size (by have := R1.out.part 1 s; rw [hyx, Nat.zero_add] at this; exact this))
    rw [← hpart, ← hu] at D1
    have pk : Wig.pk (s : Int) = s := by have := Wig.pk_cases (s : Int); have := HF.out; omega
    have hrr : Wig.pwhole u (Wig.pwin (Wig.pk (s : Int))) (Wig.pcap next) = r := by rw [pk, hu, hr, Wig.snum, if_pos F.out, HS.out]
    have ul : u < 18446744073709551616 := by
      have h1 := val_seven (xs := Wig.spart xs) (fun x hx => by rw [hpart] at hx; exact HX.out x (List.mem_of_mem_drop (List.mem_of_mem_take hx))) (k := 7) (by omega)
      rw [List.take_of_length_le (by rw [hpart, List.length_take]; omega), ← hu] at h1
      omega
    have D2 : ∀ k, Calls Try.prog 28 #[.int .u64 (u : Int), .int .i64 (s : Int), .int .u64 (next : Int)] (w1.drewN k) fun e w'' => e = .returned (.int .u64 (r : Int)) ∧ ∃ m, w'' = w1.drewN m := fun k => by
      have := whole_any u (s : Int) next (w1.drewN k) ul HF.out.2.2.2.2.2
      rw [hrr] at this
      exact this.mono fun e w'' ⟨h1, q, h2⟩ => ⟨h1, k + q, by rw [← h2]; simp⟩
    replace D2 := Lib.hid D2
    have HRr := Lib.hid hr
    have g1 : (1 : Int) ≤ (f : Int) := by have := HF.out; omega
    have g2 : f ≤ cap := by have := HF.out; have := K1.out; have := HN.out; have := HO.out.2.1; omega
    have g3 : f ≤ m := by have := HF.out; have := HN.out; omega
    have g4 : m ≤ cap := by have := HF.out; have := K1.out; have := HO.out.2.1; omega
    have g5 : 1 ≤ f := by omega
    have g6 : ¬ f = 1 := by have := HF.out; omega
    have g7 : ¬ m = f := by have := HF.out; have := HN.out; omega
    obtain ⟨l, hl⟩ : ∃ l, l = m - f := ⟨_, rfl⟩
    have g8 : m - f = l := hl.symm
    have HLl := Lib.hid hl
    clear hl
    have hpay : Wig.spay xs = (xs.drop f).take (m - f) := by
      unfold Wig.spay
      rw [if_pos F.out, ← HS.out, ← HN.out, ← HF.out.2.1, ← HF.out.1, List.drop_take]
    have HP := Lib.hid hpay
    have RP := Lib.hid (show RdN .u8 w1 w1.heap.size (some ⟨g, f, none⟩) (Wig.spay xs) by rw [hpay]; have := R1.out.part f (m - f); rw [hyx, Nat.zero_add] at this; exact this)
    clear hu hr hpart pk hrr ul hyx hpay
    go_wp2_with fail
    go_quiet (first | (go_at_call 29; go_loud (with_reducible exact quiet_eq (D1.out _))) | (go_at_call 28; exact D2.out _))
    go_wp2_with fail
    go_ret3
    have e1 : Wig.sopenErr xs = 0 := by unfold Wig.sopenErr; rw [if_pos F.out]
    have hlen : (Wig.spay xs).length = l := by rw [HP.out, List.length_take, List.length_drop]; have := HN.out; omega
    refine ⟨some ⟨g, f, none⟩, l, l, by rw [e1, ← HRr.out]; rfl, hlen.symm, Nat.le_refl _, by simp only [maxLen]; omega, RP.out, fun h => ?_, below_drewN' B1.out _⟩
    rw [h] at hlen
    simp at hlen
    omega

theorem open_any (A : Option Addr) (n c : Nat) (xs : List Nat) (next : Nat) (w : World) (hx : Wig.Bytes xs) (hn : n = xs.length) (hl : n ≤ 1000000) (hc : n ≤ c) (hcm : c ≤ maxLen) (hr : RdN .u8 w w.heap.size A xs) (hnext : next < 18446744073709551616) :
    Calls Try.prog 16 #[.slice A n c, .int .u64 (next : Int)] w (OpensAt xs next w) := by
  rcases Nat.eq_zero_or_pos (Wig.ssize xs) with h | h
  · exact open_no A n c xs next w hx hn hl hr h
  · exact open_yes A n c xs next w hx hn hc hcm hr h hnext
end Go.Proofs.Ytmodafmnokiceaa
