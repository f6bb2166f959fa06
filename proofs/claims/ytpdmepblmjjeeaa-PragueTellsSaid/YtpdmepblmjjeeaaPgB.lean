/-
  What package prague's fall and endRound make of the window that they are handed, and the document's share, for all numbers of 64 bits. No condition.
-/
import Derived.Test.YtpdmepblmjjeeaaPgA
import Derived.Deep.CutBlock
namespace Go.Proofs.Ytpdmepblmjjeeaa
open Go.ChangeShapes Go.WideShapes Go.ChangeAt Go.RowKit
set_option linter.unusedVariables false

theorem share_eq (m a : Nat) : Wig.gshare m a = Wig.fmuldiv (min m a) 1048576 a := by
  unfold Wig.gshare
  split
  · rename_i h
    subst h
    unfold Wig.fmuldiv
    rw [if_pos (by simp)]
  · rfl
set_option maxHeartbeats 2000000 in
theorem endRound_any (p : Nat) (c t s r al ac mk en : Nat) (cu : Bool) (x al' : Nat) (w : World) (hv : BxPg p c t s r al ac mk en cu w) (hp : p < w.heap.size) (h1 : al < 18446744073709551616) (h2 : ac < 18446744073709551616) (h3 : mk < 18446744073709551616) (he : Wig.galpha al mk ac = al') :
    Calls Try.prog 25 #[.pointer (some ⟨p, 0, none⟩), .int .u64 (x : Int)] w fun e w' => e = .returned (.tuple #[]) ∧ BxPg p c t s r al' 0 0 x false w' ∧ Below p w w' := by
  have B0 := Lib.hid (Below.refl p w)
  have XV0 := Lib.hid hv
  have SV0 := Lib.hid hp
  have GV := Lib.hid (Nat.le_refl p)
  clear hv hp
  obtain ⟨m, hm⟩ : ∃ m, m = min mk ac := ⟨_, rfl⟩
  obtain ⟨sh, hs⟩ : ∃ sh, sh = Wig.fmuldiv m 1048576 ac := ⟨_, rfl⟩
  unfold Wig.galpha at he
  rw [share_eq, ← hm, ← hs] at he
  have s1 : sh < 18446744073709551616 := by rw [hs]; exact Wig.fmuldiv_lt _ _ _
  obtain ⟨a1, ha1⟩ : ∃ q, q = al / 16 := ⟨_, rfl⟩
  obtain ⟨a2, ha2⟩ : ∃ q, q = al - a1 := ⟨_, rfl⟩
  obtain ⟨a3, ha3⟩ : ∃ q, q = sh / 16 := ⟨_, rfl⟩
  rw [← ha1, ← ha2, ← ha3] at he
  have e1 : (al : Int) / 16 = (a1 : Int) := by omega
  have e2 : IntKind.u64.wrap (a1 : Int) = (a1 : Int) := by rw [IntKind.wrap_u64]; omega
  have e3 : IntKind.u64.wrap ((al : Int) - (a1 : Int)) = (a2 : Int) := by rw [IntKind.wrap_u64]; omega
  have e4 : (sh : Int) / 16 = (a3 : Int) := by omega
  have e5 : IntKind.u64.wrap (a3 : Int) = (a3 : Int) := by rw [IntKind.wrap_u64]; omega
  have e6 : (al : Int).tdiv 16 = (a1 : Int) := by rw [Int.tdiv_eq_ediv_of_nonneg (by omega)]; exact e1
  have e7 : (sh : Int).tdiv 16 = (a3 : Int) := by rw [Int.tdiv_eq_ediv_of_nonneg (by omega)]; exact e4
  have m1 : ∀ ts ty w, (Builtin.min_ ts ty #[.int .u64 (mk : Int), .int .u64 (ac : Int)]).run Try.prog w = .ok (.int .u64 (m : Int)) w := by
    intro ts ty w
    rw [run_min_int2, show (if (ac : Int) < (mk : Int) then (ac : Int) else (mk : Int)) = (m : Int) by split <;> omega]
  have CM := Lib.hid (fun w => (show Calls Try.prog 44 #[.int .u64 (m : Int), .int .u64 1048576, .int .u64 (ac : Int)] w fun e w' => e = .returned (.int .u64 (sh : Int)) ∧ ∃ n, w.drewN n = w' by rw [hs]; exact muldiv_any m 1048576 ac w (by omega) (by omega) h2))
  have CA := Lib.hid (fun w => (show Calls Try.prog 24 #[.int .u64 (a2 : Int), .int .u64 (a3 : Int)] w fun e w' => e = .returned (.int .u64 (al' : Int)) ∧ w = w' by rw [← he]; exact add_any a2 a3 w (by omega) (by omega)))
  clear h1 h2 h3 he hm hs s1 ha1 ha2 ha3
  obtain ⟨v0, v1, v2, v3, v4, v5, v6, v7, v8, -, -, -, -, -, -, -, -, -⟩ := XV0.out
  go_enter Try.func25, Try.ntmps25
  go_wp2_with fail
  go_quiet (first | (go_at_call 44; with_reducible exact quiet_dr (CM.out _)) | fail)
  obtain ⟨w1, hw⟩ : ∃ wx, wx = w.drewN nq := ⟨_, rfl⟩
  rw [← hw]
  have B1 := Lib.hid (show Below p w w1 by rw [hw]; exact below_drewN' B0.out nq)
  have XV1 := Lib.hid (show BxPg p c t s r al ac mk en cu w1 by rw [hw]; exact XV0.out.drewN nq)
  have SV1 := Lib.hid (show p < w1.heap.size by rw [hw]; exact SV0.out)
  clear v0 v1 v2 v3 v4 v5 v6 v7 v8
  clear hw B0 XV0 SV0
  obtain ⟨v0, v1, v2, v3, v4, v5, v6, v7, v8, -, -, -, -, -, -, -, -, -⟩ := XV1.out
  go_wp2_with fail
  go_quiet (first | (go_at_call 24; with_reducible exact quiet_eq (CA.out _)) | fail)
  obtain ⟨w2, hw⟩ : ∃ wx, wx = w1.drewN nq := ⟨_, rfl⟩
  rw [← hw]
  have B2 := Lib.hid (show Below p w w2 by rw [hw]; exact below_drewN' B1.out nq)
  have XV2 := Lib.hid (show BxPg p c t s r al ac mk en cu w2 by rw [hw]; exact XV1.out.drewN nq)
  have SV2 := Lib.hid (show p < w2.heap.size by rw [hw]; exact SV1.out)
  clear v0 v1 v2 v3 v4 v5 v6 v7 v8
  clear hw B1 XV1 SV1
  obtain ⟨v0, v1, v2, v3, v4, v5, v6, v7, v8, vf0, vf1, vf2, vf3, vf4, vf5, vf6, vf7, vf8⟩ := XV2.out
  go_wp2_with fail
  exact bodyPost_end (results_none (by rfl) _ _ _) rfl ⟨rfl, (show BxPg p c t s r al' 0 0 x false (putPg p c t s r al' 0 0 x false w2) from XV2.out.put), (B2.out.trans (putPg_below GV.out))⟩

set_option maxHeartbeats 2000000 in
theorem fall_any (p : Nat) (c t s r al ac mk en : Nat) (cu : Bool) (a x : Nat) (w : World) (hv : BxPg p c t s r al ac mk en cu w) (hp : p < w.heap.size) (h1 : c < 18446744073709551616) (h2 : a < 18446744073709551616) (he : Wig.nheld (Wig.fsub c (Wig.fmuldiv c a 2097152)) = x) :
    Calls Try.prog 31 #[.pointer (some ⟨p, 0, none⟩), .int .u64 (a : Int)] w fun e w' => e = .returned (.tuple #[]) ∧ BxPg p x x s 0 al ac mk en cu w' ∧ Below p w w' := by
  have B0 := Lib.hid (Below.refl p w)
  have XV0 := Lib.hid hv
  have SV0 := Lib.hid hp
  have GV := Lib.hid (Nat.le_refl p)
  clear hv hp
  obtain ⟨m, hm⟩ : ∃ m, m = Wig.fmuldiv c a 2097152 := ⟨_, rfl⟩
  rw [← hm] at he
  have m1 : m < 18446744073709551616 := by rw [hm]; exact Wig.fmuldiv_lt _ _ _
  obtain ⟨d, hd⟩ : ∃ d, d = Wig.fsub c m := ⟨_, rfl⟩
  rw [← hd] at he
  have CM := Lib.hid (fun w => (show Calls Try.prog 44 #[.int .u64 (c : Int), .int .u64 (a : Int), .int .u64 2097152] w fun e w' => e = .returned (.int .u64 (m : Int)) ∧ ∃ n, w.drewN n = w' by rw [hm]; exact muldiv_any c a 2097152 w h1 h2 (by omega)))
  have CS := Lib.hid (fun w => (show Calls Try.prog 46 #[.int .u64 (c : Int), .int .u64 (m : Int)] w fun e w' => e = .returned (.int .u64 (d : Int)) ∧ w = w' by rw [hd]; exact sub_any c m w h1 m1))
  have CH := Lib.hid (fun w => Rno.held_any d x w he)
  clear h1 h2 he hm m1 hd
  go_enter Try.func31, Try.ntmps31
  go_wp2_with fail
  refine wp_region_held_drew (S := fun _ => True) (by kernel_rfl) ?_ (fun hHeld => ?_)
  · exact trivial
  obtain ⟨w1, hw⟩ : ∃ wx, wx = w.drew := ⟨_, rfl⟩
  rw [← hw]
  have B1 := Lib.hid (show Below p w w1 by rw [hw]; exact B0.out.drew)
  have XV1 := Lib.hid (show BxPg p c t s r al ac mk en cu w1 by rw [hw]; exact XV0.out.drew)
  have SV1 := Lib.hid (show p < w1.heap.size by rw [hw]; exact SV0.out)
  clear hw B0 XV0 SV0
  refine held_take (v := ?vv101) 0 rfl (by kernel_rfl) (by kernel_rfl) (by kernel_rfl) (fun _ _ _ h => h) (by rfl) ?yy101 (by assumption) ?nn101
  case yy101 =>
    intro w hSw
    (try dsimp only at hSw)
    go_simp
    try with_reducible rfl
  try simp only [Act.put, List.setIfInBounds_toArray, List.set_cons_zero, List.set_cons_succ]
  refine held_take (v := ?vv102) 1 rfl (by kernel_rfl) (by kernel_rfl) (by kernel_rfl) (fun _ _ _ h => h) (by rfl) ?yy102 (by assumption) ?nn102
  case yy102 =>
    intro w hSw
    (try dsimp only at hSw)
    go_simp
    try with_reducible rfl
  try simp only [Act.put, List.setIfInBounds_toArray, List.set_cons_zero, List.set_cons_succ]
  refine held_take (v := ?vv103) 2 rfl (by kernel_rfl) (by kernel_rfl) (by kernel_rfl) (fun _ _ _ h => h) (by rfl) ?yy103 (by assumption) ?nn103
  case yy103 =>
    intro w hSw
    (try dsimp only at hSw)
    go_simp
    try with_reducible rfl
  try simp only [Act.put, List.setIfInBounds_toArray, List.set_cons_zero, List.set_cons_succ]
  refine held_take (v := ?vv104) 3 rfl (by kernel_rfl) (by kernel_rfl) (by kernel_rfl) (fun _ _ _ h => h) (by rfl) ?yy104 (by assumption) ?nn104
  case yy104 =>
    intro w hSw
    (try dsimp only at hSw)
    go_simp
    try with_reducible rfl
  try simp only [Act.put, List.setIfInBounds_toArray, List.set_cons_zero, List.set_cons_succ]
  refine held_take (v := ?vv105) 4 rfl (by kernel_rfl) (by kernel_rfl) (by kernel_rfl) (fun _ _ _ h => h) (by rfl) ?yy105 (by assumption) ?nn105
  case yy105 =>
    intro w hSw
    (try dsimp only at hSw)
    go_simp
    try with_reducible rfl
  try simp only [Act.put, List.setIfInBounds_toArray, List.set_cons_zero, List.set_cons_succ]
  refine held_take (v := ?vv106) 6 rfl (by kernel_rfl) (by kernel_rfl) (by kernel_rfl) (fun _ _ _ h => h) (by rfl) ?yy106 (by assumption) ?nn106
  case yy106 =>
    intro w hSw
    (try dsimp only at hSw)
    go_simp
    try with_reducible rfl
  try simp only [Act.put, List.setIfInBounds_toArray, List.set_cons_zero, List.set_cons_succ]
  refine held_take (v := ?vv107) 7 rfl (by kernel_rfl) (by kernel_rfl) (by kernel_rfl) (fun _ _ _ h => h) (by rfl) ?yy107 (by assumption) ?nn107
  case yy107 =>
    intro w hSw
    (try dsimp only at hSw)
    go_simp
    try with_reducible rfl
  try simp only [Act.put, List.setIfInBounds_toArray, List.set_cons_zero, List.set_cons_succ]
  refine held_take (v := ?vv108) 8 rfl (by kernel_rfl) (by kernel_rfl) (by kernel_rfl) (fun _ _ _ h => h) (by rfl) ?yy108 (by assumption) ?nn108
  case yy108 =>
    intro w hSw
    (try dsimp only at hSw)
    go_simp
    try with_reducible rfl
  try simp only [Act.put, List.setIfInBounds_toArray, List.set_cons_zero, List.set_cons_succ]
  refine held_take (v := ?vv109) 9 rfl (by kernel_rfl) (by kernel_rfl) (by kernel_rfl) (fun _ _ _ h => h) (by rfl) ?yy109 (by assumption) ?nn109
  case yy109 =>
    intro w hSw
    (try dsimp only at hSw)
    go_simp
    try with_reducible rfl
  try simp only [Act.put, List.setIfInBounds_toArray, List.set_cons_zero, List.set_cons_succ]
  refine held_take (v := ?vv110) 11 rfl (by kernel_rfl) (by kernel_rfl) (by kernel_rfl) (fun _ _ _ h => h) (by rfl) ?yy110 (by assumption) ?nn110
  case yy110 =>
    intro w hSw
    (try dsimp only at hSw)
    go_simp
    try with_reducible rfl
  try simp only [Act.put, List.setIfInBounds_toArray, List.set_cons_zero, List.set_cons_succ]
  obtain ⟨v0, v1, v2, v3, v4, v5, v6, v7, v8, vf0, vf1, vf2, vf3, vf4, vf5, vf6, vf7, vf8⟩ := XV1.out
  refine held_two 5 10 rfl rfl (by kernel_rfl) (by rfl) (by rfl) (fun K hK => ?_) (fun K hK => ?_)
  · go_wp2_with fail
    refine hK.out _ _ ?_ (fun hHeld => ?_)
    · exact trivial
    clear hK K
    try simp only [Act.put, List.setIfInBounds_toArray, List.set_cons_zero, List.set_cons_succ]
    refine held_do 10 rfl (by kernel_rfl) (by rfl) (fun K hK => ?_)
    go_wp2_with fail
    refine hK.out _ _ ?_ (fun hHeld => ?_)
    · exact trivial
    clear hK K
    try simp only [Act.put, List.setIfInBounds_toArray, List.set_cons_zero, List.set_cons_succ]
    clear v0 v1 v2 v3 v4 v5 v6 v7 v8 vf0 vf1 vf2 vf3 vf4 vf5 vf6 vf7 vf8
    refine held_do 12 rfl (by kernel_rfl) (by rfl) (fun K hK => ?_)
    go_wp2_with (go_at_call 44; refine (CM.out _).mono ?_; rintro e _ ⟨rfl, nq, rfl⟩)
    refine hK.out _ _ ?_ (fun hHeld => ?_)
    · exact trivial
    clear hK K
    try simp only [Act.put, List.setIfInBounds_toArray, List.set_cons_zero, List.set_cons_succ]
    obtain ⟨w2, hw⟩ : ∃ wx, wx = w1.drewN nq := ⟨_, rfl⟩
    rw [← hw]
    have B2 := Lib.hid (show Below p w w2 by rw [hw]; exact below_drewN' B1.out nq)
    have XV2 := Lib.hid (show BxPg p c t s r al ac mk en cu w2 by rw [hw]; exact XV1.out.drewN nq)
    have SV2 := Lib.hid (show p < w2.heap.size by rw [hw]; exact SV1.out)
    clear hw B1 XV1 SV1
    refine held_do 13 rfl (by kernel_rfl) (by rfl) (fun K hK => ?_)
    go_wp2_with (go_at_call 46; with_reducible refine (CS.out _).mono ?_; rintro e _ ⟨rfl, rfl⟩)
    refine hK.out _ _ ?_ (fun hHeld => ?_)
    · exact trivial
    clear hK K
    try simp only [Act.put, List.setIfInBounds_toArray, List.set_cons_zero, List.set_cons_succ]
    refine held_do 14 rfl (by kernel_rfl) (by rfl) (fun K hK => ?_)
    go_wp2_with (go_at_call 42; with_reducible refine (CH.out _).mono ?_; rintro e _ ⟨rfl, rfl⟩)
    refine hK.out _ _ ?_ (fun hHeld => ?_)
    · exact trivial
    clear hK K
    try simp only [Act.put, List.setIfInBounds_toArray, List.set_cons_zero, List.set_cons_succ]
    refine held_take (v := ?vv115) 15 rfl (by kernel_rfl) (by kernel_rfl) (by kernel_rfl) (fun _ _ _ h => h) (by rfl) ?yy115 (by assumption) ?nn115
    case yy115 =>
      intro w hSw
      (try dsimp only at hSw)
      go_simp
      try with_reducible rfl
    try simp only [Act.put, List.setIfInBounds_toArray, List.set_cons_zero, List.set_cons_succ]
    refine held_take (v := ?vv116) 16 rfl (by kernel_rfl) (by kernel_rfl) (by kernel_rfl) (fun _ _ _ h => h) (by rfl) ?yy116 (by assumption) ?nn116
    case yy116 =>
      intro w hSw
      (try dsimp only at hSw)
      go_simp
      try with_reducible rfl
    try simp only [Act.put, List.setIfInBounds_toArray, List.set_cons_zero, List.set_cons_succ]
    refine held_take (v := ?vv117) 17 rfl (by kernel_rfl) (by kernel_rfl) (by kernel_rfl) (fun _ _ _ h => h) (by rfl) ?yy117 (by assumption) ?nn117
    case yy117 =>
      intro w hSw
      (try dsimp only at hSw)
      go_simp
      try with_reducible rfl
    try simp only [Act.put, List.setIfInBounds_toArray, List.set_cons_zero, List.set_cons_succ]
    obtain ⟨v0, v1, v2, v3, v4, v5, v6, v7, v8, vf0, vf1, vf2, vf3, vf4, vf5, vf6, vf7, vf8⟩ := XV2.out
    refine held_do 18 rfl (by kernel_rfl) (by rfl) (fun K hK => ?_)
    go_wp2_with fail
    refine hK.out _ _ ?_ (fun hHeld => ?_)
    · exact trivial
    clear hK K
    try simp only [Act.put, List.setIfInBounds_toArray, List.set_cons_zero, List.set_cons_succ]
    obtain ⟨w3, hw⟩ : ∃ wx, wx = w2.setCell ⟨p, 0, none⟩ (.int .u64 (x : Int)) := ⟨_, rfl⟩
    rw [← hw]
    have XV3 := Lib.hid (show BxPg p x t s r al ac mk en cu w3 by rw [hw]; exact XV2.out.set0)
    have B3 := Lib.hid (show Below p w w3 by rw [hw]; exact Below.setCell B2.out GV.out _)
    have SV3 := Lib.hid (show p < w3.heap.size by rw [hw]; have := SV2.out; simpa using this)
    clear v0 v1 v2 v3 v4 v5 v6 v7 v8 vf0 vf1 vf2 vf3 vf4 vf5 vf6 vf7 vf8
    clear hw B2 XV2 SV2
    refine wpAnyH_done (by kernel_rfl) ?_ _
    obtain ⟨v0, v1, v2, v3, v4, v5, v6, v7, v8, vf0, vf1, vf2, vf3, vf4, vf5, vf6, vf7, vf8⟩ := XV3.out
    go_wp2_with fail
    obtain ⟨w4, hw⟩ : ∃ wx, wx = w3.setCell ⟨p, 1, none⟩ (.int .u64 (x : Int)) := ⟨_, rfl⟩
    rw [← hw]
    have XV4 := Lib.hid (show BxPg p x x s r al ac mk en cu w4 by rw [hw]; exact XV3.out.set1)
    have B4 := Lib.hid (show Below p w w4 by rw [hw]; exact Below.setCell B3.out GV.out _)
    have SV4 := Lib.hid (show p < w4.heap.size by rw [hw]; have := SV3.out; simpa using this)
    clear v0 v1 v2 v3 v4 v5 v6 v7 v8 vf0 vf1 vf2 vf3 vf4 vf5 vf6 vf7 vf8
    clear hw B3 XV3 SV3
    obtain ⟨w5, hw⟩ : ∃ wx, wx = w4.setCell ⟨p, 3, none⟩ (.int .u64 0) := ⟨_, rfl⟩
    rw [← hw]
    have XV5 := Lib.hid (show BxPg p x x s 0 al ac mk en cu w5 by rw [hw]; exact XV4.out.set3)
    have B5 := Lib.hid (show Below p w w5 by rw [hw]; exact Below.setCell B4.out GV.out _)
    have SV5 := Lib.hid (show p < w5.heap.size by rw [hw]; have := SV4.out; simpa using this)
    clear hw B4 XV4 SV4
    exact bodyPost_end (results_none (by rfl) _ _ _) rfl ⟨rfl, XV5.out, B5.out⟩
  · go_wp2_with fail
    refine hK.out _ _ ?_ (fun hHeld => ?_)
    · exact trivial
    clear hK K
    try simp only [Act.put, List.setIfInBounds_toArray, List.set_cons_zero, List.set_cons_succ]
    refine held_two 5 12 rfl rfl (by kernel_rfl) (by rfl) (by rfl) (fun K hK => ?_) (fun K hK => ?_)
    · go_wp2_with fail
      refine hK.out _ _ ?_ (fun hHeld => ?_)
      · exact trivial
      clear hK K
      try simp only [Act.put, List.setIfInBounds_toArray, List.set_cons_zero, List.set_cons_succ]
      clear v0 v1 v2 v3 v4 v5 v6 v7 v8 vf0 vf1 vf2 vf3 vf4 vf5 vf6 vf7 vf8
      refine held_do 12 rfl (by kernel_rfl) (by rfl) (fun K hK => ?_)
      go_wp2_with (go_at_call 44; refine (CM.out _).mono ?_; rintro e _ ⟨rfl, nq, rfl⟩)
      refine hK.out _ _ ?_ (fun hHeld => ?_)
      · exact trivial
      clear hK K
      try simp only [Act.put, List.setIfInBounds_toArray, List.set_cons_zero, List.set_cons_succ]
      obtain ⟨w2, hw⟩ : ∃ wx, wx = w1.drewN nq := ⟨_, rfl⟩
      rw [← hw]
      have B2 := Lib.hid (show Below p w w2 by rw [hw]; exact below_drewN' B1.out nq)
      have XV2 := Lib.hid (show BxPg p c t s r al ac mk en cu w2 by rw [hw]; exact XV1.out.drewN nq)
      have SV2 := Lib.hid (show p < w2.heap.size by rw [hw]; exact SV1.out)
      clear hw B1 XV1 SV1
      refine held_do 13 rfl (by kernel_rfl) (by rfl) (fun K hK => ?_)
      go_wp2_with (go_at_call 46; with_reducible refine (CS.out _).mono ?_; rintro e _ ⟨rfl, rfl⟩)
      refine hK.out _ _ ?_ (fun hHeld => ?_)
      · exact trivial
      clear hK K
      try simp only [Act.put, List.setIfInBounds_toArray, List.set_cons_zero, List.set_cons_succ]
      refine held_do 14 rfl (by kernel_rfl) (by rfl) (fun K hK => ?_)
      go_wp2_with (go_at_call 42; with_reducible refine (CH.out _).mono ?_; rintro e _ ⟨rfl, rfl⟩)
      refine hK.out _ _ ?_ (fun hHeld => ?_)
      · exact trivial
      clear hK K
      try simp only [Act.put, List.setIfInBounds_toArray, List.set_cons_zero, List.set_cons_succ]
      refine held_take (v := ?vv123) 15 rfl (by kernel_rfl) (by kernel_rfl) (by kernel_rfl) (fun _ _ _ h => h) (by rfl) ?yy123 (by assumption) ?nn123
      case yy123 =>
        intro w hSw
        (try dsimp only at hSw)
        go_simp
        try with_reducible rfl
      try simp only [Act.put, List.setIfInBounds_toArray, List.set_cons_zero, List.set_cons_succ]
      refine held_take (v := ?vv124) 16 rfl (by kernel_rfl) (by kernel_rfl) (by kernel_rfl) (fun _ _ _ h => h) (by rfl) ?yy124 (by assumption) ?nn124
      case yy124 =>
        intro w hSw
        (try dsimp only at hSw)
        go_simp
        try with_reducible rfl
      try simp only [Act.put, List.setIfInBounds_toArray, List.set_cons_zero, List.set_cons_succ]
      refine held_take (v := ?vv125) 17 rfl (by kernel_rfl) (by kernel_rfl) (by kernel_rfl) (fun _ _ _ h => h) (by rfl) ?yy125 (by assumption) ?nn125
      case yy125 =>
        intro w hSw
        (try dsimp only at hSw)
        go_simp
        try with_reducible rfl
      try simp only [Act.put, List.setIfInBounds_toArray, List.set_cons_zero, List.set_cons_succ]
      obtain ⟨v0, v1, v2, v3, v4, v5, v6, v7, v8, vf0, vf1, vf2, vf3, vf4, vf5, vf6, vf7, vf8⟩ := XV2.out
      refine held_do 18 rfl (by kernel_rfl) (by rfl) (fun K hK => ?_)
      go_wp2_with fail
      refine hK.out _ _ ?_ (fun hHeld => ?_)
      · exact trivial
      clear hK K
      try simp only [Act.put, List.setIfInBounds_toArray, List.set_cons_zero, List.set_cons_succ]
      obtain ⟨w3, hw⟩ : ∃ wx, wx = w2.setCell ⟨p, 0, none⟩ (.int .u64 (x : Int)) := ⟨_, rfl⟩
      rw [← hw]
      have XV3 := Lib.hid (show BxPg p x t s r al ac mk en cu w3 by rw [hw]; exact XV2.out.set0)
      have B3 := Lib.hid (show Below p w w3 by rw [hw]; exact Below.setCell B2.out GV.out _)
      have SV3 := Lib.hid (show p < w3.heap.size by rw [hw]; have := SV2.out; simpa using this)
      clear v0 v1 v2 v3 v4 v5 v6 v7 v8 vf0 vf1 vf2 vf3 vf4 vf5 vf6 vf7 vf8
      clear hw B2 XV2 SV2
      refine wpAnyH_done (by kernel_rfl) ?_ _
      obtain ⟨v0, v1, v2, v3, v4, v5, v6, v7, v8, vf0, vf1, vf2, vf3, vf4, vf5, vf6, vf7, vf8⟩ := XV3.out
      go_wp2_with fail
      obtain ⟨w4, hw⟩ : ∃ wx, wx = w3.setCell ⟨p, 1, none⟩ (.int .u64 (x : Int)) := ⟨_, rfl⟩
      rw [← hw]
      have XV4 := Lib.hid (show BxPg p x x s r al ac mk en cu w4 by rw [hw]; exact XV3.out.set1)
      have B4 := Lib.hid (show Below p w w4 by rw [hw]; exact Below.setCell B3.out GV.out _)
      have SV4 := Lib.hid (show p < w4.heap.size by rw [hw]; have := SV3.out; simpa using this)
      clear v0 v1 v2 v3 v4 v5 v6 v7 v8 vf0 vf1 vf2 vf3 vf4 vf5 vf6 vf7 vf8
      clear hw B3 XV3 SV3
      obtain ⟨w5, hw⟩ : ∃ wx, wx = w4.setCell ⟨p, 3, none⟩ (.int .u64 0) := ⟨_, rfl⟩
      rw [← hw]
      have XV5 := Lib.hid (show BxPg p x x s 0 al ac mk en cu w5 by rw [hw]; exact XV4.out.set3)
      have B5 := Lib.hid (show Below p w w5 by rw [hw]; exact Below.setCell B4.out GV.out _)
      have SV5 := Lib.hid (show p < w5.heap.size by rw [hw]; have := SV4.out; simpa using this)
      clear hw B4 XV4 SV4
      exact bodyPost_end (results_none (by rfl) _ _ _) rfl ⟨rfl, XV5.out, B5.out⟩
    · clear v0 v1 v2 v3 v4 v5 v6 v7 v8 vf0 vf1 vf2 vf3 vf4 vf5 vf6 vf7 vf8
      go_wp2_with (go_at_call 44; refine (CM.out _).mono ?_; rintro e _ ⟨rfl, nq, rfl⟩)
      refine hK.out _ _ ?_ (fun hHeld => ?_)
      · exact trivial
      clear hK K
      try simp only [Act.put, List.setIfInBounds_toArray, List.set_cons_zero, List.set_cons_succ]
      obtain ⟨w2, hw⟩ : ∃ wx, wx = w1.drewN nq := ⟨_, rfl⟩
      rw [← hw]
      have B2 := Lib.hid (show Below p w w2 by rw [hw]; exact below_drewN' B1.out nq)
      have XV2 := Lib.hid (show BxPg p c t s r al ac mk en cu w2 by rw [hw]; exact XV1.out.drewN nq)
      have SV2 := Lib.hid (show p < w2.heap.size by rw [hw]; exact SV1.out)
      clear hw B1 XV1 SV1
      obtain ⟨v0, v1, v2, v3, v4, v5, v6, v7, v8, -, -, -, -, -, -, -, -, -⟩ := XV2.out
      refine held_do 5 rfl (by kernel_rfl) (by rfl) (fun K hK => ?_)
      go_wp2_with fail
      refine hK.out _ _ ?_ (fun hHeld => ?_)
      · exact trivial
      clear hK K
      try simp only [Act.put, List.setIfInBounds_toArray, List.set_cons_zero, List.set_cons_succ]
      clear v0 v1 v2 v3 v4 v5 v6 v7 v8
      refine held_do 13 rfl (by kernel_rfl) (by rfl) (fun K hK => ?_)
      go_wp2_with (go_at_call 46; with_reducible refine (CS.out _).mono ?_; rintro e _ ⟨rfl, rfl⟩)
      refine hK.out _ _ ?_ (fun hHeld => ?_)
      · exact trivial
      clear hK K
      try simp only [Act.put, List.setIfInBounds_toArray, List.set_cons_zero, List.set_cons_succ]
      refine held_do 14 rfl (by kernel_rfl) (by rfl) (fun K hK => ?_)
      go_wp2_with (go_at_call 42; with_reducible refine (CH.out _).mono ?_; rintro e _ ⟨rfl, rfl⟩)
      refine hK.out _ _ ?_ (fun hHeld => ?_)
      · exact trivial
      clear hK K
      try simp only [Act.put, List.setIfInBounds_toArray, List.set_cons_zero, List.set_cons_succ]
      refine held_take (v := ?vv131) 15 rfl (by kernel_rfl) (by kernel_rfl) (by kernel_rfl) (fun _ _ _ h => h) (by rfl) ?yy131 (by assumption) ?nn131
      case yy131 =>
        intro w hSw
        (try dsimp only at hSw)
        go_simp
        try with_reducible rfl
      try simp only [Act.put, List.setIfInBounds_toArray, List.set_cons_zero, List.set_cons_succ]
      refine held_take (v := ?vv132) 16 rfl (by kernel_rfl) (by kernel_rfl) (by kernel_rfl) (fun _ _ _ h => h) (by rfl) ?yy132 (by assumption) ?nn132
      case yy132 =>
        intro w hSw
        (try dsimp only at hSw)
        go_simp
        try with_reducible rfl
      try simp only [Act.put, List.setIfInBounds_toArray, List.set_cons_zero, List.set_cons_succ]
      refine held_take (v := ?vv133) 17 rfl (by kernel_rfl) (by kernel_rfl) (by kernel_rfl) (fun _ _ _ h => h) (by rfl) ?yy133 (by assumption) ?nn133
      case yy133 =>
        intro w hSw
        (try dsimp only at hSw)
        go_simp
        try with_reducible rfl
      try simp only [Act.put, List.setIfInBounds_toArray, List.set_cons_zero, List.set_cons_succ]
      obtain ⟨v0, v1, v2, v3, v4, v5, v6, v7, v8, vf0, vf1, vf2, vf3, vf4, vf5, vf6, vf7, vf8⟩ := XV2.out
      refine held_do 18 rfl (by kernel_rfl) (by rfl) (fun K hK => ?_)
      go_wp2_with fail
      refine hK.out _ _ ?_ (fun hHeld => ?_)
      · exact trivial
      clear hK K
      try simp only [Act.put, List.setIfInBounds_toArray, List.set_cons_zero, List.set_cons_succ]
      obtain ⟨w3, hw⟩ : ∃ wx, wx = w2.setCell ⟨p, 0, none⟩ (.int .u64 (x : Int)) := ⟨_, rfl⟩
      rw [← hw]
      have XV3 := Lib.hid (show BxPg p x t s r al ac mk en cu w3 by rw [hw]; exact XV2.out.set0)
      have B3 := Lib.hid (show Below p w w3 by rw [hw]; exact Below.setCell B2.out GV.out _)
      have SV3 := Lib.hid (show p < w3.heap.size by rw [hw]; have := SV2.out; simpa using this)
      clear v0 v1 v2 v3 v4 v5 v6 v7 v8 vf0 vf1 vf2 vf3 vf4 vf5 vf6 vf7 vf8
      clear hw B2 XV2 SV2
      refine wpAnyH_done (by kernel_rfl) ?_ _
      obtain ⟨v0, v1, v2, v3, v4, v5, v6, v7, v8, vf0, vf1, vf2, vf3, vf4, vf5, vf6, vf7, vf8⟩ := XV3.out
      go_wp2_with fail
      obtain ⟨w4, hw⟩ : ∃ wx, wx = w3.setCell ⟨p, 1, none⟩ (.int .u64 (x : Int)) := ⟨_, rfl⟩
      rw [← hw]
      have XV4 := Lib.hid (show BxPg p x x s r al ac mk en cu w4 by rw [hw]; exact XV3.out.set1)
      have B4 := Lib.hid (show Below p w w4 by rw [hw]; exact Below.setCell B3.out GV.out _)
      have SV4 := Lib.hid (show p < w4.heap.size by rw [hw]; have := SV3.out; simpa using this)
      clear v0 v1 v2 v3 v4 v5 v6 v7 v8 vf0 vf1 vf2 vf3 vf4 vf5 vf6 vf7 vf8
      clear hw B3 XV3 SV3
      obtain ⟨w5, hw⟩ : ∃ wx, wx = w4.setCell ⟨p, 3, none⟩ (.int .u64 0) := ⟨_, rfl⟩
      rw [← hw]
      have XV5 := Lib.hid (show BxPg p x x s 0 al ac mk en cu w5 by rw [hw]; exact XV4.out.set3)
      have B5 := Lib.hid (show Below p w w5 by rw [hw]; exact Below.setCell B4.out GV.out _)
      have SV5 := Lib.hid (show p < w5.heap.size by rw [hw]; have := SV4.out; simpa using this)
      clear hw B4 XV4 SV4
      exact bodyPost_end (results_none (by rfl) _ _ _) rfl ⟨rfl, XV5.out, B5.out⟩

theorem rshare_any (m a r : Nat) (w : World) (hm : m < 18446744073709551616) (ha : a < 18446744073709551616) (hr : Wig.gshare m a = r) :
    Calls Try.prog 28 #[.int .u64 (m : Int), .int .u64 (a : Int)] w fun e w' => e = .returned (.int .u64 (r : Int)) ∧ w = w' := by
  by_cases h : a = 0
  · subst h
    unfold Wig.gshare at hr
    rw [if_pos rfl] at hr
    subst hr
    clear hm ha
    go_enter Try.func28, Try.ntmps28
    go_wp2_with fail
    go_ret
    exact ⟨rfl, rfl⟩
  · rw [share_eq] at hr
    have t1 : ((a : Int) == 0) = false := by simp; omega
    by_cases g : a < m
    · rw [show min m a = a by omega] at hr
      have t2 : decide (a < m) = true := decide_eq_true g
      have CM := Lib.hid (fun w => (show Calls Try.prog 34 #[.int .u64 (a : Int), .int .u64 1048576, .int .u64 (a : Int)] w fun e w' => e = .returned (.int .u64 (r : Int)) ∧ w = w' by rw [← hr]; exact rmuldiv_any a 1048576 a w (by omega) (by omega) ha))
      clear hm ha hr g h
      go_enter Try.func28, Try.ntmps28
      go_wp2_with fail
      refine (CM.out _).mono ?_
      rintro e _ ⟨rfl, rfl⟩
      go_wp2_with fail
      go_ret
      exact ⟨rfl, rfl⟩
    · rw [show min m a = m by omega] at hr
      have t2 : decide (a < m) = false := decide_eq_false g
      have CM := Lib.hid (fun w => (show Calls Try.prog 34 #[.int .u64 (m : Int), .int .u64 1048576, .int .u64 (a : Int)] w fun e w' => e = .returned (.int .u64 (r : Int)) ∧ w = w' by rw [← hr]; exact rmuldiv_any m 1048576 a w (by omega) (by omega) ha))
      clear hm ha hr g h
      go_enter Try.func28, Try.ntmps28
      go_wp2_with fail
      refine (CM.out _).mono ?_
      rintro e _ ⟨rfl, rfl⟩
      go_wp2_with fail
      go_ret
      exact ⟨rfl, rfl⟩
end Go.Proofs.Ytpdmepblmjjeeaa
