/-
  The model of a path as plain numbers: its best rate, its least time, windows and rates; what of this the statements of layer 13 ask. No condition: nothing of the program is named here.
-/
import Derived.Test.YtjojnbeflongkaaDoorSampM
import Derived.Test.YtjojnbeflongkaaDoorRenM
set_option linter.unusedVariables false
namespace Wig
/-- What a sender learns. -/
structure Gt where
  now : Nat
  bytes : Nat
  at_ : Nat
  number : Nat
  next : Nat
  took : Nat
  flight : Nat
  rate : Nat
  limited : Bool
  round : Bool
deriving DecidableEq
def Gt.Ok (g : Gt) : Prop := g.now < 18446744073709551616 ∧ g.bytes < 18446744073709551616 ∧ g.at_ < 18446744073709551616 ∧ g.number < 18446744073709551616 ∧ g.next < 18446744073709551616 ∧ g.took < 18446744073709551616 ∧ g.flight < 18446744073709551616 ∧ g.rate < 18446744073709551616
/-- A model. -/
structure Pb where
  state : Int
  rates : List Smp
  low : Nat
  lowAt : Nat
  full : Nat
  still : Nat
  rounds : Nat
  phase : Nat
  since : Nat
  high : Nat
deriving DecidableEq
structure Pb.Ok (p : Pb) : Prop where
  s0 : -9223372036854775808 ≤ p.state
  s1 : p.state ≤ 9223372036854775807
  rates : Fits p.rates
  low : p.low < 18446744073709551616
  lowAt : p.lowAt < 18446744073709551616
  full : p.full < 18446744073709551616
  still : p.still < 18446744073709551616
  rounds : p.rounds < 18446744073709551616
  phase : p.phase < 18446744073709551616
  since : p.since < 18446744073709551616
  high : p.high < 18446744073709551616
def pbnew (now : Nat) : Pb := ⟨0, [], 18446744073709551615, now, 0, 0, 0, 0, now, 16777216⟩
def pbprod (p : Pb) (parts : Nat) : Nat := if p.low = 18446744073709551615 then 0 else fgain (fmuldiv (best p.rates) p.low 1000) parts
/-- A window of so much, that is at most high. -/
def pbcap (w high : Nat) : Nat := if (if high < w then high else w) < 4800 ∧ 4800 ≤ high then 4800 else if high < w then high else w
def pbwindow (p : Pb) : Nat :=
  if p.state = 3 then 4800 else if pbprod p 256 = 0 then 12000 else pbcap (nheld (pbprod p (if p.state = 0 then 739 else 512))) p.high
def pbpart (phase : Nat) : Nat := if phase % 8 = 0 then 320 else if phase % 8 = 1 then 192 else 256
def pbrate (p : Pb) : Nat :=
  if best p.rates = 0 then fmuldiv 12000 1000 333 else if p.state = 0 then fgain (best p.rates) 739 else if p.state = 1 then fgain (best p.rates) 89
  else if p.state = 2 then fgain (best p.rates) (pbpart p.phase) else fgain (best p.rates) 256
def pbround (p : Pb) (g : Gt) : Pb := if g.round = true then { p with rounds := fadd p.rounds 1, high := nheld (fadd p.high (p.high / 8)) } else p
def pbpush (p : Pb) (g : Gt) : Pb := if g.limited = false ∨ best p.rates ≤ g.rate then { p with rates := pushed true 10 (p.rounds, g.rate) p.rates } else p
def pbstale (p : Pb) (g : Gt) : Bool := decide (fadd p.lowAt 10000 ≤ g.now)
def pblow (p : Pb) (g : Gt) : Pb := if pbstale p g = true ∨ g.took < p.low then { p with low := g.took, lowAt := g.now } else p
def pbstart (p : Pb) (g : Gt) : Pb :=
  if g.round = false ∨ g.limited = true then p
  else if fadd p.full (p.full / 4) ≤ best p.rates ∧ 0 < best p.rates then { p with full := best p.rates, still := 0 }
  else if fadd p.still 1 = 3 then { p with still := 3, state := 1 } else { p with still := fadd p.still 1 }
def pbmove (p : Pb) (g : Gt) (stale : Bool) : Pb :=
  if p.state = 0 then pbstart p g
  else if p.state = 1 then (if g.flight ≤ pbprod p 256 then { p with state := 2, phase := 0, since := g.now } else p)
  else if p.state = 2 then (if stale = true then { p with state := 3, since := g.now } else if fadd p.since p.low ≤ g.now then { p with phase := fadd p.phase 1, since := g.now } else p)
  else if p.state = 3 then (if fadd p.since 200 ≤ g.now then { p with state := 2, phase := 2, since := g.now } else p)
  else p
def pback (p : Pb) (g : Gt) : Pb := pbmove (pblow (pbpush (pbround p g) g) g) g (pbstale p g)
def pbhigh (flight : Nat) : Nat := nheld (fmuldiv flight 7 10)
def pbloss (p : Pb) (flight : Nat) : Pb := if pbhigh flight < p.high then { p with high := pbhigh flight } else p

theorem best_le {ss : List Smp} (h : Fits ss) : best ss < 18446744073709551616 := by
  cases ss with
  | nil => simp [best]
  | cons p ss => exact (h p (by simp)).2
theorem fgain_lt (a p : Nat) : fgain a p < 18446744073709551616 := fmuldiv_lt _ _ _
theorem pbprod_lt (p : Pb) (k : Nat) : pbprod p k < 18446744073709551616 := by unfold pbprod; split; omega; exact fgain_lt _ _
theorem pbnew_ok {n : Nat} (h : n < 18446744073709551616) : (pbnew n).Ok := ⟨by simp [pbnew], by simp [pbnew], (fun p hp => (by cases hp)), by simp [pbnew], h, by simp [pbnew], by simp [pbnew], by simp [pbnew], by simp [pbnew], h, by simp [pbnew]⟩
theorem pbround_ok {p : Pb} {g : Gt} (h : p.Ok) : (pbround p g).Ok := by
  unfold pbround
  split
  · have := nheld_le (fadd p.high (p.high / 8))
    exact ⟨h.s0, h.s1, h.rates, h.low, h.lowAt, h.full, h.still, fadd_lt0 _ _, h.phase, h.since, by show nheld _ < _; omega⟩
  · exact h
theorem pbpush_ok {p : Pb} {g : Gt} (h : p.Ok) (hg : g.Ok) : (pbpush p g).Ok := by
  unfold pbpush
  split
  · exact ⟨h.s0, h.s1, pushed_fits h.rates ⟨h.rounds, hg.2.2.2.2.2.2.2⟩, h.low, h.lowAt, h.full, h.still, h.rounds, h.phase, h.since, h.high⟩
  · exact h
theorem pblow_ok {p : Pb} {g : Gt} (h : p.Ok) (hg : g.Ok) : (pblow p g).Ok := by
  unfold pblow
  split
  · exact ⟨h.s0, h.s1, h.rates, hg.2.2.2.2.2.1, hg.1, h.full, h.still, h.rounds, h.phase, h.since, h.high⟩
  · exact h
theorem pbstart_ok {p : Pb} {g : Gt} (h : p.Ok) : (pbstart p g).Ok := by
  unfold pbstart
  split
  · exact h
  · split
    · exact ⟨h.s0, h.s1, h.rates, h.low, h.lowAt, best_le h.rates, by simp, h.rounds, h.phase, h.since, h.high⟩
    · split
      · exact ⟨by simp, by simp, h.rates, h.low, h.lowAt, h.full, by simp, h.rounds, h.phase, h.since, h.high⟩
      · exact ⟨h.s0, h.s1, h.rates, h.low, h.lowAt, h.full, fadd_lt0 _ _, h.rounds, h.phase, h.since, h.high⟩
theorem pbmove_ok {p : Pb} {g : Gt} {s : Bool} (h : p.Ok) (hg : g.Ok) : (pbmove p g s).Ok := by
  unfold pbmove
  split
  · exact pbstart_ok h
  · split
    · split
      · exact ⟨by simp, by simp, h.rates, h.low, h.lowAt, h.full, h.still, h.rounds, by simp, hg.1, h.high⟩
      · exact h
    · split
      · split
        · exact ⟨by simp, by simp, h.rates, h.low, h.lowAt, h.full, h.still, h.rounds, h.phase, hg.1, h.high⟩
        · split
          · exact ⟨h.s0, h.s1, h.rates, h.low, h.lowAt, h.full, h.still, h.rounds, fadd_lt0 _ _, hg.1, h.high⟩
          · exact h
      · split
        · split
          · exact ⟨by simp, by simp, h.rates, h.low, h.lowAt, h.full, h.still, h.rounds, by simp, hg.1, h.high⟩
          · exact h
        · exact h
theorem pback_ok {p : Pb} {g : Gt} (h : p.Ok) (hg : g.Ok) : (pback p g).Ok := pbmove_ok (pblow_ok (pbpush_ok (pbround_ok h) hg) hg) hg
theorem pbhigh_le (f : Nat) : pbhigh f ≤ 16777216 := nheld_le _
theorem pbhigh_ge (f : Nat) : 2400 ≤ pbhigh f := nheld_ge _
theorem pbloss_ok {p : Pb} {f : Nat} (h : p.Ok) : (pbloss p f).Ok := by
  have := pbhigh_le f
  unfold pbloss
  split
  · exact ⟨h.s0, h.s1, h.rates, h.low, h.lowAt, h.full, h.still, h.rounds, h.phase, h.since, by show pbhigh f < _; omega⟩
  · exact h
/-- The list of rates behind packets that came grows by one at most. -/
theorem pbmove_rates (p : Pb) (g : Gt) (s : Bool) : (pbmove p g s).rates = p.rates := by
  unfold pbmove pbstart
  repeat' split
  all_goals rfl
theorem pblow_rates (p : Pb) (g : Gt) : (pblow p g).rates = p.rates := by unfold pblow; split <;> rfl
theorem pbround_rates (p : Pb) (g : Gt) : (pbround p g).rates = p.rates := by unfold pbround; split <;> rfl
theorem pbpush_len (p : Pb) (g : Gt) : (pbpush p g).rates.length ≤ p.rates.length + 1 := by
  unfold pbpush
  split
  · exact pushed_le _ _ _ _
  · exact Nat.le_succ _
theorem pback_len (p : Pb) (g : Gt) : (pback p g).rates.length ≤ p.rates.length + 1 := by
  unfold pback
  rw [pbmove_rates, pblow_rates]
  have := pbpush_len (pbround p g) g
  rwa [pbround_rates] at this
theorem pbloss_rates (p : Pb) (f : Nat) : (pbloss p f).rates = p.rates := by unfold pbloss; split <;> rfl

/-! ### Within the least and the greatest -/
def PFine (p : Pb) : Prop := 2400 ≤ p.high ∧ p.high ≤ 16777216 ∧ 0 ≤ p.state ∧ p.state ≤ 3
theorem pfine_new (n : Nat) : PFine (pbnew n) := by refine ⟨?_, ?_, ?_, ?_⟩ <;> simp [pbnew]
theorem pbcap_in {w h : Nat} (h0 : 2400 ≤ h) (h1 : h ≤ 16777216) (w0 : 2400 ≤ w) : 2400 ≤ pbcap w h ∧ pbcap w h ≤ 16777216 := by
  unfold pbcap
  repeat' split
  all_goals omega
theorem pbcap_mono {w h h' : Nat} (hh : h' ≤ h) : pbcap w h' ≤ pbcap w h := by
  unfold pbcap
  by_cases h1 : h' < w
  · by_cases h2 : h < w
    · simp only [if_pos h1, if_pos h2]
      split <;> split <;> omega
    · simp only [if_pos h1, if_neg h2]
      split <;> split <;> omega
  · by_cases h2 : h < w
    · omega
    · simp only [if_neg h1, if_neg h2]
      split <;> split <;> omega
theorem pbwindow_in {p : Pb} (h : PFine p) : 2400 ≤ pbwindow p ∧ pbwindow p ≤ 16777216 := by
  unfold pbwindow
  split
  · omega
  · split
    · omega
    · exact pbcap_in h.1 h.2.1 (nheld_ge _)
theorem pbprod_loss (p : Pb) (f k : Nat) : pbprod (pbloss p f) k = pbprod p k := by unfold pbloss; split <;> rfl
theorem pfine_loss {p : Pb} (h : PFine p) (f : Nat) : PFine (pbloss p f) ∧ pbwindow (pbloss p f) ≤ pbwindow p ∧ (pbloss p f).state = p.state := by
  have k1 := pbhigh_le f
  have k2 := pbhigh_ge f
  have hs : (pbloss p f).state = p.state := by unfold pbloss; split <;> rfl
  have hh : (pbloss p f).high ≤ p.high := by unfold pbloss; split; exact Nat.le_of_lt (by assumption); exact Nat.le_refl _
  refine ⟨?_, ?_, hs⟩
  · unfold pbloss
    split
    · exact ⟨k2, k1, h.2.2.1, h.2.2.2⟩
    · exact h
  · unfold pbwindow
    rw [hs, pbprod_loss, pbprod_loss]
    split
    · exact Nat.le_refl _
    · split
      · exact Nat.le_refl _
      · exact pbcap_mono hh
theorem pbround_fine {p : Pb} (h : PFine p) (g : Gt) : PFine (pbround p g) ∧ (pbround p g).state = p.state := by
  unfold pbround
  split
  · exact ⟨⟨nheld_ge _, nheld_le _, h.2.2.1, h.2.2.2⟩, rfl⟩
  · exact ⟨h, rfl⟩
theorem pbpush_fine {p : Pb} (h : PFine p) (g : Gt) : PFine (pbpush p g) ∧ (pbpush p g).state = p.state := by
  unfold pbpush
  split
  · exact ⟨h, rfl⟩
  · exact ⟨h, rfl⟩
theorem pblow_fine {p : Pb} (h : PFine p) (g : Gt) : PFine (pblow p g) ∧ (pblow p g).state = p.state := by
  unfold pblow
  split
  · exact ⟨h, rfl⟩
  · exact ⟨h, rfl⟩
theorem pbmove_fine {p : Pb} (h : PFine p) (g : Gt) (s : Bool) : PFine (pbmove p g s) ∧ (0 < p.state → (pbmove p g s).state ≠ 0) ∧ (1 < p.state → (pbmove p g s).state ≠ 1) := by
  obtain ⟨h1, h2, h3, h4⟩ := h
  unfold pbmove
  split
  · rename_i h0
    refine ⟨?_, fun h => by omega, fun h => by omega⟩
    unfold pbstart
    split
    · exact ⟨h1, h2, h3, h4⟩
    · split
      · exact ⟨h1, h2, h3, h4⟩
      · split
        · exact ⟨h1, h2, by simp, by simp⟩
        · exact ⟨h1, h2, h3, h4⟩
  · split
    · split
      · exact ⟨⟨h1, h2, by simp, by simp⟩, fun _ => by simp, fun _ => by simp⟩
      · exact ⟨⟨h1, h2, h3, h4⟩, fun _ => by assumption, fun h => by omega⟩
    · split
      · split
        · exact ⟨⟨h1, h2, by simp, by simp⟩, fun _ => by simp, fun _ => by simp⟩
        · split
          · exact ⟨⟨h1, h2, h3, h4⟩, fun _ => by simp only; omega, fun _ => by simp only; omega⟩
          · exact ⟨⟨h1, h2, h3, h4⟩, fun _ => by omega, fun _ => by omega⟩
      · split
        · split
          · exact ⟨⟨h1, h2, by simp, by simp⟩, fun _ => by simp, fun _ => by simp⟩
          · exact ⟨⟨h1, h2, h3, h4⟩, fun _ => by omega, fun _ => by omega⟩
        · exact ⟨⟨h1, h2, h3, h4⟩, fun _ => by omega, fun _ => by omega⟩
theorem pfine_ack {p : Pb} (h : PFine p) (g : Gt) : PFine (pback p g) ∧ (0 < p.state → (pback p g).state ≠ 0) ∧ (1 < p.state → (pback p g).state ≠ 1) := by
  obtain ⟨a1, a2⟩ := pbround_fine h g
  obtain ⟨b1, b2⟩ := pbpush_fine a1 g
  obtain ⟨c1, c2⟩ := pblow_fine b1 g
  have e : (pblow (pbpush (pbround p g) g) g).state = p.state := c2.trans (b2.trans a2)
  have := pbmove_fine c1 g (pbstale p g)
  rw [e] at this
  exact this

/-! ### The least time, and the best rate of one round -/
def PLow (low most : Nat) (p : Pb) : Prop := p.state = 0 ∧ p.rounds = 0 ∧ p.low = low ∧ (∀ q ∈ p.rates, q.2 ≤ most) ∧ best p.rates = most ∧ p.lowAt ≤ 6000
theorem plow_new : PLow 18446744073709551615 0 (pbnew 0) := ⟨rfl, rfl, rfl, fun q hq => (by cases hq), rfl, by simp [pbnew]⟩
theorem best_push {most v t : Nat} {ss : List Smp} (h : ∀ q ∈ ss, q.2 ≤ most) (hb : best ss = most) (ht : ∀ q ∈ ss, t ≤ fadd q.1 10) : (∀ q ∈ pushed true 10 (t, v) ss, q.2 ≤ max most v) ∧ best (pushed true 10 (t, v) ss) = max most v := by
  constructor
  · intro q hq
    rcases List.mem_append.1 hq with hq | hq
    · have := h q (List.mem_filter.1 hq).1; omega
    · rw [List.mem_singleton.1 hq]; simp only; omega
  · cases ss with
    | nil =>
      simp [best] at hb
      subst hb
      show v = _
      omega
    | cons p ss =>
      have hp : p.2 = most := hb
      by_cases hv : v < most
      · have hs : stays true 10 (t, v) p = true := by
          unfold stays better
          simp only [if_true, Bool.and_eq_true, decide_eq_true_eq]
          exact ⟨ht p (by simp), by omega⟩
        unfold pushed kept
        rw [List.filter_cons_of_pos hs]
        show p.2 = _
        omega
      · have hn : kept true 10 (t, v) (p :: ss) = [] := by
          unfold kept
          rw [List.filter_eq_nil_iff]
          intro q hq
          have := h q hq
          unfold stays better
          simp
          intro _
          omega
        unfold pushed
        rw [hn]
        show v = _
        omega
theorem plow_ack {low most now took rate : Nat} {p : Pb} (h : PLow low most p) (hn : now ≤ 6000) (b a m n f : Nat) :
    PLow (min low took) (max most rate) (pback p ⟨now, b, a, m, n, took, f, rate, false, false⟩) := by
  obtain ⟨h1, h2, h3, h4, h5, h6⟩ := h
  generalize hg : (⟨now, b, a, m, n, took, f, rate, false, false⟩ : Gt) = g
  have gr : g.round = false := by rw [← hg]
  have gl : g.limited = false := by rw [← hg]
  have gt : g.took = took := by rw [← hg]
  have ge : g.rate = rate := by rw [← hg]
  have gn : g.now = now := by rw [← hg]
  have e1 : pbround p g = p := by unfold pbround; rw [if_neg (by simp [gr])]
  have e2 : pbpush p g = { p with rates := pushed true 10 (0, rate) p.rates } := by unfold pbpush; rw [if_pos (.inl gl), h2, ge]
  have e3 : pbstale p g = false := by
    unfold pbstale fadd
    rw [gn, if_pos (by omega)]
    exact decide_eq_false (by omega)
  obtain ⟨k1, k2⟩ := best_push (v := rate) (t := 0) h4 h5 (fun _ _ => Nat.zero_le _)
  unfold pback
  rw [e1, e2, e3]
  generalize hq : ({ p with rates := pushed true 10 (0, rate) p.rates } : Pb) = q
  have q1 : q.state = 0 := by rw [← hq]; exact h1
  have q2 : q.rounds = 0 := by rw [← hq]; exact h2
  have q3 : q.low = low := by rw [← hq]; exact h3
  have q4 : ∀ x ∈ q.rates, x.2 ≤ max most rate := by rw [← hq]; exact k1
  have q5 : best q.rates = max most rate := by rw [← hq]; exact k2
  have q6 : q.lowAt ≤ 6000 := by rw [← hq]; exact h6
  have e4 : pbstale q g = false := by
    unfold pbstale fadd
    rw [gn, if_pos (by omega)]
    exact decide_eq_false (by omega)
  have e5 : PLow (min low took) (max most rate) (pblow q g) := by
    unfold pblow
    rw [e4, gt, gn, q3]
    by_cases hl : took < low
    · rw [if_pos (.inr hl)]
      exact ⟨q1, q2, by show took = _; omega, q4, q5, hn⟩
    · rw [if_neg (by simp; omega)]
      exact ⟨q1, q2, by rw [q3]; omega, q4, q5, q6⟩
  have e6 : pbmove (pblow q g) g false = pblow q g := by
    unfold pbmove
    rw [if_pos e5.1]
    unfold pbstart
    rw [if_pos (.inl gr)]
  rw [e6]
  exact e5

/-! ### Nothing new -/
theorem pquiet {p : Pb} {took rate : Nat} (hs : p.state = 0) (hr : rate < best p.rates) (ht : p.low ≤ took) (hl : p.lowAt ≤ 4611686018427387904) (b a m n f : Nat) :
    pback p ⟨p.lowAt, b, a, m, n, took, f, rate, true, false⟩ = p := by
  generalize hg : (⟨p.lowAt, b, a, m, n, took, f, rate, true, false⟩ : Gt) = g
  have gr : g.round = false := by rw [← hg]
  have gl : g.limited = true := by rw [← hg]
  have gt : g.took = took := by rw [← hg]
  have ge : g.rate = rate := by rw [← hg]
  have gn : g.now = p.lowAt := by rw [← hg]
  have e1 : pbround p g = p := by unfold pbround; rw [if_neg (by simp [gr])]
  have e2 : pbpush p g = p := by unfold pbpush; rw [if_neg (by rw [gl, ge]; simp; omega)]
  have e3 : pbstale p g = false := by
    unfold pbstale fadd
    rw [gn, if_pos (by omega)]
    exact decide_eq_false (by omega)
  have e4 : pblow p g = p := by unfold pblow; rw [e3, gt, if_neg (by simp; omega)]
  unfold pback
  rw [e1, e2, e4]
  unfold pbmove
  rw [if_pos hs]
  unfold pbstart
  rw [if_pos (.inl gr)]

/-! ### Drained -/
/-- Behind k rounds of one rate and one time. -/
def pbdr (rate took k : Nat) : Pb := ⟨if k = 4 then 1 else 0, [(k, rate)], took, 0, rate, k - 1, k, 0, 0, 16777216⟩
def gdr (now took rate flight : Nat) (round : Bool) : Gt := ⟨now, 0, 0, 0, 0, took, flight, rate, false, round⟩
theorem held_top : nheld (fadd 16777216 (16777216 / 8)) = 16777216 := by decide
theorem pushed_same (t u rate : Nat) : pushed true 10 (t, rate) [(u, rate)] = [(t, rate)] := by
  unfold pushed kept
  rw [show ([(u, rate)] : List Smp).filter (stays true 10 (t, rate)) = [] by
    rw [List.filter_eq_nil_iff]
    intro q hq
    rw [List.mem_singleton.1 hq]
    unfold stays better
    simp]
  rfl
theorem pbround_yes {p : Pb} {g : Gt} (h : g.round = true) : pbround p g = { p with rounds := fadd p.rounds 1, high := nheld (fadd p.high (p.high / 8)) } := if_pos h
theorem pbround_no {p : Pb} {g : Gt} (h : g.round = false) : pbround p g = p := if_neg (by simp [h])
theorem pbpush_yes {p : Pb} {g : Gt} (h : g.limited = false) : pbpush p g = { p with rates := pushed true 10 (p.rounds, g.rate) p.rates } := if_pos (.inl h)
theorem pbstale_no {p : Pb} {g : Gt} (h : p.lowAt ≤ 10000) (h2 : g.now < 10000) : pbstale p g = false := by
  unfold pbstale fadd
  rw [if_pos (by omega)]
  exact decide_eq_false (by omega)
theorem pblow_yes {p : Pb} {g : Gt} (h : g.took < p.low) : pblow p g = { p with low := g.took, lowAt := g.now } := if_pos (.inr h)
theorem pblow_no {p : Pb} {g : Gt} (h0 : pbstale p g = false) (h : p.low ≤ g.took) : pblow p g = p := if_neg (by rw [h0]; simp; omega)
theorem pbmove_start {p : Pb} {g : Gt} {s : Bool} (h : p.state = 0) : pbmove p g s = pbstart p g := if_pos h
theorem pbmove_drain {p : Pb} {g : Gt} {s : Bool} (h : p.state = 1) : pbmove p g s = if g.flight ≤ pbprod p 256 then { p with state := 2, phase := 0, since := g.now } else p := by
  unfold pbmove
  rw [if_neg (by omega), if_pos h]
theorem pbstart_grown {p : Pb} {g : Gt} (hr : g.round = true) (hl : g.limited = false) (h1 : fadd p.full (p.full / 4) ≤ best p.rates) (h2 : 0 < best p.rates) : pbstart p g = { p with full := best p.rates, still := 0 } := by
  unfold pbstart
  rw [if_neg (by simp [hr, hl]), if_pos ⟨h1, h2⟩]
theorem pbstart_still {p : Pb} {g : Gt} (hr : g.round = true) (hl : g.limited = false) (h1 : best p.rates < fadd p.full (p.full / 4)) (h3 : fadd p.still 1 ≠ 3) : pbstart p g = { p with still := fadd p.still 1 } := by
  unfold pbstart
  rw [if_neg (by simp [hr, hl]), if_neg (by omega), if_neg h3]
theorem pbstart_drain {p : Pb} {g : Gt} (hr : g.round = true) (hl : g.limited = false) (h1 : best p.rates < fadd p.full (p.full / 4)) (h3 : fadd p.still 1 = 3) : pbstart p g = { p with still := 3, state := 1 } := by
  unfold pbstart
  rw [if_neg (by simp [hr, hl]), if_neg (by omega), if_pos h3]
theorem pdrain_first {rate took : Nat} (hr : 1000 ≤ rate) (ht : took < 65536) : pback (pbnew 0) (gdr 0 took rate 1099511627776 true) = pbdr rate took 1 := by
  have e1 : pbround (pbnew 0) (gdr 0 took rate 1099511627776 true) = ⟨0, [], 18446744073709551615, 0, 0, 0, 1, 0, 0, 16777216⟩ := by
    rw [pbround_yes rfl]
    show Pb.mk _ _ _ _ _ _ _ _ _ (nheld (fadd 16777216 (16777216 / 8))) = _
    rw [held_top]
    rfl
  have e2 : pbpush ⟨0, [], 18446744073709551615, 0, 0, 0, 1, 0, 0, 16777216⟩ (gdr 0 took rate 1099511627776 true) = ⟨0, [(1, rate)], 18446744073709551615, 0, 0, 0, 1, 0, 0, 16777216⟩ := pbpush_yes rfl
  have e3 : pblow ⟨0, [(1, rate)], 18446744073709551615, 0, 0, 0, 1, 0, 0, 16777216⟩ (gdr 0 took rate 1099511627776 true) = ⟨0, [(1, rate)], took, 0, 0, 0, 1, 0, 0, 16777216⟩ := pblow_yes (show took < 18446744073709551615 by omega)
  unfold pback
  rw [e1, e2, e3, pbmove_start rfl]
  refine (pbstart_grown rfl rfl ?_ ?_).trans rfl
  · show fadd 0 (0 / 4) ≤ rate
    unfold fadd
    simp
  · show 0 < rate
    omega
theorem pdrain_next {rate took k : Nat} (hr : 1000 ≤ rate) (hr2 : rate < 4294967296) (h0 : 1 ≤ k) (h1 : k ≤ 3) : pback (pbdr rate took k) (gdr k took rate 1099511627776 true) = pbdr rate took (k + 1) := by
  have ek : fadd k 1 = k + 1 := by unfold fadd; rw [if_pos (by omega)]
  have es : fadd (k - 1) 1 = k := by unfold fadd; rw [if_pos (by omega)]; omega
  have e1 : pbround (pbdr rate took k) (gdr k took rate 1099511627776 true) = ⟨0, [(k, rate)], took, 0, rate, k - 1, k + 1, 0, 0, 16777216⟩ := by
    rw [pbround_yes rfl]
    show Pb.mk (if k = 4 then 1 else 0) _ _ _ _ _ (fadd k 1) _ _ (nheld (fadd 16777216 (16777216 / 8))) = _
    rw [held_top, ek, if_neg (by omega)]
    rfl
  have e2 : pbpush ⟨0, [(k, rate)], took, 0, rate, k - 1, k + 1, 0, 0, 16777216⟩ (gdr k took rate 1099511627776 true) = ⟨0, [(k + 1, rate)], took, 0, rate, k - 1, k + 1, 0, 0, 16777216⟩ := by
    rw [pbpush_yes rfl]
    show Pb.mk _ (pushed true 10 (k + 1, rate) [(k, rate)]) _ _ _ _ _ _ _ _ = _
    rw [pushed_same]
  have e3 : pblow ⟨0, [(k + 1, rate)], took, 0, rate, k - 1, k + 1, 0, 0, 16777216⟩ (gdr k took rate 1099511627776 true) = ⟨0, [(k + 1, rate)], took, 0, rate, k - 1, k + 1, 0, 0, 16777216⟩ :=
    pblow_no (pbstale_no (Nat.zero_le _) (show k < 10000 by omega)) (Nat.le_refl _)
  have hb : rate < fadd rate (rate / 4) := by unfold fadd; rw [if_pos (by omega)]; omega
  unfold pback
  rw [e1, e2, e3, pbmove_start rfl]
  by_cases h3 : k = 3
  · subst h3
    refine (pbstart_drain rfl rfl ?_ ?_).trans rfl
    · exact hb
    · rfl
  · refine (pbstart_still rfl rfl ?_ ?_).trans ?_
    · exact hb
    · show fadd (k - 1) 1 ≠ 3
      rw [es]
      exact h3
    show Pb.mk 0 _ _ _ _ (fadd (k - 1) 1) _ _ _ _ = Pb.mk (if k + 1 = 4 then 1 else 0) _ _ _ _ (k + 1 - 1) _ _ _ _
    rw [es, if_neg (by omega), Nat.add_sub_cancel]
theorem pdrain_prod {rate took k : Nat} (hr2 : rate < 4294967296) (ht : took < 65536) : pbprod (pbdr rate took k) 256 = rate * took / 1000 := by
  have hm : rate * took ≤ 4294967295 * 65535 := Nat.mul_le_mul (by omega) (by omega)
  have hlow : (pbdr rate took k).low = took := rfl
  unfold pbprod
  rw [if_neg (by rw [hlow]; omega)]
  show fgain (fmuldiv rate took 1000) 256 = _
  have e : fmuldiv rate took 1000 = rate * took / 1000 := by
    unfold fmuldiv
    generalize rate * took = x at *
    split
    · omega
    · rw [if_neg (by omega)]
  rw [e]
  unfold fgain fmuldiv
  generalize rate * took = x at *
  split
  · omega
  · rw [if_neg (by omega)]
    omega
/-- One answer more, within a round, of a model that is drained. -/
theorem pdrain_last {rate took flight : Nat} (hr2 : rate < 4294967296) (ht : took < 65536) :
    (pback (pbdr rate took 4) (gdr 5 took rate flight false)).state = if flight ≤ rate * took / 1000 then 2 else 1 := by
  have e2 : pbpush (pbdr rate took 4) (gdr 5 took rate flight false) = pbdr rate took 4 := by
    rw [pbpush_yes rfl]
    show Pb.mk _ (pushed true 10 (4, rate) [(4, rate)]) _ _ _ _ _ _ _ _ = _
    rw [pushed_same]
    rfl
  have e3 : pblow (pbdr rate took 4) (gdr 5 took rate flight false) = pbdr rate took 4 := pblow_no (pbstale_no (Nat.zero_le _) (show 5 < 10000 by omega)) (Nat.le_refl _)
  unfold pback
  rw [pbround_no rfl, e2, e3, pbmove_drain rfl, pdrain_prod hr2 ht]
  show (if flight ≤ _ then _ else _ : Pb).state = _
  split <;> rfl
end Wig
