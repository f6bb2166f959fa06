package control

import (
	"math"
	"math/big"
	"reflect"
	"slices"
	"testing"

	"wigwag/api"
	"wigwag/cubic"
	"wigwag/hystart"
	"wigwag/prague"
	"wigwag/probe"
	"wigwag/reno"
)

const (
	top   = 1<<64 - 1
	floor = 2400
	most  = 1 << 24
)

// kinds are the four of them.
func kinds() []int { return []int{1, 2, 3, 4} }

// windowed are those kinds whose window is a Cwnd of its own.
func windowed() []int { return []int{1, 2, 4} }

// slow are those kinds that Slow tells of the end of a start.
func slow() []int { return []int{1, 2} }

// none are numbers that are no kind.
func none() []int { return []int{0, 5, -1, 6, -4, 256, 257, math.MaxInt, math.MinInt} }

// edges are numbers at which windows are held, times come, quotients turn, and sums and products wrap.
func edges() []uint64 {
	out := []uint64{0, 1, 2, 3, 7, 8, 9, 10, 100}
	for _, n := range []uint64{1200, 1250, floor, 4800, 12000, most, 1 << 32, top / 1250, 1 << 63} {
		out = append(out, n-1, n, n+1)
	}
	return append(out, top-1, top)
}

// fewEdges are some of them, for what asks for many numbers at once.
func fewEdges() []uint64 {
	return []uint64{0, 1, 8, 100, floor - 1, floor, 4800, 12000, most - 1, most, most + 1, 1 << 45, 1 << 63, top - 1, top}
}

// phases are the three of them, and some that are none.
func phases() []int { return []int{0, 1, 2, 3, -1, math.MaxInt, math.MinInt} }

// lists are Rates, some of which no calls would make.
func lists() [][]api.Sample {
	return [][]api.Sample{
		nil, {}, {{At: 0, Value: 0}}, {{At: 5, Value: 999}, {At: 6, Value: 500}}, {{At: 3, Value: 100000}, {At: 9, Value: 4000}, {At: 11, Value: 7}},
		{{At: 100, Value: 5000}, {At: 1, Value: 800000}}, {{At: 0, Value: top}, {At: top, Value: top}},
	}
}

// controls are hand-made ones of each kind, and of none: their numbers need not be those of any calls. No two windows of one are alike.
func controls() []api.Control {
	var out []api.Control
	few := fewEdges()
	at := func(n int) uint64 { return few[n%len(few)] }
	beside := func(cwnd uint64, n int) uint64 { return []uint64{cwnd - 1, cwnd, cwnd + 1, 0, top}[n%5] }
	for k, kind := range append(kinds(), none()...) {
		for i := range few {
			for j := range 5 {
				for p, phase := range phases() {
					n := k + 3*i + 7*j + 5*p
					out = append(out, api.Control{
						Kind:   kind,
						Reno:   api.Reno{Cwnd: at(i), Thresh: beside(at(i), j), Since: at(n), Rest: at(n + 4)},
						Slow:   api.Slow{Phase: phase, End: at(n + 1), LastMin: at(i + p), NowMin: at(j + p), Count: uint64(6 + n%3), Base: at(i + j), Rounds: uint64(3 + (i+j)%3)},
						Cubic:  api.Cubic{Cwnd: at(i + 3), Thresh: beside(at(i+3), j+1), Since: at(n + 2), Has: n%2 == 0, Epoch: at(j + 2*p), Most: at(2*i + j), K: at(i + p + 1), Est: at(i + 2*j)},
						Probe:  api.Probe{State: n % 5, Rates: lists()[n%7], Min: at(n + 3), MinAt: at(i + 3*p), Full: at(2*j + p), Still: uint64(n % 4), Rounds: at(n + 6), Phase: at(p + j), Since: at(n + 7), High: at(i + 5)},
						Prague: api.Prague{Base: api.Reno{Cwnd: at(i + 7), Thresh: beside(at(i+7), j+2), Since: at(n + 8), Rest: at(n + 9)}, Alpha: at(i + 2*p), Acked: at(n + 2), Marked: at(j + p + 1), End: at(n + 5), Cut: n%3 == 0},
						// Old ones below and above what there is.
						OldCwnd: at(2*i + n), OldThresh: at(i + 2*n + 1),
					})
				}
			}
		}
	}
	return out
}

// sequence is numbers without a plain order, the same ones in each run.
type sequence uint64

func (q *sequence) below(n uint64) uint64 {
	*q = *q*6364136223846793005 + 1442695040888963407
	return uint64(*q) >> 16 % n
}

func (q *sequence) of(list ...uint64) uint64 { return list[q.below(uint64(len(list)))] }

// got is what a sender may learn of a controller that stands at the edges of what it asks.
func (q *sequence) got(c api.Control) api.Got {
	every := fewEdges()
	since := sinceOf(c)
	return api.Got{
		Now: q.of(append(every, c.Probe.Since, c.Cubic.Epoch+1)...), Bytes: q.of(append(every, 1200)...), At: q.of(since-1, since, since+1, 0, top),
		Number: q.of(c.Slow.End-1, c.Slow.End, c.Slow.End+1, c.Prague.End, top), Next: q.of(every...), Took: q.of(append(every, c.Slow.Base-1, c.Slow.LastMin+5)...),
		Flight: q.of(every...), Rate: q.of(every...), Limited: q.below(4) == 0, Round: q.below(2) == 0,
	}
}

// sinceOf is the Since of a controller's own window.
func sinceOf(c api.Control) uint64 {
	switch c.Kind {
	case 1:
		return c.Reno.Since
	case 2:
		return c.Cubic.Since
	}
	return c.Prague.Base.Since
}

// threshOf is the Thresh of a controller's own window.
func threshOf(c api.Control) uint64 {
	switch c.Kind {
	case 1:
		return c.Reno.Thresh
	case 2:
		return c.Cubic.Thresh
	}
	return c.Prague.Base.Thresh
}

// held is P10.1's Held, word by word.
func held(n uint64) uint64 {
	if n < 2400 {
		return 2400
	}
	if n > 16777216 {
		return 16777216
	}
	return n
}

// greater is the greater one of two numbers.
func greater(a, b uint64) uint64 {
	if a > b {
		return a
	}
	return b
}

// fresh is P15.1, word by word.
func fresh(kind int, now, next uint64) (api.Control, api.Errno) {
	var c api.Control
	if kind < 1 || kind > 4 {
		return c, 1
	}
	c.Kind = kind
	c.Slow = api.Slow{End: next, LastMin: top, NowMin: top, Base: top}
	switch kind {
	case 1:
		c.Reno = api.Reno{Cwnd: 12000, Thresh: 16777216}
	case 2:
		c.Cubic = api.Cubic{Cwnd: 12000, Thresh: 16777216}
	case 3:
		c.Probe = api.Probe{Min: top, MinAt: now, Since: now, High: 16777216}
	case 4:
		c.Prague = api.Prague{Base: api.Reno{Cwnd: 12000, Thresh: 16777216}, Alpha: 1048576, End: next}
	}
	return c, 0
}

// acked is P15.2, word by word.
func acked(c api.Control, g api.Got) api.Control {
	bytes := g.Bytes
	switch c.Kind {
	case 1:
		if c.Reno.Cwnd < c.Reno.Thresh {
			c.Slow = hystart.Sample(c.Slow, g.Number, g.Next, g.Took)
			bytes = hystart.Grow(c.Slow, g.Bytes)
			if c.Slow.Phase == 2 {
				c.Reno.Thresh = c.Reno.Cwnd
				bytes = g.Bytes
			}
		}
		c.Reno = reno.Ack(c.Reno, bytes, g.At, g.Limited)
	case 2:
		if c.Cubic.Cwnd < c.Cubic.Thresh {
			c.Slow = hystart.Sample(c.Slow, g.Number, g.Next, g.Took)
			bytes = hystart.Grow(c.Slow, g.Bytes)
			if c.Slow.Phase == 2 {
				c.Cubic.Thresh = c.Cubic.Cwnd
				bytes = g.Bytes
			}
		}
		c.Cubic = cubic.Ack(c.Cubic, bytes, g.At, g.Now, g.Took, g.Limited)
	case 3:
		c.Probe = probe.Ack(c.Probe, g)
	case 4:
		c.Prague = prague.Ack(c.Prague, g)
	}
	return c
}

// lost is P15.3's Loss, word by word.
func lost(c api.Control, at, now, flight uint64) api.Control {
	switch c.Kind {
	case 1:
		if at >= c.Reno.Since {
			c.OldCwnd, c.OldThresh = c.Reno.Cwnd, c.Reno.Thresh
			c.Slow.Phase = 2
		}
		c.Reno = reno.Loss(c.Reno, at, now)
	case 2:
		if at >= c.Cubic.Since {
			c.OldCwnd, c.OldThresh = c.Cubic.Cwnd, c.Cubic.Thresh
			c.Slow.Phase = 2
		}
		c.Cubic = cubic.Loss(c.Cubic, at, now)
	case 3:
		c.Probe = probe.Loss(c.Probe, flight)
	case 4:
		if at >= c.Prague.Base.Since {
			c.OldCwnd, c.OldThresh = c.Prague.Base.Cwnd, c.Prague.Base.Thresh
		}
		c.Prague = prague.Loss(c.Prague, at, now)
	}
	return c
}

// marked is P15.3's Mark, word by word.
func marked(c api.Control, bytes, at, now, flight uint64) api.Control {
	if c.Kind == 4 {
		c.Prague = prague.Mark(c.Prague, bytes, at)
		return c
	}
	return lost(c, at, now, flight)
}

// collapsed is P15.4's Collapse, word by word.
func collapsed(c api.Control) api.Control {
	switch c.Kind {
	case 1:
		c.Reno = reno.Collapse(c.Reno)
	case 2:
		c.Cubic = cubic.Collapse(c.Cubic)
	case 3:
		c.Probe = probe.Loss(c.Probe, 0)
	case 4:
		c.Prague = prague.Collapse(c.Prague)
	}
	if c.Kind >= 1 && c.Kind <= 4 {
		c.OldCwnd, c.OldThresh = 0, 0
	}
	return c
}

// undone is P15.4's Undo, word by word.
func undone(c api.Control) api.Control {
	switch c.Kind {
	case 1:
		c.Reno.Cwnd = held(greater(c.Reno.Cwnd, c.OldCwnd))
		c.Reno.Thresh = held(greater(c.Reno.Thresh, c.OldThresh))
		c.Reno.Since, c.OldCwnd, c.OldThresh = 0, 0, 0
	case 2:
		c.Cubic.Cwnd = held(greater(c.Cubic.Cwnd, c.OldCwnd))
		c.Cubic.Thresh = held(greater(c.Cubic.Thresh, c.OldThresh))
		c.Cubic.Since, c.OldCwnd, c.OldThresh = 0, 0, 0
	case 3:
		c.Probe.High = 16777216
	case 4:
		c.Prague.Base.Cwnd = held(greater(c.Prague.Base.Cwnd, c.OldCwnd))
		c.Prague.Base.Thresh = held(greater(c.Prague.Base.Thresh, c.OldThresh))
		c.Prague.Base.Since, c.OldCwnd, c.OldThresh = 0, 0, 0
	}
	return c
}

// wide is P15.5's Window, word by word.
func wide(c api.Control) uint64 {
	switch c.Kind {
	case 1:
		return c.Reno.Cwnd
	case 2:
		return c.Cubic.Cwnd
	case 3:
		return probe.Window(c.Probe)
	case 4:
		return c.Prague.Base.Cwnd
	}
	return 2400
}

// fast is P15.5's Rate, word by word, in numbers of any size.
func fast(c api.Control, smooth uint64) uint64 {
	if c.Kind == 3 {
		return probe.Rate(c.Probe)
	}
	if c.Kind < 1 || c.Kind > 4 {
		return 0
	}
	large := func(n uint64) *big.Int { return new(big.Int).SetUint64(n) }
	n := new(big.Int).Mul(large(wide(c)), large(1250))
	if n.Div(n, large(greater(smooth, 1))); !n.IsUint64() {
		return top
	}
	return n.Uint64()
}

// same tells whether two controllers are one, where a list without elements may be nil or not.
func same(a, b api.Control) bool {
	if !slices.Equal(a.Probe.Rates, b.Probe.Rates) {
		return false
	}
	a.Probe.Rates, b.Probe.Rates = nil, nil
	return reflect.DeepEqual(a, b)
}

func checkAck(t *testing.T, c api.Control, g api.Got, want api.Control) {
	t.Helper()
	if got := Ack(c, g); !same(got, want) {
		t.Errorf("Ack(%+v, %+v) = %+v, want %+v", c, g, got, want)
	}
}

func checkLoss(t *testing.T, c api.Control, at, now, flight uint64, want api.Control) {
	t.Helper()
	if got := Loss(c, at, now, flight); !same(got, want) {
		t.Errorf("Loss(%+v, %d, %d, %d) = %+v, want %+v", c, at, now, flight, got, want)
	}
}

func checkMark(t *testing.T, c api.Control, bytes, at, now, flight uint64, want api.Control) {
	t.Helper()
	if got := Mark(c, bytes, at, now, flight); !same(got, want) {
		t.Errorf("Mark(%+v, %d, %d, %d, %d) = %+v, want %+v", c, bytes, at, now, flight, got, want)
	}
}

func checkCollapse(t *testing.T, c api.Control, flight uint64, want api.Control) {
	t.Helper()
	if got := Collapse(c, flight); !same(got, want) {
		t.Errorf("Collapse(%+v, %d) = %+v, want %+v", c, flight, got, want)
	}
}

func checkUndo(t *testing.T, c, want api.Control) {
	t.Helper()
	if got := Undo(c); !same(got, want) {
		t.Errorf("Undo(%+v) = %+v, want %+v", c, got, want)
	}
}

func checkWindow(t *testing.T, c api.Control, want uint64) {
	t.Helper()
	if got := Window(c); got != want {
		t.Errorf("Window(%+v) = %d, want %d", c, got, want)
	}
}

func checkRate(t *testing.T, c api.Control, smooth, want uint64) {
	t.Helper()
	if got := Rate(c, smooth); got != want {
		t.Errorf("Rate(%+v, %d) = %d, want %d", c, smooth, got, want)
	}
}

// begun is a controller at its beginning, of a kind that there is.
func begun(t *testing.T, kind int, now, next uint64) api.Control {
	t.Helper()
	c, e := New(kind, now, next)
	if e != api.OK {
		t.Fatalf("New(%d, %d, %d): %d", kind, now, next, int(e))
	}
	return c
}

// full is a controller of a kind in the midst of all, whose own window is of that Cwnd and Thresh, and counts from 10 on; the others' numbers are all above 0.
func full(kind int, cwnd, thresh uint64) api.Control {
	c := api.Control{
		Kind:    kind,
		Reno:    api.Reno{Cwnd: 31000, Thresh: 41000, Since: 51, Rest: 61},
		Slow:    api.Slow{Phase: 0, End: 1000, LastMin: 80, NowMin: 90, Count: 2, Base: top, Rounds: 3},
		Cubic:   api.Cubic{Cwnd: 32000, Thresh: 42000, Since: 52, Has: true, Epoch: 62, Most: 33000, K: 72, Est: 31500},
		Probe:   api.Probe{State: 2, Rates: []api.Sample{{At: 5, Value: 300000}, {At: 6, Value: 200000}}, Min: 100, MinAt: 1000, Full: 250000, Still: 1, Rounds: 6, Phase: 3, Since: 1100, High: 50000},
		Prague:  api.Prague{Base: api.Reno{Cwnd: 34000, Thresh: 44000, Since: 54, Rest: 64}, Alpha: 1 << 19, Acked: 74, Marked: 84, End: 94},
		OldCwnd: 7777, OldThresh: 8888,
	}
	switch kind {
	case 1:
		c.Reno = api.Reno{Cwnd: cwnd, Thresh: thresh, Since: 10, Rest: 7}
	case 2:
		c.Cubic.Cwnd, c.Cubic.Thresh, c.Cubic.Since, c.Cubic.Has, c.Cubic.Most = cwnd, thresh, 10, false, 0
	case 4:
		c.Prague.Base = api.Reno{Cwnd: cwnd, Thresh: thresh, Since: 10, Rest: 7}
	}
	return c
}

// P15.1, P15.3 to P15.5: the chapter's examples.
func TestExamples(t *testing.T) {
	c := begun(t, 1, 0, 5)
	checkWindow(t, c, 12000)
	checkRate(t, c, 100, 150000)
	l := Loss(c, 0, 9, 0)
	checkWindow(t, l, 6000)
	checkWindow(t, Undo(l), 12000)
	if _, e := New(5, 0, 0); e != api.ErrArg {
		t.Errorf("New(5, 0, 0): %d", int(e))
	}
}

// The chapter's Types and Errors: the kinds, and the error, are these numbers.
func TestNumbers(t *testing.T) {
	if got := []int{api.CReno, api.CCubic, api.CProbe, api.CPrague, int(api.ErrArg), int(api.OK)}; !slices.Equal(got, []int{1, 2, 3, 4, 1, 0}) {
		t.Errorf("the kinds and errors are %v", got)
	}
}

// P15.1: a controller at its beginning has its own kind's window, of its now or its next, a start that ends its first round at next, and nothing else.
func TestNew(t *testing.T) {
	times := []uint64{0, 1, 5, 777, 1 << 32, 1 << 63, top - 1, top}
	for range 2 {
		for _, kind := range kinds() {
			for _, now := range times {
				for _, next := range times {
					got, e := New(kind, now, next)
					want, _ := fresh(kind, now, next)
					if e != 0 || !same(got, want) {
						t.Errorf("New(%d, %d, %d) = %+v, %d, want %+v", kind, now, next, got, int(e), want)
					}
					checkWindow(t, got, 12000)
					Undo(Loss(Ack(got, api.Got{Now: now, Bytes: 5, Number: next, Took: 7, Rate: 9000, Round: true}), now, now, 5))
				}
			}
		}
	}
}

// P15.1: of any other kind the answer is ErrArg, beside which all is 0.
func TestNewRefuses(t *testing.T) {
	for _, kind := range none() {
		for _, n := range []uint64{0, 1, 5, top} {
			if c, e := New(kind, n, n); e != 1 || !reflect.DeepEqual(c, api.Control{}) {
				t.Errorf("New(%d, %d, %d) = %+v, %d", kind, n, n, c, int(e))
			}
		}
	}
}

// P15.2: below Thresh a start is told the packet's number, the next one, and what its answer took, and all bytes let the window grow.
func TestAckStarts(t *testing.T) {
	g := api.Got{Now: 5000, Bytes: 1200, At: 10, Number: 999, Next: 1600, Took: 70}
	for _, thresh := range []uint64{12001, 20000, most, top} {
		c := full(1, 12000, thresh)
		want := c
		want.Reno.Cwnd = 13200
		want.Slow.NowMin, want.Slow.Count = 70, 3
		checkAck(t, c, g, want)
		c = full(2, 12000, thresh)
		want = c
		want.Cubic.Cwnd = 13200
		want.Slow.NowMin, want.Slow.Count = 70, 3
		checkAck(t, c, g, want)
	}
	// The packet of End ends a round, and Next is where the next one ends.
	g.Number = 1000
	for _, kind := range slow() {
		got := Ack(full(kind, 12000, 20000), g)
		if want := (api.Slow{End: 1600, LastMin: 90, NowMin: 70, Count: 1, Base: top, Rounds: 3}); got.Slow != want {
			t.Errorf("of kind %d a round's end makes %+v, want %+v", kind, got.Slow, want)
		}
	}
}

// P15.2: at Thresh and above it a start is not asked, whatever its phase is, nor told anything: all bytes let the window grow by its own rule.
func TestAckBehindStart(t *testing.T) {
	g := api.Got{Now: 5000, Bytes: 1200, At: 10, Number: 1000, Next: 1600, Took: 2100}
	for _, phase := range phases() {
		for _, thresh := range []uint64{0, 1, floor, 11999, 12000} {
			c := full(1, 12000, thresh)
			c.Slow.Phase, c.Slow.Rounds = phase, 4
			want := c
			// 7 and 1440000 parts, through 12000.
			want.Reno.Cwnd, want.Reno.Rest = 12120, 7
			checkAck(t, c, g, want)
			c = full(2, 12000, thresh)
			c.Slow.Phase, c.Slow.Rounds = phase, 4
			want = c
			// The cube of 2100 ms is 4445 bytes, a tenth of which 1200 of 12000 let grow; 635 of a window of 12000 are 63.
			want.Cubic = api.Cubic{Cwnd: 12444, Thresh: thresh, Since: 10, Has: true, Epoch: 5000, Most: 12000, Est: 12063}
			checkAck(t, c, g, want)
		}
	}
}

// P15.2: a careful start lets a fourth of the bytes grow, downwards; one of a phase that is none lets nothing.
func TestAckCareful(t *testing.T) {
	for _, kind := range slow() {
		for _, x := range [][2]uint64{{0, 12000}, {3, 12000}, {4, 12001}, {7, 12001}, {1200, 12300}, {1203, 12300}, {1204, 12301}, {top, most}} {
			c := full(kind, 12000, 20000)
			c.Slow.Phase, c.Slow.Base = 1, 60
			got := Ack(c, api.Got{Bytes: x[0], At: 10, Number: 5, Took: 70})
			if Window(got) != x[1] || threshOf(got) != 20000 || got.Slow.Phase != 1 || got.Slow.Count != 3 {
				t.Errorf("of %d bytes a careful start makes %+v", x[0], got)
			}
			for _, phase := range []int{3, -1, math.MaxInt, math.MinInt} {
				c.Slow.Phase = phase
				got = Ack(c, api.Got{Bytes: x[0], At: 10, Number: 5, Took: 70})
				if Window(got) != 12000 || threshOf(got) != 20000 || got.Slow.Phase != phase || got.Slow.Count != 3 {
					t.Errorf("of %d bytes a start of phase %d makes %+v", x[0], phase, got)
				}
			}
		}
	}
}

// P15.2: the bytes are those of the phase that this very call makes of a start's: careful of one that started, and that started again of one that was careful.
func TestAckSeesPhase(t *testing.T) {
	for _, kind := range slow() {
		c := full(kind, 12000, 20000)
		c.Slow = api.Slow{Phase: 0, End: 1000, LastMin: 80, NowMin: 90, Count: 7, Base: top}
		got := Ack(c, api.Got{Bytes: 1200, At: 10, Number: 5, Took: 95})
		if want := (api.Slow{Phase: 1, End: 1000, LastMin: 80, NowMin: 90, Count: 8, Base: 90}); got.Slow != want || Window(got) != 12300 || threshOf(got) != 20000 {
			t.Errorf("a start that becomes careful: %+v", got)
		}
		c.Slow = got.Slow
		got = Ack(c, api.Got{Bytes: 1200, At: 10, Number: 5, Took: 89})
		if want := (api.Slow{Phase: 0, End: 1000, LastMin: 80, NowMin: 89, Count: 9, Base: top}); got.Slow != want || Window(got) != 13200 || threshOf(got) != 20000 {
			t.Errorf("a start that is careful no more: %+v", got)
		}
	}
}

// P15.2: of a start that is finished by this very call, or was finished, Thresh is Cwnd, and all bytes let the window grow by its own rule.
func TestAckFinished(t *testing.T) {
	g := api.Got{Now: 5000, Bytes: 1200, At: 10, Number: 1000, Next: 1600, Took: 2100}
	for _, by := range []bool{false, true} {
		for _, thresh := range []uint64{12001, 20000, most, top} {
			before, behind := api.Slow{Phase: 2, End: 1000, LastMin: 80, NowMin: 90, Count: 2, Base: 70, Rounds: 4}, api.Slow{}
			behind = before
			if by {
				before.Phase = 1
				behind = api.Slow{Phase: 2, End: 1600, LastMin: 90, NowMin: top, Count: 0, Base: 70, Rounds: 5}
			}
			c := full(1, 12000, thresh)
			c.Slow = before
			want := c
			want.Slow = behind
			want.Reno = api.Reno{Cwnd: 12120, Thresh: 12000, Since: 10, Rest: 7}
			checkAck(t, c, g, want)
			c = full(2, 12000, thresh)
			c.Slow = before
			want = c
			want.Slow = behind
			want.Cubic = api.Cubic{Cwnd: 12444, Thresh: 12000, Since: 10, Has: true, Epoch: 5000, Most: 12000, Est: 12063}
			checkAck(t, c, g, want)
		}
	}
}

// P15.2: whoever had no more to send, or sent it ahead of the last loss, lets no window grow; a start is told of it all the same, and where it is finished Thresh is Cwnd.
func TestAckThatLetsNothingGrow(t *testing.T) {
	for _, kind := range slow() {
		for _, g := range []api.Got{{Bytes: 1200, At: 10, Number: 1000, Next: 1600, Took: 70, Limited: true}, {Bytes: 1200, At: 9, Number: 1000, Next: 1600, Took: 70}, {Bytes: 1200, At: 0, Number: 1000, Next: 1600, Took: 70, Limited: true}} {
			c := full(kind, 12000, 20000)
			want := c
			want.Slow = api.Slow{End: 1600, LastMin: 90, NowMin: 70, Count: 1, Base: top, Rounds: 3}
			checkAck(t, c, g, want)
			c = full(kind, 12000, 12000)
			checkAck(t, c, g, c)
			c = full(kind, 12000, 20000)
			c.Slow.Phase = 2
			want = c
			want.Reno.Thresh, want.Cubic.Thresh = c.Reno.Thresh, c.Cubic.Thresh
			if kind == 1 {
				want.Reno.Thresh = 12000
			} else {
				want.Cubic.Thresh = 12000
			}
			checkAck(t, c, g, want)
		}
		// What is sent at Since, or behind it, counts.
		for _, at := range []uint64{10, 11, top} {
			checkWindow(t, Ack(full(kind, 12000, 20000), api.Got{Bytes: 1200, At: at, Number: 5, Took: 70}), 13200)
		}
	}
}

// P15.2: the cube's time is told by Now and by Took, each of them.
func TestAckCubicTimes(t *testing.T) {
	c := full(2, 12000, 12000)
	c.Cubic.Has, c.Cubic.Epoch, c.Cubic.Most, c.Cubic.K, c.Cubic.Est = true, 100, 12000, 0, 12000
	for _, x := range [][3]uint64{{100, 0, 12635}, {2200, 0, 16445}, {100, 2100, 16445}, {1200, 1000, 16445}, {2200, 2100, 18000}, {99, 2100, 16445}, {top, top, 18000}} {
		got := Ack(c, api.Got{Now: x[0], Bytes: 12000, At: 10, Took: x[1]})
		want := c
		want.Cubic.Cwnd, want.Cubic.Est = x[2], 12635
		if !same(got, want) {
			t.Errorf("at %d, and %d: %+v, want %+v", x[0], x[1], got, want)
		}
	}
}

// P15.2: of CProbe and CPrague a start stays, whatever Thresh and its phase are, and so does all that is not of the own window.
func TestAckOthers(t *testing.T) {
	for _, phase := range phases() {
		for _, thresh := range []uint64{0, 11999, 12000, 12001, most} {
			for _, g := range []api.Got{
				{Now: 1150, Bytes: 1200, At: 10, Number: 1000, Next: 1600, Took: 70, Flight: 9, Rate: 400000, Round: true},
				{Now: 1150, Bytes: 1200, At: 9, Number: 5, Next: 1600, Took: 170, Flight: 9, Rate: 100000, Limited: true},
			} {
				c := full(3, 0, 0)
				c.Reno.Thresh, c.Slow.Phase, c.Slow.Rounds = thresh, phase, 4
				want := c
				want.Probe = probe.Ack(c.Probe, g)
				checkAck(t, c, g, want)
				c = full(4, 12000, thresh)
				c.Slow.Phase, c.Slow.Rounds = phase, 4
				want = c
				want.Prague = prague.Ack(c.Prague, g)
				checkAck(t, c, g, want)
			}
		}
	}
	// A start that would be careful, or is finished, lets all bytes of CPrague grow.
	for _, phase := range phases() {
		c := full(4, 12000, 12001)
		c.Slow.Phase = phase
		got := Ack(c, api.Got{Bytes: 1200, At: 10, Number: 5, Next: 9, Took: 70})
		if Window(got) != 13200 || got.Prague.Base.Thresh != 12001 || got.Prague.Acked != 1274 || got.Slow != c.Slow {
			t.Errorf("of a start of phase %d: %+v", phase, got)
		}
	}
}

// P15.2: whatever the controller is, what is answered is what the chapter's words say.
func TestAckAgainstTheWords(t *testing.T) {
	q := sequence(15)
	finished := 0
	for _, c := range controls() {
		for range 12 {
			g := q.got(c)
			want := acked(c, g)
			checkAck(t, c, g, want)
			if want.Slow.Phase == 2 && c.Slow.Phase != 2 {
				finished++
			}
		}
	}
	if finished < 50 {
		t.Errorf("%d starts were finished by an Ack", finished)
	}
}

// P15.3: a loss of what was sent at Since or behind it keeps what was ahead of it, finishes a start, and lets the window fall; flight does not matter.
func TestLossCounts(t *testing.T) {
	for _, phase := range phases() {
		for _, at := range []uint64{10, 11, 5000, top} {
			for _, flight := range []uint64{0, 9000, top} {
				c := full(1, 12000, 20000)
				c.Slow.Phase = phase
				want := c
				want.OldCwnd, want.OldThresh, want.Slow.Phase = 12000, 20000, 2
				want.Reno = api.Reno{Cwnd: 6000, Thresh: 6000, Since: 78}
				checkLoss(t, c, at, 77, flight, want)
				c = full(2, 12000, 20000)
				c.Slow.Phase = phase
				want = c
				want.OldCwnd, want.OldThresh, want.Slow.Phase = 12000, 20000, 2
				want.Cubic = api.Cubic{Cwnd: 8400, Thresh: 8400, Since: 78, Most: 12000}
				checkLoss(t, c, at, 77, flight, want)
				c = full(4, 12000, 20000)
				c.Slow.Phase = phase
				want = c
				want.OldCwnd, want.OldThresh = 12000, 20000
				want.Prague.Base = api.Reno{Cwnd: 6000, Thresh: 6000, Since: 78}
				checkLoss(t, c, at, 77, flight, want)
			}
		}
	}
}

// P15.3: a loss of what was sent below Since changes nothing, not what was kept either.
func TestLossElder(t *testing.T) {
	for _, kind := range windowed() {
		for _, phase := range phases() {
			c := full(kind, 12000, 20000)
			c.Slow.Phase = phase
			for _, at := range []uint64{0, 5, 9} {
				for _, now := range []uint64{0, 77, top} {
					checkLoss(t, c, at, now, 9000, c)
				}
			}
		}
	}
}

// P15.3: a Since of 0 no time is below, and one of the greatest number all others are; behind a loss at the greatest number Since is that.
func TestLossSinceAtEdges(t *testing.T) {
	for _, kind := range windowed() {
		c := begun(t, kind, 0, 5)
		for _, at := range []uint64{0, 1, top} {
			if got := Loss(c, at, top, 0); sinceOf(got) != top || got.OldCwnd != 12000 || got.OldThresh != most {
				t.Errorf("a loss of %d at the greatest number: %+v", at, got)
			}
			if got := Loss(c, at, top-1, 0); sinceOf(got) != top {
				t.Errorf("a loss of %d just ahead of the greatest number: %+v", at, got)
			}
			if got := Loss(c, at, 0, 0); sinceOf(got) != 1 {
				t.Errorf("a loss of %d at 0: %+v", at, got)
			}
		}
		once := Loss(c, 5, top, 0)
		checkLoss(t, once, top-1, top, 0, once)
		if got := Loss(once, top, top, 0); got.OldCwnd != Window(once) || got.OldThresh != threshOf(once) || Window(got) >= Window(once) {
			t.Errorf("a loss of the greatest number: %+v", got)
		}
	}
}

// P15.3: a second loss keeps what was ahead of itself, where it counts, and nothing where it does not.
func TestLossTwice(t *testing.T) {
	for kind, want := range map[int][3]uint64{1: {6000, 3000, 7200}, 2: {8400, 5880, 9035}, 4: {6000, 3000, 7200}} {
		c := Loss(begun(t, kind, 0, 5), 3, 9, 0)
		checkLoss(t, c, 9, 12, 0, c)
		twice := Loss(c, 10, 12, 0)
		if Window(twice) != want[1] || twice.OldCwnd != want[0] || twice.OldThresh != want[0] {
			t.Errorf("a second loss of kind %d: %+v", kind, twice)
		}
		// What the window has grown by since is kept too.
		grown := Ack(c, api.Got{Bytes: want[0], At: 10})
		if got := Loss(grown, 10, 12, 0); Window(grown) != want[2] || got.OldCwnd != want[2] || got.OldThresh != want[0] {
			t.Errorf("a second loss of kind %d behind %+v: %+v", kind, grown, got)
		}
	}
}

// P15.3: of CProbe a loss is of the flight alone, of whatever time it is; what was kept, and a start, stay.
func TestLossProbe(t *testing.T) {
	for _, phase := range phases() {
		for _, x := range [][2]uint64{{0, floor}, {3429, floor}, {3430, 2401}, {10000, 7000}, {71427, 49998}, {71428, 49999}, {71429, 50000}, {1 << 40, 50000}, {top, 50000}} {
			c := full(3, 0, 0)
			c.Slow.Phase = phase
			want := c
			want.Probe.High = x[1]
			for _, at := range []uint64{0, 50, 1099, 1100, top} {
				for _, now := range []uint64{0, 77, top} {
					checkLoss(t, c, at, now, x[0], want)
					checkMark(t, c, 1200, at, now, x[0], want)
				}
			}
		}
	}
	checkLoss(t, begun(t, 3, 0, 5), 0, 0, top, begun(t, 3, 0, 5))
}

// P15.3: of CPrague a mark is of its bytes and time alone; what was kept, and a start, stay.
func TestMarkPrague(t *testing.T) {
	for _, phase := range phases() {
		for _, n := range []uint64{0, 77, top} {
			c := full(4, 12000, 20000)
			c.Slow.Phase = phase
			want := c
			want.Prague.Marked = 1284
			checkMark(t, c, 1200, 9, n, top-n, want)
			want.Prague.Cut, want.Prague.Base = true, api.Reno{Cwnd: 9000, Thresh: 9000, Since: 10}
			checkMark(t, c, 1200, 10, n, top-n, want)
			checkMark(t, c, 1200, top, n, top-n, want)
			want.Prague.Marked = 84
			checkMark(t, c, 0, 10, top-n, n, want)
			want.Prague.Marked = top
			checkMark(t, c, top, 10, top-n, n, want)
			// A second one of the round lets nothing fall.
			cut := want
			checkMark(t, cut, 1, 10, n, n, cut)
		}
	}
}

// P15.3: of the others a mark is a loss, whatever its bytes are.
func TestMarkOthers(t *testing.T) {
	for _, bytes := range []uint64{0, 1, 1200, top} {
		for _, flight := range []uint64{0, 10000, top} {
			c := full(1, 12000, 20000)
			checkMark(t, c, bytes, 9, 77, flight, c)
			want := c
			want.OldCwnd, want.OldThresh, want.Slow.Phase = 12000, 20000, 2
			want.Reno = api.Reno{Cwnd: 6000, Thresh: 6000, Since: 78}
			checkMark(t, c, bytes, 10, 77, flight, want)
			c = full(2, 12000, 20000)
			checkMark(t, c, bytes, 9, 77, flight, c)
			want = c
			want.OldCwnd, want.OldThresh, want.Slow.Phase = 12000, 20000, 2
			want.Cubic = api.Cubic{Cwnd: 8400, Thresh: 8400, Since: 78, Most: 12000}
			checkMark(t, c, bytes, 10, 77, flight, want)
		}
		c := full(3, 0, 0)
		want := c
		want.Probe.High = 7000
		checkMark(t, c, bytes, 9, 77, 10000, want)
	}
}

// P15.3: whatever the controller is, what is answered is what the chapter's words say.
func TestLossAndMarkAgainstTheWords(t *testing.T) {
	q := sequence(3)
	few := fewEdges()
	for _, c := range controls() {
		since := sinceOf(c)
		for _, at := range []uint64{since - 1, since, since + 1, 0, top} {
			bytes, now, flight := q.of(few...), q.of(few...), q.of(few...)
			checkLoss(t, c, at, now, flight, lost(c, at, now, flight))
			checkMark(t, c, bytes, at, now, flight, marked(c, bytes, at, now, flight))
		}
	}
}

// P15.4: a Collapse is the window's own, and what was kept is gone; a start stays, and so does all that is not of the own window.
func TestCollapse(t *testing.T) {
	for _, phase := range phases() {
		for _, flight := range []uint64{0, 10000, 1 << 40, top} {
			c := full(1, 12000, 20000)
			c.Slow.Phase = phase
			want := c
			want.OldCwnd, want.OldThresh = 0, 0
			want.Reno = api.Reno{Cwnd: floor, Thresh: 20000}
			checkCollapse(t, c, flight, want)
			c = full(2, 12000, 20000)
			c.Slow.Phase, c.Cubic.Most = phase, 13000
			want = c
			want.OldCwnd, want.OldThresh = 0, 0
			want.Cubic = api.Cubic{Cwnd: floor, Thresh: 20000, Most: 13000}
			checkCollapse(t, c, flight, want)
			c = full(4, 12000, 20000)
			c.Slow.Phase = phase
			want = c
			want.OldCwnd, want.OldThresh = 0, 0
			want.Prague.Base = api.Reno{Cwnd: floor, Thresh: 20000}
			checkCollapse(t, c, flight, want)
			// Of CProbe it is a loss of nothing under way, whatever there is.
			c = full(3, 0, 0)
			c.Slow.Phase = phase
			want = c
			want.OldCwnd, want.OldThresh = 0, 0
			want.Probe.High = floor
			checkCollapse(t, c, flight, want)
			checkCollapse(t, want, flight, want)
			c.Probe.High, want.Probe.High = 2399, 2399
			checkCollapse(t, c, flight, want)
		}
	}
}

// P15.4: an Undo gives back the greater one of what there is and what was kept, each of them by itself, held.
func TestUndo(t *testing.T) {
	for _, kind := range windowed() {
		for _, now := range [][3]uint64{
			{12000, 0, 12000}, {12000, 11999, 12000}, {12000, 12000, 12000}, {12000, 12001, 12001}, {12000, 20000, 20000}, {0, 0, floor}, {0, 2399, floor}, {2399, 0, floor}, {2399, 2400, 2400}, {0, 2401, 2401}, {2401, 5, 2401},
			{5, most - 1, most - 1}, {5, most, most}, {5, most + 1, most}, {most - 1, 5, most - 1}, {most, 5, most}, {most + 1, 5, most}, {top, 0, most}, {0, top, most}, {top, top, most},
		} {
			for _, thresh := range [][3]uint64{{9000, 0, 9000}, {9000, 8999, 9000}, {9000, 9000, 9000}, {9000, 9001, 9001}, {0, 0, floor}, {5, 2399, floor}, {most + 1, 0, most}, {0, most + 1, most}, {7, top, most}, {top, 7, most}} {
				c := full(kind, now[0], thresh[0])
				c.OldCwnd, c.OldThresh = now[1], thresh[1]
				want := c
				want.OldCwnd, want.OldThresh = 0, 0
				switch kind {
				case 1:
					want.Reno = api.Reno{Cwnd: now[2], Thresh: thresh[2], Rest: 7}
				case 2:
					want.Cubic.Cwnd, want.Cubic.Thresh, want.Cubic.Since = now[2], thresh[2], 0
				case 4:
					want.Prague.Base = api.Reno{Cwnd: now[2], Thresh: thresh[2], Rest: 7}
				}
				checkUndo(t, c, want)
				// An Undo behind an Undo finds nothing more to do.
				checkUndo(t, want, want)
			}
		}
	}
}

// P15.4: an Undo leaves what is not told of it: a start's phase, the rest of the window, and the other windows.
func TestUndoLeaves(t *testing.T) {
	for _, phase := range phases() {
		c := full(1, 12000, 20000)
		c.Slow.Phase, c.OldCwnd, c.OldThresh = phase, 0, 0
		want := c
		want.Reno.Since = 0
		checkUndo(t, c, want)
		c = full(2, 12000, 20000)
		c.Slow.Phase, c.OldCwnd, c.OldThresh, c.Cubic.Has = phase, 0, 0, true
		want = c
		want.Cubic.Since = 0
		checkUndo(t, c, want)
		c = full(4, 12000, 20000)
		c.Slow.Phase, c.OldCwnd, c.OldThresh, c.Prague.Cut = phase, 0, 0, true
		want = c
		want.Prague.Base.Since = 0
		checkUndo(t, c, want)
	}
}

// P15.4: of CProbe High alone changes, whatever it was, and is Cap.
func TestUndoProbe(t *testing.T) {
	for _, high := range edges() {
		for _, state := range []int{0, 1, 2, 3, 4, -1} {
			c := full(3, 0, 0)
			c.Probe.High, c.Probe.State = high, state
			want := c
			want.Probe.High = most
			checkUndo(t, c, want)
			checkUndo(t, want, want)
		}
	}
	c := begun(t, 3, 0, 5)
	checkUndo(t, Loss(c, 0, 9, 0), c)
}

// P15.4: a controller that never lost stays; behind a loss and an Undo it is as wide as it was, but its start is over, and its window grows by its own rule.
func TestUndoOfALoss(t *testing.T) {
	for _, kind := range kinds() {
		c := begun(t, kind, 3, 5)
		checkUndo(t, c, c)
	}
	for kind, want := range map[int]uint64{1: 12120, 2: 12063, 4: 13200} {
		c := begun(t, kind, 3, 5)
		u := Undo(Loss(c, 4, 9, 0))
		if Window(u) != 12000 || threshOf(u) != most || sinceOf(u) != 0 || u.OldCwnd != 0 || u.OldThresh != 0 {
			t.Errorf("an Undo of kind %d: %+v", kind, u)
		}
		checkWindow(t, Ack(u, api.Got{Now: 20, Bytes: 1200, At: 0}), want)
		// What is lost next counts anew, though it is elder than the loss that was none.
		if l := Loss(u, 0, 15, 0); l.OldCwnd != 12000 || l.OldThresh != most || sinceOf(l) != 16 {
			t.Errorf("a loss of kind %d behind an Undo: %+v", kind, l)
		}
		// Behind a Collapse there is nothing to be given back.
		checkWindow(t, Undo(Collapse(Loss(c, 4, 9, 0), 0)), floor)
		// What it has grown to since is more.
		g := Ack(Loss(begun(t, kind, 3, 5), 4, 9, 0), api.Got{Now: 20, Bytes: 1 << 40, At: 10})
		if Window(Undo(g)) != Window(g) || Window(g) <= 12000 {
			t.Errorf("an Undo of kind %d behind %+v: %d", kind, g, Window(Undo(g)))
		}
	}
}

// P15.4: whatever the controller is, what is answered is what the chapter's words say.
func TestCollapseAndUndoAgainstTheWords(t *testing.T) {
	q := sequence(4)
	for _, c := range controls() {
		checkCollapse(t, c, q.of(fewEdges()...), collapsed(c))
		checkUndo(t, c, undone(c))
	}
}

// P15.5: a window is the own one's: a Cwnd as it is, also beyond the edges, or what probe says.
func TestWindow(t *testing.T) {
	for _, cwnd := range edges() {
		for _, kind := range windowed() {
			checkWindow(t, full(kind, cwnd, 9000), cwnd)
		}
	}
	c := full(3, 0, 0)
	// Twice of 30000 bytes, but at most High.
	checkWindow(t, c, 50000)
	c.Probe.High = most
	checkWindow(t, c, 60000)
	c.Probe.State = 3
	checkWindow(t, c, 4800)
	c.Probe.State, c.Probe.Min = 0, top
	checkWindow(t, c, 12000)
}

// P15.5: a rate is a window, and a fourth of it, in what an answer takes, downwards; a time of 0 is taken for 1.
func TestRate(t *testing.T) {
	for _, kind := range windowed() {
		for _, x := range [][3]uint64{
			{12000, 0, 15000000}, {12000, 1, 15000000}, {12000, 2, 7500000}, {12000, 3, 5000000}, {12000, 7, 2142857}, {12000, 100, 150000}, {12000, 333, 45045},
			{12000, 14999999, 1}, {12000, 15000000, 1}, {12000, 15000001, 0}, {12000, 1 << 63, 0}, {12000, top, 0}, {floor, 1, 3000000}, {most, 1, 20971520000}, {0, 0, 0}, {0, 1, 0}, {1, 1250, 1}, {1, 1251, 0},
			{top / 1250, 1, 18446744073709551250}, {top/1250 + 1, 1, top}, {top, 1, top}, {top, 0, top}, {1 << 63, 1, top}, {1 << 63, 0, top}, {1 << 63, 625, top}, {1 << 63, 626, 18417276431419280766}, {top, 1249, top}, {top, 1250, top}, {top, 1251, 18431998474929607928}, {top, 2500, 1<<63 - 1}, {top, top, 1250},
		} {
			checkRate(t, full(kind, x[0], 9000), x[1], x[2])
		}
	}
}

// P15.5: of CProbe a rate is what probe says, whatever an answer takes.
func TestRateProbe(t *testing.T) {
	for _, smooth := range edges() {
		c := full(3, 0, 0)
		checkRate(t, c, smooth, 300000)
		c.Probe.State = 1
		checkRate(t, c, smooth, 104296)
		c.Probe.Rates = nil
		checkRate(t, c, smooth, 36036)
	}
}

// P15.5: whatever the controller is, what is answered is what the chapter's words say.
func TestWindowAndRateAgainstTheWords(t *testing.T) {
	for _, c := range controls() {
		checkWindow(t, c, wide(c))
		for _, smooth := range []uint64{0, 1, 2, 1250, 1251, 1 << 32, top} {
			checkRate(t, c, smooth, fast(c, smooth))
		}
	}
}

// The chapter's Promises: a controller of another Kind stays as it is, whatever its windows are; its Window is Floor, its Rate 0.
func TestOtherKinds(t *testing.T) {
	q := sequence(5)
	check := func(c api.Control) {
		for range 2 {
			checkAck(t, c, q.got(c), c)
			n := q.of(fewEdges()...)
			checkLoss(t, c, n, top-n, n, c)
			checkLoss(t, c, top, n, top, c)
			checkMark(t, c, n, top-n, n, top-n, c)
			checkMark(t, c, 1200, top, n, top, c)
			checkCollapse(t, c, n, c)
			checkUndo(t, c, c)
			checkWindow(t, c, 2400)
			checkRate(t, c, n, 0)
		}
	}
	for _, kind := range none() {
		check(api.Control{Kind: kind})
		check(full(kind, 0, 0))
		for _, own := range kinds() {
			c := full(own, 12000, 20000)
			c.Kind = kind
			check(c)
		}
	}
	for _, c := range controls() {
		if c.Kind < 1 || c.Kind > 4 {
			check(c)
		}
	}
}

// steps are all calls that answer a controller.
func steps(g api.Got) []func(api.Control) api.Control {
	return []func(api.Control) api.Control{
		func(c api.Control) api.Control { return Ack(c, g) },
		func(c api.Control) api.Control { return Ack(c, api.Got{Now: 5, Limited: true}) },
		func(c api.Control) api.Control { return Loss(c, top, 5, 10000) },
		func(c api.Control) api.Control { return Loss(c, 0, 5, 0) },
		func(c api.Control) api.Control { return Mark(c, 1200, top, 5, 10000) },
		func(c api.Control) api.Control { return Mark(c, 1200, 0, 5, 10000) },
		func(c api.Control) api.Control { return Collapse(c, 10000) },
		func(c api.Control) api.Control { return Undo(c) },
	}
}

// The chapter's Promises: a controller of a kind leaves the windows of the other kinds as they were; whatever they are, its own goes on the same way.
func TestOtherWindows(t *testing.T) {
	q := sequence(6)
	for _, c := range controls() {
		for i, step := range steps(q.got(c)) {
			got := step(c)
			if c.Kind != 1 && got.Reno != c.Reno || c.Kind != 2 && got.Cubic != c.Cubic || c.Kind != 4 && got.Prague != c.Prague ||
				c.Kind != 3 && !same(api.Control{Probe: got.Probe}, api.Control{Probe: c.Probe}) || got.Kind != c.Kind {
				t.Errorf("call %d of %+v: %+v", i, c, got)
			}
			alone := api.Control{Kind: c.Kind, Slow: c.Slow, OldCwnd: c.OldCwnd, OldThresh: c.OldThresh}
			want := api.Control{Kind: c.Kind, Slow: got.Slow, OldCwnd: got.OldCwnd, OldThresh: got.OldThresh}
			switch c.Kind {
			case 1:
				alone.Reno, want.Reno = c.Reno, got.Reno
			case 2:
				alone.Cubic, want.Cubic = c.Cubic, got.Cubic
			case 3:
				alone.Probe, want.Probe = c.Probe, got.Probe
			case 4:
				alone.Prague, want.Prague = c.Prague, got.Prague
			}
			if next := step(alone); !same(next, want) || Window(alone) != Window(c) || Rate(alone, 9) != Rate(c, 9) {
				t.Errorf("call %d of %+v: %+v, want %+v", i, alone, next, want)
			}
		}
	}
}

// spared is a list with room behind it, whose members are told too.
func spared(l []api.Sample) []api.Sample {
	out := append(slices.Clone(l), api.Sample{At: 31, Value: 41}, api.Sample{At: 59, Value: 26}, api.Sample{At: 53, Value: 58})
	return out[:len(l)]
}

// R4: Rates that are handed in stay as they were, their spare room too, and what is answered shares none of it, of any kind.
func TestMemory(t *testing.T) {
	q := sequence(7)
	for _, c := range controls() {
		c.Probe.Rates = spared(c.Probe.Rates)
		whole := c.Probe.Rates[:cap(c.Probe.Rates)]
		before := slices.Clone(whole)
		for i, step := range steps(q.got(c)) {
			answer := step(c)
			kept := slices.Clone(answer.Probe.Rates)
			for j := range whole {
				whole[j].Value += 5
			}
			if !slices.Equal(answer.Probe.Rates, kept) {
				t.Errorf("call %d of %+v: what is answered changes with what was handed in", i, c)
			}
			copy(whole, before)
			clear(answer.Probe.Rates[:cap(answer.Probe.Rates)])
			if !slices.Equal(whole, before) {
				t.Errorf("call %d of %+v: what was handed in changes with what is answered", i, c)
				copy(whole, before)
			}
		}
		Window(c)
		Rate(c, 9)
		if !slices.Equal(whole, before) {
			t.Errorf("what was handed in was changed: %v, was %v", whole, before)
		}
	}
}

// R5: what is answered does not hang on the room that Rates have, nor on whether a list without elements is nil.
func TestRoom(t *testing.T) {
	q := sequence(8)
	for _, c := range controls() {
		other := c
		other.Probe.Rates = spared(c.Probe.Rates)
		if len(c.Probe.Rates) == 0 && q.below(2) == 0 {
			other.Probe.Rates = nil
		}
		for i, step := range steps(q.got(c)) {
			if a, b := step(c), step(other); !same(a, b) {
				t.Errorf("call %d of %+v: %+v and %+v", i, c, a, b)
			}
		}
		if Window(c) != Window(other) || Rate(c, 9) != Rate(other, 9) {
			t.Errorf("%+v and %+v differ", c, other)
		}
	}
}

// within tells whether a number is within Floor and Cap.
func within(n uint64) bool { return n >= floor && n <= most }

// settled tells whether a controller is as calls would leave it, as far as P15.6 hangs on it.
func settled(c api.Control) bool { return within(Window(c)) && (c.Kind != 3 || c.Probe.High >= floor) }

// P15.6: a window that was within Floor and Cap stays there, whatever comes, of a controller that no calls would make either; and losses and marks never let one rise.
func TestStaysWithin(t *testing.T) {
	q := sequence(9)
	tried := 0
	for _, c := range controls() {
		if !settled(c) {
			continue
		}
		tried++
		for i, step := range steps(q.got(c)) {
			got := step(c)
			if !settled(got) || i >= 2 && i < 6 && Window(got) > Window(c) {
				t.Errorf("call %d of %+v: %+v", i, c, got)
			}
		}
	}
	if tried < 1000 {
		t.Errorf("%d controllers were tried", tried)
	}
}

// P15.6: behind a loss that counts and an Undo a window and its Thresh are at least what they were ahead of the loss, of a controller that no calls would make either, as far as Cap lets them.
func TestUndoGivesBack(t *testing.T) {
	for _, c := range controls() {
		if c.Kind < 1 || c.Kind > 4 {
			continue
		}
		for _, at := range []uint64{0, sinceOf(c) - 1, sinceOf(c), top} {
			for _, back := range []api.Control{Undo(Loss(c, at, 9, 5)), Undo(Loss(c, at, top, top))} {
				if Window(back) < min(Window(c), most) || c.Kind != 3 && threshOf(back) < min(threshOf(c), most) || c.Kind != 3 && !within(Window(back)) {
					t.Errorf("behind %+v, a loss of %d, and an Undo: %+v", c, at, back)
				}
			}
		}
	}
}

// course is a controller that is told of a path step by step, and what it is to be by the chapter's words.
type course struct {
	q         sequence
	c         api.Control
	now, next uint64
	undone    int
	// ahead is what a window and its Thresh were ahead of the last loss that an Undo would give back.
	ahead [2]uint64
}

// step is one call more, of any kind.
func (o *course) step(t *testing.T) {
	t.Helper()
	q := &o.q
	o.now += q.below(30)
	o.next += q.below(5)
	c := o.c
	at := o.now - min(o.now, q.below(90))
	got, want := c, c
	switch q.below(24) {
	case 0:
		flight := q.below(60000)
		got, want = Loss(c, at, o.now, flight), lost(c, at, o.now, flight)
		if c.Kind != 3 && at >= sinceOf(c) {
			o.ahead = [2]uint64{Window(c), threshOf(c)}
		}
	case 1:
		bytes, flight := q.below(3000), q.below(60000)
		got, want = Mark(c, bytes, at, o.now, flight), marked(c, bytes, at, o.now, flight)
		if c.Kind < 3 && at >= sinceOf(c) {
			o.ahead = [2]uint64{Window(c), threshOf(c)}
		}
	case 2:
		if q.below(6) == 0 {
			got, want = Collapse(c, 9000), collapsed(c)
			o.ahead = [2]uint64{}
		}
	case 3:
		got, want = Undo(c), undone(c)
		if Window(got) < o.ahead[0] || c.Kind != 3 && threshOf(got) < o.ahead[1] || Window(got) < Window(c) {
			t.Fatalf("an Undo of %+v: %+v, ahead of the loss it was %v", c, got, o.ahead)
		}
		o.ahead, o.undone = [2]uint64{}, o.undone+1
	default:
		g := api.Got{
			Now: o.now, Bytes: q.below(1<<q.below(15) + 1), At: at, Number: o.next - min(o.next, q.below(40)), Next: o.next, Took: 40 + q.below(60),
			Flight: q.below(60000), Rate: q.below(900000), Limited: q.below(6) == 0, Round: q.below(5) == 0,
		}
		got, want = Ack(c, g), acked(c, g)
	}
	if !same(got, want) {
		t.Fatalf("behind %+v: %+v, want %+v", c, got, want)
	}
	if !within(Window(got)) || c.Kind != 3 && !within(threshOf(got)) {
		t.Fatalf("behind %+v: %+v, whose window is %d", c, got, Window(got))
	}
	if smooth := q.below(200); Rate(got, smooth) != fast(got, smooth) {
		t.Fatalf("a rate of %+v, of %d", got, smooth)
	}
	o.c = got
}

// P15.6: by many calls, each on what the one before it gave, windows are within Floor and Cap, and an Undo gives back what was ahead of the last loss; each step is what the chapter's words say.
func TestFollows(t *testing.T) {
	for _, kind := range kinds() {
		undone, starts := 0, map[int]int{}
		for seed := range 60 {
			o := course{q: sequence(100*kind + seed)}
			o.now, o.next = o.q.below(1000), o.q.below(1000)
			o.c = begun(t, kind, o.now, o.next)
			for range 250 {
				o.step(t)
				starts[o.c.Slow.Phase]++
			}
			undone += o.undone
		}
		if undone < 100 {
			t.Errorf("of kind %d %d Undos were tried", kind, undone)
		}
		if kind > 2 && starts[0] != 60*250 || kind < 3 && (starts[0] < 100 || starts[2] < 100) {
			t.Errorf("of kind %d the starts' phases were %v", kind, starts)
		}
	}
}

// P15.6: numbers of any kind by any calls, from a beginning on, leave a window within Floor and Cap.
func TestAnyNumbers(t *testing.T) {
	q := sequence(16)
	every := edges()
	for _, kind := range kinds() {
		for range 150 {
			c := begun(t, kind, q.of(every...), q.of(every...))
			for range 60 {
				before := c
				want := c
				a, b, d, e := q.of(append(every, sinceOf(c))...), q.of(every...), q.of(every...), q.of(every...)
				switch q.below(8) {
				case 0:
					c, want = Loss(c, a, b, d), lost(c, a, b, d)
				case 1:
					c, want = Mark(c, e, a, b, d), marked(c, e, a, b, d)
				case 2:
					c, want = Collapse(c, a), collapsed(c)
				case 3:
					c, want = Undo(c), undone(c)
				default:
					g := q.got(c)
					c, want = Ack(c, g), acked(c, g)
				}
				if !same(c, want) || !within(Window(c)) || c.Kind != 3 && !within(threshOf(c)) {
					t.Fatalf("behind %+v: %+v, want %+v", before, c, want)
				}
			}
		}
	}
}

// P15.2: a whole start, of rounds of ten answers: it takes all bytes, is careful from the eighth longer answer of a round on, and is over at its fifth round's end, from where the window grows by its own rule.
func TestCourse(t *testing.T) {
	for kind, want := range map[int]uint64{1: 45331, 2: 45316, 4: 85200} {
		c := begun(t, kind, 0, 10)
		number := uint64(0)
		told := func(answers int, took, cwnd uint64, phase int) {
			t.Helper()
			for range answers {
				c = Ack(c, api.Got{Now: 1000 + number, Bytes: 1200, At: 900 + number, Number: number, Next: number + 10, Took: took})
				number++
			}
			if kind != api.CPrague && (Window(c) != cwnd || c.Slow.Phase != phase || phase != 2 && threshOf(c) != most) {
				t.Fatalf("of kind %d behind %d answers: %+v", kind, number, c)
			}
		}
		told(10, 100, 24000, 0)
		told(7, 113, 32400, 0)
		told(1, 113, 32700, 1)
		told(2, 113, 33300, 1)
		for round := range uint64(4) {
			told(10, 113, 36300+3000*round, 1)
		}
		told(1, 113, want, 2)
		if Window(c) != want || kind != api.CPrague && threshOf(c) != 45300 || kind == api.CPrague && c.Slow != hystart.New(10) {
			t.Errorf("of kind %d behind a whole start: %+v", kind, c)
		}
	}
}
