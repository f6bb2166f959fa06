package probe

import (
	"math/big"
	"reflect"
	"slices"
	"testing"

	"wigwag/api"
)

const (
	top   = 1<<64 - 1
	floor = 2400
	low   = 4800
	most  = 1 << 24
)

// edges are numbers at which windows are held, parts turn, times come, and sums and products wrap.
func edges() []uint64 {
	out := []uint64{0, 1, 2, 3, 4, 7, 8, 9, 100, 110, 333}
	for _, n := range []uint64{200, 256, 999, floor, 3429, low, 10000, 12000, 100000, most, 1 << 32, top / 1000, 1 << 63} {
		out = append(out, n-1, n, n+1)
	}
	return append(out, top-10000, top-200, top-1, top)
}

// fewEdges are some of them, for what asks for many numbers at once.
func fewEdges() []uint64 {
	return []uint64{0, 1, 3, 100, 200, floor - 1, low, 10000, 100000, most - 1, most + 1, top/1000 + 1, 1 << 63, top - 1, top}
}

// states are the four of them, and some that are none.
func states() []int { return []int{0, 1, 2, 3, -1, 4, 1<<63 - 1, -1 << 63} }

// others are the States but that one.
func others(state int) []int {
	return slices.DeleteFunc(states(), func(s int) bool { return s == state })
}

// lists are Rates, some of which no calls would make.
func lists() [][]api.Sample {
	return [][]api.Sample{
		nil, {}, {{At: 0, Value: 0}}, {{At: 1, Value: 1}}, {{At: 5, Value: 999}, {At: 6, Value: 500}}, {{At: 3, Value: 100000}, {At: 9, Value: 4000}, {At: 11, Value: 7}},
		{{At: 100, Value: 5000}, {At: 1, Value: 800000}}, {{At: 7, Value: 0}, {At: 7, Value: 9}, {At: 7, Value: 9}}, {{At: top, Value: 1 << 63}}, {{At: 0, Value: top}, {At: top, Value: top}},
	}
}

// models are hand-made ones: their numbers need not be those of any calls.
func models() []api.Probe {
	var out []api.Probe
	few := fewEdges()
	at := func(n int) uint64 { return few[n%len(few)] }
	for i, state := range states() {
		for j, rates := range lists() {
			for k, least := range few {
				out = append(out, api.Probe{
					State: state, Rates: rates, Min: least, MinAt: at(i + 2*j + 3*k), Full: at(2*i + 5*j + k), Still: at(i + j + k),
					Rounds: at(3*i + j + 2*k), Phase: at(5*i + 3*j + k), Since: at(i + 4*j + 7*k), High: at(7*i + j + 4*k),
				})
			}
		}
	}
	return out
}

// path is a model that a rate and a time are known of, as a State goes on by.
func path(state int, rate, least uint64) api.Probe {
	return api.Probe{State: state, Rates: []api.Sample{{At: 5, Value: rate}}, Min: least, MinAt: 1000, Full: 700, Still: 1, Rounds: 5, Phase: 6, Since: 2000, High: most}
}

// sequence is numbers without a plain order, the same ones in each run.
type sequence uint64

func (q *sequence) below(n uint64) uint64 {
	*q = *q*6364136223846793005 + 1442695040888963407
	return uint64(*q) >> 16 % n
}

func (q *sequence) of(list ...uint64) uint64 { return list[q.below(uint64(len(list)))] }

func large(n uint64) *big.Int { return new(big.Int).SetUint64(n) }

// fitted is a number of any size, or the greatest one of 64 bits.
func fitted(n *big.Int) uint64 {
	if !n.IsUint64() {
		return top
	}
	return n.Uint64()
}

func sum(a, b uint64) uint64 { return fitted(new(big.Int).Add(large(a), large(b))) }

// part is a product through a number that is not 0, downwards, as P1.2 says of MulDiv.
func part(a, b, c uint64) uint64 {
	product := new(big.Int).Mul(large(a), large(b))
	return fitted(product.Div(product, large(c)))
}

// held is P10.1's Held, word by word.
func held(n uint64) uint64 {
	if n < 2400 {
		return 2400
	}
	if n > 16777216 {
		return 16777216
	}
	return n
}

// bestOf is P2.2, word by word.
func bestOf(l []api.Sample) uint64 {
	for _, s := range l {
		return s.Value
	}
	return 0
}

// pushed is P2.1's PushMax, word by word.
func pushed(l []api.Sample, window uint64, s api.Sample) []api.Sample {
	var out []api.Sample
	for _, old := range l {
		if sum(old.At, window) >= s.At && old.Value > s.Value {
			out = append(out, old)
		}
	}
	return append(out, s)
}

// holds is P13.2's Product, word by word.
func holds(p api.Probe, parts uint64) uint64 {
	if p.Min == 18446744073709551615 {
		return 0
	}
	return part(part(bestOf(p.Rates), p.Min, 1000), parts, 256)
}

// wide is P13.2's Window, word by word.
func wide(p api.Probe) uint64 {
	if p.State == 3 {
		return 4800
	}
	if holds(p, 256) == 0 {
		return 12000
	}
	out := held(holds(p, 512))
	if p.State == 0 {
		out = held(holds(p, 739))
	}
	if out > p.High {
		out = p.High
	}
	if p.High >= 4800 && out < 4800 {
		out = 4800
	}
	return out
}

// fast is P13.2's Rate, word by word.
func fast(p api.Probe) uint64 {
	best := bestOf(p.Rates)
	switch {
	case best == 0:
		return 36036
	case p.State == 0:
		return part(best, 739, 256)
	case p.State == 1:
		return part(best, 89, 256)
	case p.State == 2 && p.Phase%8 == 0:
		return part(best, 320, 256)
	case p.State == 2 && p.Phase%8 == 1:
		return part(best, 192, 256)
	}
	return best
}

// acked is P13.3, step by step.
func acked(p api.Probe, g api.Got) api.Probe {
	if g.Round {
		p.Rounds = sum(p.Rounds, 1)
		p.High = held(sum(p.High, p.High/8))
	}
	if !(g.Limited && g.Rate < bestOf(p.Rates)) {
		p.Rates = pushed(p.Rates, 10, api.Sample{At: p.Rounds, Value: g.Rate})
	}
	stale := g.Now >= sum(p.MinAt, 10000)
	if stale || g.Took < p.Min {
		p.Min = g.Took
		p.MinAt = g.Now
	}
	best := bestOf(p.Rates)
	switch p.State {
	case 0:
		if !g.Round || g.Limited {
			break
		}
		if best >= sum(p.Full, p.Full/4) && best > 0 {
			p.Full = best
			p.Still = 0
		} else {
			p.Still = sum(p.Still, 1)
			if p.Still == 3 {
				p.State = 1
			}
		}
	case 1:
		if g.Flight <= holds(p, 256) {
			p.State = 2
			p.Phase = 0
			p.Since = g.Now
		}
	case 2:
		if stale {
			p.State = 3
			p.Since = g.Now
		} else if g.Now >= sum(p.Since, p.Min) {
			p.Phase = sum(p.Phase, 1)
			p.Since = g.Now
		}
	case 3:
		if g.Now >= sum(p.Since, 200) {
			p.State = 2
			p.Phase = 2
			p.Since = g.Now
		}
	}
	return p
}

// lost is P13.4, word by word.
func lost(p api.Probe, flight uint64) api.Probe {
	if high := held(part(flight, 7, 10)); high < p.High {
		p.High = high
	}
	return p
}

// same tells whether two models are one, where a list without elements may be nil or not.
func same(a, b api.Probe) bool {
	if !slices.Equal(a.Rates, b.Rates) {
		return false
	}
	a.Rates, b.Rates = nil, nil
	return reflect.DeepEqual(a, b)
}

func checkAck(t *testing.T, p api.Probe, g api.Got, want api.Probe) {
	t.Helper()
	if got := Ack(p, g); !same(got, want) {
		t.Errorf("Ack(%+v, %+v) = %+v, want %+v", p, g, got, want)
	}
}

func checkLoss(t *testing.T, p api.Probe, flight uint64, want api.Probe) {
	t.Helper()
	if got := Loss(p, flight); !same(got, want) {
		t.Errorf("Loss(%+v, %d) = %+v, want %+v", p, flight, got, want)
	}
}

func checkProduct(t *testing.T, p api.Probe, parts, want uint64) {
	t.Helper()
	if got := Product(p, parts); got != want {
		t.Errorf("Product(%+v, %d) = %d, want %d", p, parts, got, want)
	}
}

func checkWindow(t *testing.T, p api.Probe, want uint64) {
	t.Helper()
	if got := Window(p); got != want {
		t.Errorf("Window(%+v) = %d, want %d", p, got, want)
	}
}

func checkRate(t *testing.T, p api.Probe, want uint64) {
	t.Helper()
	if got := Rate(p); got != want {
		t.Errorf("Rate(%+v) = %d, want %d", p, got, want)
	}
}

// P13.1 to P13.4: the chapter's examples.
func TestExamples(t *testing.T) {
	checkWindow(t, New(0), 12000)
	checkRate(t, New(0), 36036)
	p := Ack(New(0), api.Got{Now: 100, Took: 100, Rate: 100000, Round: true})
	checkWindow(t, p, 28867)
	checkRate(t, p, 288671)
	checkWindow(t, Loss(p, 10000), 7000)
}

// The chapter's Types: the States are these numbers.
func TestStates(t *testing.T) {
	if got := []int{api.ProbeStart, api.ProbeDrain, api.ProbeCycle, api.ProbeLow}; !slices.Equal(got, []int{0, 1, 2, 3}) {
		t.Errorf("the States are %v", got)
	}
}

// P13.1: a model at its beginning, at any time, and the next one is just that too.
func TestNew(t *testing.T) {
	for range 2 {
		for _, now := range []uint64{0, 1, 777, 1 << 32, 1 << 63, top - 1, top} {
			want := api.Probe{State: 0, Min: top, MinAt: now, Since: now, High: 16777216}
			got := New(now)
			if !same(got, want) {
				t.Errorf("New(%d) = %+v, want %+v", now, got, want)
			}
			checkProduct(t, got, 256, 0)
			checkWindow(t, got, 12000)
			checkRate(t, got, 36036)
			Loss(Ack(got, api.Got{Now: now, Took: 5, Rate: 9000, Round: true}), 9)
		}
	}
}

// P13.2: a path holds nothing that is known, where no answer came, whatever its rate is.
func TestProductOfNone(t *testing.T) {
	for _, l := range lists() {
		for _, parts := range edges() {
			checkProduct(t, api.Probe{Rates: l, Min: top}, parts, 0)
			checkProduct(t, api.Probe{Rates: l, Min: 0}, parts, 0)
		}
	}
	for _, n := range edges() {
		checkProduct(t, api.Probe{Min: n}, 256, 0)
		checkProduct(t, api.Probe{Min: n, Rates: []api.Sample{}}, 739, 0)
		checkProduct(t, api.Probe{Min: n, Rates: []api.Sample{{At: 9, Value: 0}, {At: 9, Value: 5000}}}, top, 0)
	}
	// The greatest time that is one is below none.
	checkProduct(t, path(0, 1, top-1), 256, 18446744073709551)
	checkProduct(t, path(0, 1, top), 256, 0)
}

// P13.2: the best rate times Min through 1000, downwards, and then the parts of it, downwards too.
func TestProduct(t *testing.T) {
	for _, c := range []struct{ rate, least, parts, want uint64 }{
		{100000, 100, 256, 10000}, {100000, 100, 739, 28867}, {100000, 100, 512, 20000}, {100000, 100, 128, 5000}, {100000, 100, 1, 39}, {100000, 100, 0, 0}, {100000, 100, 257, 10039},
		{999, 1, 256, 0}, {1000, 1, 256, 1}, {1001, 1, 256, 1}, {1, 999, 256, 0}, {1, 1000, 256, 1}, {1999, 1, 256, 1}, {1999, 1, 512, 2}, {1999, 1, 739, 2}, {2000, 1, 512, 4},
		{999, 1, 739, 0}, {999, 1, 512, 0}, {999, 1, top, 0}, {500, 1, 512, 0}, {1000, 1, 255, 0}, {1000, 1, 511, 1}, {1000, 1, 512, 2},
		{1000, 1, top, 72057594037927935}, {256000, 1, top, top}, {255000, 1, top, 18374686479671623679}, {257000, 1, top, top}, {0, 100, 256, 0},
	} {
		for _, state := range states() {
			checkProduct(t, path(state, c.rate, c.least), c.parts, c.want)
			checkProduct(t, path(state, c.least, c.rate), c.parts, c.want)
		}
	}
}

// P13.2: products have 128 bits, and are the greatest number beyond it.
func TestProductDoesNotWrap(t *testing.T) {
	for _, c := range []struct{ rate, least, parts, want uint64 }{
		{1 << 32, 1 << 32, 256, 18446744073709551}, {1 << 63, 2, 256, 18446744073709551}, {top, 1000, 256, top}, {top, 999, 256, 18428297329635842063}, {top, 1001, 256, top}, {top - 1, 1000, 256, top - 1},
		{top, top - 1, 256, top}, {top, top - 1, 1, 72057594037927935}, {top, top - 1, 0, 0}, {top, top - 1, top, top}, {1 << 37, 1 << 37, 256, top}, {1 << 36, 1 << 37, 256, 9444732965739290427},
		{top, 1000, 257, top}, {top, 1000, 255, 18374686479671623679}, {1 << 63, 1000, 511, 18410715276690587648}, {1 << 63, 1000, 512, top}, {1 << 63, 1000, 513, top},
	} {
		checkProduct(t, path(0, c.rate, c.least), c.parts, c.want)
	}
}

// P13.2: a product asks the first of Rates and Min alone.
func TestProductAsksNoMore(t *testing.T) {
	for _, n := range edges() {
		for _, state := range states() {
			p := api.Probe{State: state, Rates: []api.Sample{{At: n, Value: 100000}, {At: n, Value: n}}, Min: 100, MinAt: n, Full: n, Still: n, Rounds: n, Phase: n, Since: n, High: n}
			checkProduct(t, p, 256, 10000)
			checkProduct(t, p, 739, 28867)
		}
	}
}

// P13.2: in ProbeLow a window is 4800, whatever else is known.
func TestWindowLow(t *testing.T) {
	for _, l := range lists() {
		for _, n := range edges() {
			for _, high := range fewEdges() {
				checkWindow(t, api.Probe{State: 3, Rates: l, Min: n, High: high}, 4800)
			}
		}
	}
}

// P13.2: where a path is not known to hold a byte, a window is Begin, whatever High is.
func TestWindowBegin(t *testing.T) {
	for _, high := range append(edges(), 11999, 12000, 12001) {
		for _, state := range others(3) {
			for _, c := range [][2]uint64{{0, 100}, {100000, 0}, {100000, top}, {top, top}, {0, top}, {0, 0}, {999, 1}, {1, 999}, {31, 32}} {
				p := path(state, c[0], c[1])
				p.High = high
				checkWindow(t, p, 12000)
			}
			checkWindow(t, api.Probe{State: state, Min: 100, High: high}, 12000)
			checkWindow(t, api.Probe{State: state, Min: 100, High: high, Rates: []api.Sample{{Value: 0}, {Value: 100000}}}, 12000)
			// 739 parts of what is less than a byte would be more than one, but they are of no byte; of a byte they are two.
			p := path(state, 1000, 1)
			p.High = high
			if high < 4800 {
				checkWindow(t, p, min(high, 2400))
			} else {
				checkWindow(t, p, 4800)
			}
		}
	}
}

// P13.2: a window is 739 parts of 256 of what a path holds in ProbeStart, and 512 else, in a State that is none too.
func TestWindowParts(t *testing.T) {
	for _, c := range []struct{ holds, start, other uint64 }{
		{1662, 4800, 4800}, {1663, 4800, 4800}, {1664, 4803, 4800}, {2400, 6928, 4800}, {2401, 6931, 4802}, {10000, 28867, 20000}, {10001, 28870, 20002}, {1 << 20, 3026944, 2097152},
		{5811863, 16777213, 11623726}, {5811864, most, 11623728}, {5811865, most, 11623730}, {most / 2, most, most}, {most/2 - 1, most, most - 2}, {most/2 + 1, most, most}, {most, most, most}, {1 << 62, most, most}, {1 << 63, most, most}, {top - 1, most, most}, {top, most, most},
		{1, 4800, 4800}, {831, 4800, 4800}, {1200, 4800, 4800},
	} {
		for _, high := range []uint64{most, most + 1, 1 << 63, top} {
			p := path(0, c.holds, 1000)
			p.High = high
			checkWindow(t, p, c.start)
			for _, state := range []int{1, 2, -1, 4, 5, 1<<63 - 1, -1 << 63} {
				p.State = state
				checkWindow(t, p, c.other)
			}
		}
	}
}

// P13.2: a window is at most High, and at least 4800 only where High is not below that.
func TestWindowHigh(t *testing.T) {
	for _, c := range []struct{ holds, high, start, other uint64 }{
		{10000, 0, 0, 0}, {10000, 1, 1, 1}, {10000, 2399, 2399, 2399}, {10000, 2400, 2400, 2400}, {10000, 2401, 2401, 2401}, {10000, 4799, 4799, 4799}, {10000, 4800, 4800, 4800}, {10000, 4801, 4801, 4801},
		{10000, 19999, 19999, 19999}, {10000, 20000, 20000, 20000}, {10000, 20001, 20001, 20000}, {10000, 28866, 28866, 20000}, {10000, 28867, 28867, 20000}, {10000, 28868, 28867, 20000}, {10000, top, 28867, 20000},
		// What is held up at Floor is cut by a High of less, and not raised by one below 4800.
		{1, 0, 0, 0}, {1, 1, 1, 1}, {1, 2399, 2399, 2399}, {1, 2400, 2400, 2400}, {1, 2401, 2400, 2400}, {1, 4799, 2400, 2400}, {1, 4800, 4800, 4800}, {1, 4801, 4800, 4800}, {1, top, 4800, 4800},
		{831, 4799, 2400, 2400}, {832, 4799, 2401, 2400}, {1199, 4799, 3461, 2400}, {1200, 4799, 3464, 2400}, {1201, 4799, 3466, 2402}, {1662, 4799, 4797, 3324}, {1663, 4799, 4799, 3326}, {2399, 4799, 4799, 4798}, {2400, 4799, 4799, 4799},
		{832, 2400, 2400, 2400}, {1201, 2401, 2401, 2401}, {1201, 2402, 2402, 2402}, {1201, 2403, 2403, 2402}, {832, 2399, 2399, 2399},
		{2401, 4800, 4800, 4800}, {2401, 4801, 4801, 4801}, {2401, 4802, 4802, 4802}, {2401, 4803, 4803, 4802}, {1663, 4800, 4800, 4800}, {1664, 4801, 4801, 4800},
		// What is held at Cap is cut by a High of less.
		{top, most - 1, most - 1, most - 1}, {top, most, most, most}, {top, 0, 0, 0}, {top, 4799, 4799, 4799}, {top, 4800, 4800, 4800},
	} {
		p := path(0, c.holds, 1000)
		p.High = c.high
		checkWindow(t, p, c.start)
		for _, state := range []int{1, 2, -1, 4} {
			p.State = state
			checkWindow(t, p, c.other)
		}
	}
}

// P13.2: a window asks State, Rates, Min and High alone.
func TestWindowAsksNoMore(t *testing.T) {
	for _, n := range edges() {
		for _, state := range states() {
			p := api.Probe{State: state, Rates: []api.Sample{{At: n, Value: 100000}, {At: n, Value: n}}, Min: 100, MinAt: n, Full: n, Still: n, Rounds: n, Phase: n, Since: n, High: most}
			switch state {
			case 0:
				checkWindow(t, p, 28867)
			case 3:
				checkWindow(t, p, 4800)
			default:
				checkWindow(t, p, 20000)
			}
		}
	}
}

// P13.2: where no rate is known, Begin is sent in 333 ms, in each State.
func TestRateOfNone(t *testing.T) {
	for _, state := range states() {
		for _, n := range edges() {
			for _, l := range [][]api.Sample{nil, {}, {{At: 9, Value: 0}}, {{At: 9, Value: 0}, {At: 9, Value: 5000}}} {
				checkRate(t, api.Probe{State: state, Rates: l, Min: n, Phase: n, High: n}, 36036)
			}
		}
	}
}

// P13.2: a rate is so many parts of the best one as the State says, downwards, and does not wrap.
func TestRateParts(t *testing.T) {
	for _, c := range []struct{ rate, start, drain, other uint64 }{
		{1, 2, 0, 1}, {2, 5, 0, 2}, {3, 8, 1, 3}, {255, 736, 88, 255}, {256, 739, 89, 256}, {257, 741, 89, 257}, {100000, 288671, 34765, 100000}, {110000, 317539, 38242, 110000},
		{1 << 32, 12398362624, 1493172224, 1 << 32}, {6390211749485311520, 18446744073709551614, 2221597053532002833, 6390211749485311520}, {6390211749485311521, top, 2221597053532002833, 6390211749485311521},
		{1 << 63, top, 3206562934687793152, 1 << 63}, {top - 1, top, 6413125869375586303, top - 1}, {top, top, 6413125869375586303, top},
	} {
		for _, phase := range []uint64{0, 1, 2, 7, 8, 9, top} {
			for _, state := range others(2) {
				p := path(state, c.rate, 100)
				p.Phase = phase
				switch state {
				case 0:
					checkRate(t, p, c.start)
				case 1:
					checkRate(t, p, c.drain)
				default:
					checkRate(t, p, c.other)
				}
			}
		}
	}
}

// P13.2: in ProbeCycle a rate is as the phase says, of eight, of which the ninth is the first one again.
func TestRatePhases(t *testing.T) {
	for _, c := range []struct{ rate, faster, slower uint64 }{
		{1, 1, 0}, {2, 2, 1}, {3, 3, 2}, {4, 5, 3}, {256, 320, 192}, {100000, 125000, 75000}, {110000, 137500, 82500},
		{14757395258967641292, 18446744073709551615, 11068046444225730969}, {14757395258967641293, top, 11068046444225730969}, {1 << 63, 11529215046068469760, 6917529027641081856}, {top, top, 13835058055282163711},
	} {
		p := path(2, c.rate, 100)
		for phase := range uint64(24) {
			p.Phase = phase
			switch phase % 8 {
			case 0:
				checkRate(t, p, c.faster)
			case 1:
				checkRate(t, p, c.slower)
			default:
				checkRate(t, p, c.rate)
			}
		}
		// The greatest Phase is the seventh of eight, counted from 0; the one that is 7 below it is the first.
		for _, x := range [][2]uint64{{top, c.rate}, {top - 1, c.rate}, {top - 5, c.rate}, {top - 6, c.slower}, {top - 7, c.faster}, {top - 8, c.rate}, {1 << 63, c.faster}, {1<<63 + 1, c.slower}, {1<<63 - 1, c.rate}, {1 << 32, c.faster}} {
			p.Phase = x[0]
			checkRate(t, p, x[1])
		}
	}
}

// P13.2: a rate asks State, the first of Rates, and Phase alone.
func TestRateAsksNoMore(t *testing.T) {
	for _, n := range edges() {
		for state, want := range []uint64{288671, 34765, 75000, 100000} {
			p := api.Probe{State: state, Rates: []api.Sample{{At: n, Value: 100000}, {At: n, Value: n}}, Min: n, MinAt: n, Full: n, Still: n, Rounds: n, Phase: 9, Since: n, High: n}
			checkRate(t, p, want)
		}
	}
}

// P13.2: whatever the model is, what is answered is what the chapter's words say.
func TestModelAgainstTheWords(t *testing.T) {
	for _, p := range models() {
		checkWindow(t, p, wide(p))
		checkRate(t, p, fast(p))
		for _, parts := range []uint64{0, 1, 255, 256, 257, 512, 739, 1 << 63, top} {
			checkProduct(t, p, parts, holds(p, parts))
		}
	}
	q := sequence(13)
	all := edges()
	for range 100000 {
		rate, least := q.of(all...), q.of(all...)
		if q.below(2) == 0 {
			rate, least = q.below(1<<q.below(64)+1), q.below(1<<q.below(20)+1)
		}
		p := path(int(q.below(5)), rate, least)
		p.Phase, p.High = q.below(20), q.of(all...)
		p.High = q.of(p.High, holds(p, 512)-1, holds(p, 512), holds(p, 512)+1, holds(p, 739)-1, holds(p, 739), holds(p, 739)+1)
		checkWindow(t, p, wide(p))
		checkRate(t, p, fast(p))
		parts := q.of(all...)
		checkProduct(t, p, parts, holds(p, parts))
	}
}

// plain is a Got that a model of path takes nothing of but its rate, of no round.
func plain(rate uint64) api.Got { return api.Got{Now: 2000, Took: 100, Rate: rate, Flight: top} }

// P13.3 (1): a round's end makes Rounds one more, and nothing else does; Rounds does not wrap.
func TestAckRounds(t *testing.T) {
	for _, state := range states() {
		for _, c := range [][2]uint64{{0, 1}, {1, 2}, {5, 6}, {1<<32 - 1, 1 << 32}, {1<<63 - 1, 1 << 63}, {top - 1, top}, {top, top}} {
			p := path(state, 5000, 100)
			p.Rounds, p.Since = c[0], top
			got := Ack(p, plain(5000))
			if got.Rounds != c[0] || got.Rates[0].At != c[0] {
				t.Errorf("no round: %+v of %+v", got, p)
			}
			g := plain(5000)
			g.Round = true
			for _, limited := range []bool{false, true} {
				g.Limited = limited
				got = Ack(p, g)
				if got.Rounds != c[1] || got.Rates[0].At != c[1] {
					t.Errorf("a round: %+v of %+v", got, p)
				}
			}
		}
	}
}

// P13.3 (1): a round's end makes High an eighth more, downwards, held at both edges; without one it stays, whatever it is.
func TestAckHigh(t *testing.T) {
	for _, state := range states() {
		for _, c := range [][2]uint64{
			{0, 2400}, {1, 2400}, {8, 2400}, {2132, 2400}, {2133, 2400}, {2134, 2400}, {2135, 2401}, {2136, 2403}, {2400, 2700}, {2407, 2707}, {2408, 2709}, {4266, 4799}, {4267, 4800}, {4799, 5398}, {4800, 5400}, {7000, 7875},
			{14913079, most - 3}, {14913080, most - 1}, {14913081, most}, {14913082, most}, {14913083, most}, {most - 1, most}, {most, most}, {most + 1, most}, {1 << 32, most}, {1 << 63, most},
			{top / 9 * 8, most}, {top/9*8 + 8, most}, {top/9*8 + 2000, most}, {top/9*8 + 20000, most}, {top - 3000, most}, {top - 1, most}, {top, most},
		} {
			p := path(state, 5000, 100)
			p.High, p.Since = c[0], top
			for _, limited := range []bool{false, true} {
				g := plain(5000)
				g.Limited = limited
				if got := Ack(p, g).High; got != c[0] {
					t.Errorf("no round: a High of %d of %d", got, c[0])
				}
				g.Round = true
				if got := Ack(p, g).High; got != c[1] {
					t.Errorf("a round: a High of %d of %d, want %d", got, c[0], c[1])
				}
			}
		}
	}
}

// P13.3 (2): a rate is put in, unless its sender had no more to send and it is below the best one.
func TestAckRates(t *testing.T) {
	old := []api.Sample{{At: 3, Value: 5000}, {At: 4, Value: 4000}}
	for _, c := range []struct {
		rate    uint64
		limited bool
		want    []api.Sample
	}{
		{0, false, []api.Sample{{At: 3, Value: 5000}, {At: 4, Value: 4000}, {At: 5, Value: 0}}},
		{3999, false, []api.Sample{{At: 3, Value: 5000}, {At: 4, Value: 4000}, {At: 5, Value: 3999}}},
		{4000, false, []api.Sample{{At: 3, Value: 5000}, {At: 5, Value: 4000}}},
		{4999, false, []api.Sample{{At: 3, Value: 5000}, {At: 5, Value: 4999}}},
		{5000, false, []api.Sample{{At: 5, Value: 5000}}},
		{5001, false, []api.Sample{{At: 5, Value: 5001}}},
		{top, false, []api.Sample{{At: 5, Value: top}}},
		{0, true, old}, {1, true, old}, {4000, true, old}, {4999, true, old},
		{5000, true, []api.Sample{{At: 5, Value: 5000}}},
		{5001, true, []api.Sample{{At: 5, Value: 5001}}},
		{top, true, []api.Sample{{At: 5, Value: top}}},
	} {
		for _, state := range states() {
			p := path(state, 0, 100)
			p.Rates, p.Since = old, top
			g := plain(c.rate)
			g.Limited = c.limited
			if got := Ack(p, g).Rates; !slices.Equal(got, c.want) {
				t.Errorf("Ack(%+v, %+v) has Rates %v, want %v", p, g, got, c.want)
			}
			for _, none := range [][]api.Sample{nil, {}} {
				p.Rates = none
				if got := Ack(p, g).Rates; !slices.Equal(got, []api.Sample{{At: 5, Value: c.rate}}) {
					t.Errorf("Ack(%+v, %+v) has Rates %v", p, g, got)
				}
			}
		}
	}
}

// P13.3 (2): a rate is believed for ten rounds, counted up to the one that ends now; what is not put in pushes nothing out.
func TestAckRatesWindow(t *testing.T) {
	for _, c := range []struct {
		at, rounds uint64
		round      bool
		stays      bool
	}{
		{1, 10, false, true}, {1, 11, false, true}, {1, 12, false, false}, {1, 9, true, true}, {1, 10, true, true}, {1, 11, true, false}, {1, top, false, false},
		{top - 10, top, false, true}, {top - 11, top, false, false}, {top - 10, top, true, true}, {top - 11, top - 1, true, false}, {top - 11, top - 2, true, true}, {top - 9, top, false, true}, {top, top, true, true}, {top, 3, true, true},
	} {
		p := path(2, 0, 100)
		p.Rates, p.Rounds, p.Since = []api.Sample{{At: c.at, Value: 9000}}, c.rounds, top
		g := plain(10)
		g.Round = c.round
		now := c.rounds
		if c.round {
			now = sum(now, 1)
		}
		want := []api.Sample{{At: c.at, Value: 9000}, {At: now, Value: 10}}
		if !c.stays {
			want = want[1:]
		}
		if got := Ack(p, g).Rates; !slices.Equal(got, want) {
			t.Errorf("Ack(%+v, %+v) has Rates %v, want %v", p, g, got, want)
		}
		g.Limited = true
		if got := Ack(p, g).Rates; !slices.Equal(got, p.Rates) {
			t.Errorf("Ack(%+v, %+v) has Rates %v, want %v", p, g, got, p.Rates)
		}
	}
}

// P13.3 (2): what a rate is held against is the first of Rates, also of a list that no calls would make.
func TestAckRatesFirst(t *testing.T) {
	p := path(2, 0, 100)
	p.Rates, p.Since = []api.Sample{{At: 5, Value: 20}, {At: 5, Value: 7000}}, top
	g := plain(20)
	g.Limited = true
	if got := Ack(p, g).Rates; !slices.Equal(got, []api.Sample{{At: 5, Value: 7000}, {At: 5, Value: 20}}) {
		t.Errorf("of 20: %v", got)
	}
	g.Rate = 19
	if got := Ack(p, g).Rates; !slices.Equal(got, p.Rates) {
		t.Errorf("of 19: %v", got)
	}
}

// P13.3 (3): a time that is 10000 old is stale: what an answer took counts then, be it more or less; the sum does not wrap.
func TestAckStale(t *testing.T) {
	for _, c := range []struct {
		at, now uint64
		stale   bool
	}{
		{0, 0, false}, {0, 9999, false}, {0, 10000, true}, {0, 10001, true}, {0, top, true}, {100, 99, false}, {100, 10099, false}, {100, 10100, true}, {100, 10101, true}, {5000, 0, false}, {1 << 63, 1<<63 + 9999, false}, {1 << 63, 1<<63 + 10000, true},
		{top - 10001, top - 2, false}, {top - 10001, top - 1, true}, {top - 10000, top - 1, false}, {top - 10000, top, true}, {top - 9999, top - 1, false}, {top - 9999, top, true}, {top - 9999, 0, false}, {top - 5000, 5000, false}, {top - 5000, top, true},
		{top, 0, false}, {top, 9998, false}, {top, 9999, false}, {top, 10000, false}, {top, top - 1, false}, {top, top, true},
	} {
		for _, state := range states() {
			for _, took := range []uint64{0, 99, 100, 101, 5000, top - 1, top} {
				p := path(state, 5000, 100)
				p.MinAt, p.Since = c.at, top
				got := Ack(p, api.Got{Now: c.now, Took: took, Rate: 5000, Flight: top})
				want := [2]uint64{100, c.at}
				if c.stale || took < 100 {
					want = [2]uint64{took, c.now}
				}
				if got.Min != want[0] || got.MinAt != want[1] {
					t.Errorf("of a MinAt of %d, a Now of %d, a Took of %d: %+v", c.at, c.now, took, got)
				}
			}
		}
	}
}

// P13.3 (3): what an answer took counts, if it is below Min; an equal one does not make Min younger; a Min that is none is above all others.
func TestAckMin(t *testing.T) {
	for _, c := range []struct {
		least, took uint64
		counts      bool
	}{
		{100, 0, true}, {100, 98, true}, {100, 99, true}, {100, 100, false}, {100, 101, false}, {100, top, false}, {0, 0, false}, {0, 1, false}, {0, top, false}, {1, 0, true},
		{top, 0, true}, {top, 100, true}, {top, 1 << 63, true}, {top, top - 1, true}, {top, top, false}, {top - 1, top, false}, {top - 1, top - 1, false}, {top - 1, top - 2, true},
	} {
		for _, state := range states() {
			for _, now := range []uint64{0, 1000, 1001, 10999} {
				p := path(state, 5000, c.least)
				p.Since = top
				got := Ack(p, api.Got{Now: now, Took: c.took, Rate: 5000, Flight: top})
				want := [2]uint64{c.least, 1000}
				if c.counts {
					want = [2]uint64{c.took, now}
				}
				if got.Min != want[0] || got.MinAt != want[1] {
					t.Errorf("of a Min of %d, a Took of %d: %+v", c.least, c.took, got)
				}
				// Of a time that is stale, each counts.
				got = Ack(p, api.Got{Now: 11000, Took: c.took, Rate: 5000, Flight: top})
				if got.Min != c.took || got.MinAt != 11000 {
					t.Errorf("stale, of a Min of %d, a Took of %d: %+v", c.least, c.took, got)
				}
			}
		}
	}
}

// inRound is a Got of a round that a sender had enough to send in.
func inRound(rate uint64) api.Got {
	return api.Got{Now: 2000, Took: 100, Rate: rate, Flight: top, Round: true}
}

// P13.3 (4): a start that finds a rate of at least Full and a fourth of it goes on from there; one that does not is still, and the third time it is over.
func TestAckStart(t *testing.T) {
	for _, c := range []struct {
		best, full uint64
		rises      bool
	}{
		{124999, 100000, false}, {125000, 100000, true}, {125001, 100000, true}, {100000, 100000, false}, {0, 0, false}, {1, 0, true}, {1, 1, true}, {1, 2, false}, {2, 1, true}, {3, 3, true}, {2, 3, false}, {4, 3, true}, {4, 4, false}, {5, 4, true}, {8, 7, true}, {7, 7, false}, {9, 8, false}, {10, 8, true},
		{0, 1, false}, {0, top, false}, {top, 0, true}, {top, 14757395258967641292, true}, {top, 14757395258967641293, true}, {top - 1, 14757395258967641292, false}, {top - 1, 14757395258967641291, true}, {top - 1, top, false}, {top, top, true}, {top, 1 << 63, true}, {1 << 63, 1 << 63, false}, {1 << 62, top, false}, {1 << 62, top - 5, false},
	} {
		for _, still := range []struct {
			is, next uint64
			over     bool
		}{{0, 1, false}, {1, 2, false}, {2, 3, true}, {3, 4, false}, {4, 5, false}, {1 << 63, 1<<63 + 1, false}, {top - 1, top, false}, {top, top, false}} {
			for _, rates := range [][]api.Sample{nil, {{At: 5, Value: c.best}}} {
				p := path(0, 0, 100)
				p.Rates, p.Full, p.Still = rates, c.full, still.is
				want := p
				want.Rounds, want.Rates = 6, []api.Sample{{At: 6, Value: c.best}}
				want.Full, want.Still = c.best, 0
				if !c.rises {
					want.Full, want.Still = c.full, still.next
				}
				if !c.rises && still.over {
					want.State = 1
				}
				checkAck(t, p, inRound(c.best), want)
			}
		}
	}
}

// P13.3 (4): a start asks nothing, but at a round's end, and of a sender that had enough to send.
func TestAckStartAsks(t *testing.T) {
	for _, full := range []uint64{0, 100, 5000, 9000, top} {
		for _, still := range []uint64{0, 1, 2, 3, top} {
			for _, g := range []api.Got{{Round: true, Limited: true}, {Limited: true}, {}} {
				g.Now, g.Took, g.Rate = 2000, 100, 5000
				p := path(0, 5000, 100)
				p.Full, p.Still = full, still
				got := Ack(p, g)
				if got.State != 0 || got.Full != full || got.Still != still || got.Since != 2000 || got.Phase != 6 {
					t.Errorf("Ack(%+v, %+v) = %+v", p, g, got)
				}
			}
		}
	}
}

// P13.3 (4): a start that is over leaves Phase, Since, Full and Still as they are, and is not drained at that step.
func TestAckStartEnds(t *testing.T) {
	for _, now := range []uint64{0, 1999, 2100, 10999} {
		for _, flight := range []uint64{0, 1, 500, top} {
			p := path(0, 5000, 100)
			p.Full, p.Still = 4001, 2
			want := p
			want.State, want.Still, want.Rounds, want.Rates = 1, 3, 6, []api.Sample{{At: 6, Value: 5000}}
			checkAck(t, p, api.Got{Now: now, Took: 100, Flight: flight, Rate: 5000, Round: true}, want)
		}
	}
}

// P13.3 (4): a drain is over where no more is under way than the path holds.
func TestAckDrain(t *testing.T) {
	for _, c := range []struct {
		rate, least, flight uint64
		over                bool
	}{
		{100000, 100, 0, true}, {100000, 100, 9999, true}, {100000, 100, 10000, true}, {100000, 100, 10001, false}, {100000, 100, 20000, false}, {100000, 100, top, false},
		{999, 1, 0, true}, {999, 1, 1, false}, {100000, 0, 0, true}, {100000, 0, 1, false}, {0, 100, 0, true}, {0, 100, 1, false}, {100000, top, 0, true}, {100000, top, 1, false}, {100000, top, 1 << 32, false},
		{top, 1000, top, true}, {top, 1000, top - 1, true}, {top, 999, top, false}, {top, 999, 18428297329635842063, true}, {top, 999, 18428297329635842064, false}, {top, 2000, top, true},
	} {
		for _, round := range []bool{false, true} {
			for _, limited := range []bool{false, true} {
				for _, now := range []uint64{0, 1999, 2000, 2001, 10999} {
					p := path(1, c.rate, c.least)
					want := p
					want.Rates = []api.Sample{{At: 5, Value: c.rate}}
					if round {
						want.Rounds, want.Rates = 6, []api.Sample{{At: 6, Value: c.rate}}
					}
					if c.over {
						want.State, want.Phase, want.Since = 2, 0, now
					}
					checkAck(t, p, api.Got{Now: now, Took: c.least, Rate: c.rate, Flight: c.flight, Round: round, Limited: limited}, want)
				}
			}
		}
	}
}

// P13.3 (4): a phase takes at least Min, also 0; the sum does not wrap, nor does Phase.
func TestAckCycle(t *testing.T) {
	for _, c := range []struct {
		since, least, now uint64
		next              bool
	}{
		{2000, 100, 2098, false}, {2000, 100, 2099, false}, {2000, 100, 2100, true}, {2000, 100, 2101, true}, {2000, 100, 2000, false}, {2000, 100, 0, false}, {2000, 0, 1999, false}, {2000, 0, 2000, true}, {2000, 0, 2001, true}, {0, 0, 0, true}, {0, 100, 99, false}, {0, 100, 100, true},
		{top, 0, top - 1, false}, {top, 100, 98, false}, {top, 100, 99, false}, {top, 100, 100, false}, {top, 100, top - 1, false}, {top - 100, 100, top - 1, false}, {top - 101, 100, top - 2, false}, {top - 101, 100, top - 1, true}, {top - 99, 100, 0, false}, {top - 99, 100, top - 1, false},
		{2000, top, 1999, false}, {2000, top, 2000, false}, {2000, top, top - 1, false}, {0, top, top - 1, false}, {0, top - 1, top - 1, true}, {2000, top - 2000, top - 1, false}, {2000, top - 2001, top - 1, true}, {1 << 63, 1 << 63, 0, false}, {1 << 63, 1 << 63, top - 1, false}, {1 << 63, 1<<63 - 2, top - 1, true},
	} {
		for _, phase := range [][2]uint64{{0, 1}, {1, 2}, {6, 7}, {7, 8}, {8, 9}, {1<<63 - 1, 1 << 63}, {top - 1, top}, {top, top}} {
			for _, flight := range []uint64{0, top} {
				p := path(2, 5000, c.least)
				p.MinAt, p.Since, p.Phase = c.now, c.since, phase[0]
				want := p
				if c.next {
					want.Phase, want.Since = phase[1], c.now
				}
				checkAck(t, p, api.Got{Now: c.now, Took: c.least, Rate: 5000, Flight: flight}, want)
			}
		}
	}
}

// P13.3 (4): a time that is stale makes ProbeLow of ProbeCycle, whether a phase is over or not; at the greatest Now each one is.
func TestAckCycleStale(t *testing.T) {
	for _, c := range []struct {
		at, since, now uint64
		state          int
		phase          uint64
	}{
		{1000, 2000, 10999, 2, 7}, {1000, 2000, 11000, 3, 6}, {1000, 2000, 11001, 3, 6}, {1000, 10900, 10999, 2, 6}, {1000, 10900, 11000, 3, 6}, {1000, 10901, 11000, 3, 6}, {1000, top, 11000, 3, 6}, {0, 0, 10000, 3, 6}, {0, 0, 9999, 2, 7},
		{top, 2000, 11000, 2, 7}, {top - 9999, 2000, 11000, 2, 7}, {top - 10001, 2000, top - 2, 2, 7}, {top - 10001, 2000, top - 1, 3, 6}, {top - 10000, 2000, top - 1, 2, 7},
		{top - 10000, 2000, top, 3, 6}, {top - 1, 2000, top, 3, 6}, {top, 2000, top, 3, 6}, {top, top, top, 3, 6}, {top, top - 50, top, 3, 6},
	} {
		for _, took := range []uint64{100, 130, top} {
			p := path(2, 5000, 100)
			p.MinAt, p.Since = c.at, c.since
			got := Ack(p, api.Got{Now: c.now, Took: took, Rate: 5000})
			since := c.now
			if c.state == 2 && c.phase == 6 {
				since = c.since
			}
			if got.State != c.state || got.Phase != c.phase || got.Since != since {
				t.Errorf("of %+v at %d: %+v", p, c.now, got)
			}
		}
	}
	// What is below Min makes no other State, be it never so young.
	p := path(2, 5000, 100)
	want := p
	want.Min, want.MinAt = 99, 2000
	checkAck(t, p, api.Got{Now: 2000, Took: 99, Rate: 5000}, want)
}

// P13.3 (4): little is under way for 200 ms; then the cycle goes on by its third phase. The sum does not wrap.
func TestAckLow(t *testing.T) {
	for _, c := range []struct {
		since, now uint64
		over       bool
	}{
		{2000, 2199, false}, {2000, 2200, true}, {2000, 2201, true}, {2000, 2000, false}, {2000, 1999, false}, {2000, 0, false}, {2000, 10999, true}, {2000, 11000, true}, {2000, top, true}, {0, 199, false}, {0, 200, true}, {1 << 63, 1<<63 + 199, false}, {1 << 63, 1<<63 + 200, true},
		{top, 0, false}, {top, 198, false}, {top, 199, false}, {top, 200, false}, {top, top - 1, false}, {top, top, true}, {top - 1, 198, false}, {top - 199, 0, false}, {top - 199, top - 1, false}, {top - 199, top, true}, {top - 200, top - 1, false}, {top - 200, top, true}, {top - 201, top - 2, false}, {top - 201, top - 1, true},
	} {
		for _, phase := range []uint64{0, 2, 6, 7, top} {
			for _, at := range []uint64{0, 1000, top} {
				p := path(3, 5000, 100)
				p.MinAt, p.Since, p.Phase = at, c.since, phase
				got := Ack(p, api.Got{Now: c.now, Took: 130, Rate: 5000, Flight: top})
				state, phase, since := 3, phase, c.since
				if c.over {
					state, phase, since = 2, 2, c.now
				}
				if got.State != state || got.Phase != phase || got.Since != since {
					t.Errorf("of %+v at %d: %+v", p, c.now, got)
				}
			}
		}
	}
}

// P13.3 (4): a time that is stale makes no other State of those that are not ProbeCycle.
func TestAckStaleElsewhere(t *testing.T) {
	for _, state := range others(2) {
		for _, round := range []bool{false, true} {
			p := path(state, 5000, 100)
			p.Since, p.Full = 11000-199, 0
			got := Ack(p, api.Got{Now: 11000, Took: 130, Rate: 5000, Flight: top, Round: round})
			if got.State != state || got.Phase != 6 || got.Since != 11000-199 || got.Min != 130 || got.MinAt != 11000 {
				t.Errorf("of the State %d: %+v", state, got)
			}
		}
	}
}

// P13.3 (4): of a State that is none, none is made, and the steps ahead of that are done.
func TestAckOtherStates(t *testing.T) {
	for _, state := range []int{-1, 4, 5, 1<<63 - 1, -1 << 63} {
		for _, now := range []uint64{0, 2100, 11000, top} {
			for _, flight := range []uint64{0, top} {
				p := path(state, 5000, 100)
				p.High = 4800
				want := p
				want.Rounds, want.High, want.Rates, want.Min, want.MinAt = 6, 5400, []api.Sample{{At: 5, Value: 5000}, {At: 6, Value: 4999}}, 99, now
				checkAck(t, p, api.Got{Now: now, Took: 99, Rate: 4999, Flight: flight, Round: true}, want)
			}
		}
	}
}

// P13.3: of (4) just the one of the State as it begins is done, though the next one's would hold too.
func TestAckOneState(t *testing.T) {
	for _, c := range []struct{ state, then int }{{0, 1}, {1, 2}, {2, 3}, {3, 2}} {
		p := path(c.state, 5000, 0)
		p.Full, p.Still, p.Since = 5000, 2, 0
		got := Ack(p, api.Got{Now: 11000, Took: 0, Rate: 5000, Round: true})
		want := [2]uint64{6, 11000}
		switch c.state {
		case 0:
			want[1] = 0
		case 1:
			want[0] = 0
		case 3:
			want[0] = 2
		}
		if got.State != c.then || got.Phase != want[0] || got.Since != want[1] {
			t.Errorf("of the State %d: %+v", c.state, got)
		}
	}
}

// P13.3: the second step sees the new Rounds, by which a sample is in the window no more, and the new one's time is told.
func TestAckSeesRounds(t *testing.T) {
	p := path(2, 0, 100)
	p.Rates, p.Rounds = []api.Sample{{At: 10, Value: 9000}, {At: 11, Value: 8000}}, 20
	g := api.Got{Now: 2000, Took: 100, Rate: 10}
	if got := Ack(p, g).Rates; !slices.Equal(got, []api.Sample{{At: 10, Value: 9000}, {At: 11, Value: 8000}, {At: 20, Value: 10}}) {
		t.Errorf("no round: %v", got)
	}
	g.Round = true
	if got := Ack(p, g).Rates; !slices.Equal(got, []api.Sample{{At: 11, Value: 8000}, {At: 21, Value: 10}}) {
		t.Errorf("a round: %v", got)
	}
}

// P13.3: the fourth step sees the new best rate, be it greater or less.
func TestAckSeesRate(t *testing.T) {
	p := path(0, 1000, 100)
	p.Full = 1000
	if got := Ack(p, inRound(1250)); got.Full != 1250 || got.Still != 0 {
		t.Errorf("a rate that rises: %+v", got)
	}
	p.Rates, p.Rounds = []api.Sample{{At: 5, Value: 4000}, {At: 12, Value: 1300}}, 15
	if got := Ack(p, inRound(1200)); got.Full != 1300 || got.Still != 0 {
		t.Errorf("a rate that falls to what it was since: %+v", got)
	}
	p.Rates = []api.Sample{{At: 5, Value: 4000}}
	if got := Ack(p, inRound(1200)); got.Full != 1000 || got.Still != 2 {
		t.Errorf("a rate that falls: %+v", got)
	}
	p = path(1, 1000, 100)
	for _, c := range []struct {
		rate, flight uint64
		state        int
	}{{1000, 100, 2}, {1000, 101, 1}, {2000, 101, 2}, {2000, 200, 2}, {2000, 201, 1}} {
		if got := Ack(p, api.Got{Now: 2000, Took: 100, Rate: c.rate, Flight: c.flight}).State; got != c.state {
			t.Errorf("of a rate of %d, a flight of %d: the State %d", c.rate, c.flight, got)
		}
	}
	p.Rounds = 16
	for _, c := range []struct {
		flight uint64
		state  int
	}{{50, 2}, {51, 1}, {100, 1}} {
		if got := Ack(p, api.Got{Now: 2000, Took: 100, Rate: 500, Flight: c.flight}).State; got != c.state {
			t.Errorf("of a rate that falls, a flight of %d: the State %d", c.flight, got)
		}
	}
}

// P13.3: the fourth step sees the new Min, be it less, or more than a stale one.
func TestAckSeesMin(t *testing.T) {
	p := path(1, 100000, 100)
	for _, c := range []struct {
		now, took, flight uint64
		state             int
	}{
		{2000, 100, 10000, 2}, {2000, 50, 10000, 1}, {2000, 50, 5001, 1}, {2000, 50, 5000, 2}, {2000, 200, 10001, 1}, {11000, 200, 10001, 2}, {11000, 200, 20000, 2}, {11000, 200, 20001, 1}, {11000, top, 1, 1}, {11000, top, 0, 2}, {2000, 0, 1, 1}, {2000, 0, 0, 2},
	} {
		if got := Ack(p, api.Got{Now: c.now, Took: c.took, Rate: 100000, Flight: c.flight}).State; got != c.state {
			t.Errorf("a drain, of %+v: the State %d", c, got)
		}
	}
	p = path(2, 100000, 100)
	for _, c := range []struct{ now, took, phase uint64 }{{2099, 100, 6}, {2099, 99, 7}, {2098, 99, 6}, {2050, 50, 7}, {2049, 50, 6}, {2000, 0, 7}, {1999, 0, 6}} {
		if got := Ack(p, api.Got{Now: c.now, Took: c.took, Rate: 100000}).Phase; got != c.phase {
			t.Errorf("a cycle, of %+v: the Phase %d", c, got)
		}
	}
	p.Min = top
	if got := Ack(p, api.Got{Now: 2100, Took: 100, Rate: 100000}); got.Phase != 7 || got.Min != 100 {
		t.Errorf("the first time: %+v", got)
	}
}

// P13.3: of a Got, its Bytes, At, Number and Next are not asked.
func TestAckAsksNoMore(t *testing.T) {
	for i, p := range models() {
		g := api.Got{Now: p.Since + 100, Took: 100, Rate: 4000, Flight: 5000, Round: i%2 == 0, Limited: i%3 == 0}
		want := acked(p, g)
		g.Bytes, g.At, g.Number, g.Next = top, 9, 8, 7
		checkAck(t, p, g, want)
	}
}

// got is what a sender may learn of a model that stands at the edges of what it asks.
func (q *sequence) got(p api.Probe) api.Got {
	all, best := fewEdges(), bestOf(p.Rates)
	at := p.MinAt + 9999
	over := p.Since + p.Min - 1
	holds := holds(p, 256)
	return api.Got{
		Now:     q.of(q.of(all...), at, at+1, at+2, over, over+1, over+2, p.Since+199, p.Since+200, p.Since+201),
		Took:    q.of(q.of(all...), p.Min-1, p.Min, p.Min+1, p.Min),
		Rate:    q.of(q.of(all...), best-1, best, best+1, p.Full/4+p.Full-1, p.Full/4+p.Full, p.Full/4+p.Full+1),
		Flight:  q.of(q.of(all...), holds-1, holds, holds+1),
		Round:   q.below(2) == 0,
		Limited: q.below(3) == 0,
	}
}

// P13.3: whatever the model is, what is answered is what the chapter's words say.
func TestAckAgainstTheWords(t *testing.T) {
	q := sequence(3)
	for _, p := range models() {
		for range 60 {
			g := q.got(p)
			checkAck(t, p, g, acked(p, g))
			p.Full, p.Still = q.of(p.Full, bestOf(p.Rates)/5*4, bestOf(p.Rates)), q.of(0, 1, 2, 3, p.Still)
			p.MinAt, p.Since, p.Rounds = q.of(p.MinAt, 0, 1000, top-10000), q.of(p.Since, 0, 1000, top-300), q.of(p.Rounds, 10, 11, 15)
		}
	}
}

// P13.4: High becomes seven parts of ten of what is under way, downwards, held at both edges, where that is less; the product has 128 bits.
func TestLoss(t *testing.T) {
	for _, c := range [][2]uint64{
		{0, 2400}, {1, 2400}, {2400, 2400}, {3427, 2400}, {3428, 2400}, {3429, 2400}, {3430, 2401}, {3431, 2401}, {3432, 2402}, {10000, 7000}, {10001, 7000}, {10002, 7001},
		{23967449, most - 2}, {23967450, most - 1}, {23967451, most - 1}, {23967452, most}, {23967453, most}, {1 << 32, most}, {1 << 63, most}, {top / 7, most}, {top/7 + 1, most}, {top/7*2 + 900, most}, {top - 1, most}, {top, most},
	} {
		for _, state := range states() {
			for _, high := range []uint64{0, 1, 2399, 2400, 2401, 4800, c[1] - 1, c[1], c[1] + 1, most - 1, most, most + 1, 1 << 63, top} {
				p := path(state, 5000, 100)
				p.High = high
				want := p
				want.High = min(high, c[1])
				checkLoss(t, p, c[0], want)
			}
		}
	}
}

// P13.4: whatever the model is, what is answered is what the chapter's words say.
func TestLossAgainstTheWords(t *testing.T) {
	for _, p := range models() {
		for _, flight := range append(edges(), p.High, p.High/7*10, p.High/7*10+9) {
			checkLoss(t, p, flight, lost(p, flight))
		}
	}
}

// spared is a list with room behind it, whose members are told too.
func spared(l []api.Sample) []api.Sample {
	out := append(slices.Clone(l), api.Sample{At: 71, Value: 72}, api.Sample{At: 73, Value: 74}, api.Sample{At: 75, Value: 76})
	return out[:len(l)]
}

// R4: Rates that are handed in stay as they were, their spare room too, and what is answered shares none of it.
func TestMemory(t *testing.T) {
	q := sequence(4)
	for _, p := range models() {
		p.Rates = spared(p.Rates)
		whole := p.Rates[:cap(p.Rates)]
		before := slices.Clone(whole)
		g := q.got(p)
		calls := []func(api.Probe) api.Probe{
			func(p api.Probe) api.Probe { return Ack(p, g) },
			func(p api.Probe) api.Probe { return Ack(p, api.Got{Now: 5, Limited: true}) },
			func(p api.Probe) api.Probe { return Loss(p, 10000) },
		}
		for i, call := range calls {
			answer := call(p)
			kept := slices.Clone(answer.Rates)
			for j := range whole {
				whole[j].Value += 5
			}
			if !slices.Equal(answer.Rates, kept) {
				t.Errorf("call %d of %+v: what is answered changes with what was handed in", i, p)
			}
			copy(whole, before)
			clear(answer.Rates[:cap(answer.Rates)])
			if !slices.Equal(whole, before) {
				t.Errorf("call %d of %+v: what was handed in changes with what is answered", i, p)
				copy(whole, before)
			}
		}
		Product(p, 256)
		Window(p)
		Rate(p)
		if !slices.Equal(whole, before) {
			t.Errorf("what was handed in was changed: %v, was %v", whole, before)
		}
	}
}

// R5: what is answered does not hang on the room that Rates have, nor on whether a list without elements is nil.
func TestRoom(t *testing.T) {
	q := sequence(5)
	for _, p := range models() {
		g := q.got(p)
		with := p
		with.Rates = spared(p.Rates)
		if !same(Ack(p, g), Ack(with, g)) || !same(Loss(p, g.Flight), Loss(with, g.Flight)) || Window(p) != Window(with) || Rate(p) != Rate(with) || Product(p, 739) != Product(with, 739) {
			t.Errorf("of %+v with room: %+v", p, Ack(with, g))
		}
		if len(p.Rates) > 0 {
			continue
		}
		empty, none := p, p
		empty.Rates, none.Rates = []api.Sample{}, nil
		if !same(Ack(empty, g), Ack(none, g)) || !same(Loss(empty, g.Flight), Loss(none, g.Flight)) || Window(empty) != Window(none) || Rate(empty) != Rate(none) {
			t.Errorf("of %+v without Rates", p)
		}
	}
}

// checkFollows holds P13.5 of one step: the windows' edges, and that no start comes again.
func checkFollows(t *testing.T, from, to api.Probe) {
	t.Helper()
	if w := Window(to); w < floor || w > most {
		t.Errorf("a window of %d: %+v", w, to)
	}
	if from.State != 0 && to.State == 0 {
		t.Errorf("a start again: %+v behind %+v", to, from)
	}
}

// P13.5: by many calls, windows are within Floor and Cap, no loss lets one rise, what was begun to be drained never starts again; and each step is what the chapter's words say.
func TestFollows(t *testing.T) {
	seen := [4]int{}
	for seed := range uint64(300) {
		q := sequence(seed)
		now := q.of(0, 5, 1<<63, top-60000, top)
		p := New(now)
		fastest := q.of(1, 900, 20000, 1000000, 1<<40, top)
		for range 300 {
			from := p
			if q.below(8) == 0 {
				flight := q.of(0, 3000, Window(p), q.below(1<<25), top)
				p = Loss(from, flight)
				if !same(p, lost(from, flight)) {
					t.Fatalf("Loss(%+v, %d) = %+v", from, flight, p)
				}
				if Window(p) > Window(from) || Rate(p) != Rate(from) {
					t.Errorf("a loss lets a window rise: %+v behind %+v", p, from)
				}
			} else {
				now = sum(now, q.of(0, 1, 30, 120, 250, 3000))
				g := api.Got{Now: now, Took: q.of(30, 100, 100+q.below(100), 5000), Rate: fastest/2 + q.below(fastest/2+1), Flight: q.of(0, Window(p), q.below(1<<20)), Round: q.below(2) == 0, Limited: q.below(4) == 0}
				p = Ack(from, g)
				if !same(p, acked(from, g)) {
					t.Fatalf("Ack(%+v, %+v) = %+v", from, g, p)
				}
			}
			checkFollows(t, from, p)
			if w := wide(p); Window(p) != w || Rate(p) != fast(p) {
				t.Errorf("of %+v: %d, %d", p, Window(p), Rate(p))
			}
			seen[p.State]++
		}
	}
	for state, n := range seen {
		if n == 0 {
			t.Errorf("no call was in the State %d", state)
		}
	}
}

// P13.5: no loss lets a window rise, of a model that no calls would make either; and no State becomes ProbeStart.
func TestFollowsOfAny(t *testing.T) {
	q := sequence(6)
	for _, p := range models() {
		for _, high := range []uint64{p.High, 2399, 2400, 3000, 4799, 4800, 4801, 12000, most, top} {
			p.High = high
			for _, flight := range []uint64{0, 3429, 6000, 6856, 6857, 6858, 17000, q.below(1 << 25), top} {
				less := Loss(p, flight)
				if Window(less) > Window(p) {
					t.Errorf("Loss(%+v, %d) = %+v: a window of %d, behind one of %d", p, flight, less, Window(less), Window(p))
				}
				if high >= floor {
					checkFollows(t, p, less)
				}
			}
			if next := Ack(p, q.got(p)); high >= floor {
				checkFollows(t, p, next)
			} else if p.State != 0 && next.State == 0 {
				t.Errorf("a start again: %+v behind %+v", next, p)
			}
		}
	}
}

// P13.3 to P13.5: a whole course: a start that doubles, is still for three rounds, is drained, goes through its phases, and looks for the least time each ten seconds.
func TestCourse(t *testing.T) {
	now, p := uint64(0), New(0)
	round := func(rate, flight uint64) {
		now += 100
		p = Ack(p, api.Got{Now: now, Took: 100, Rate: rate, Flight: flight, Round: true})
	}
	for _, rate := range []uint64{120000, 240000, 480000, 500000, 500000} {
		round(rate, 1<<20)
		checkRate(t, p, rate*739/256)
		if p.State != 0 {
			t.Fatalf("%+v", p)
		}
	}
	round(500000, 1<<20)
	checkRate(t, p, 173828)
	checkWindow(t, p, 100000)
	round(500000, 50001)
	if p.State != 1 {
		t.Fatalf("%+v", p)
	}
	round(500000, 50000)
	for phase := range uint64(92) {
		if p.State != 2 || p.Phase != phase {
			t.Fatalf("%+v, want the Phase %d", p, phase)
		}
		checkRate(t, p, 500000*[]uint64{320, 192, 256, 256, 256, 256, 256, 256}[phase%8]/256)
		round(500000, 50000)
	}
	// The first answer came at 100, and so a Min that none was below since is stale at 10100.
	if now != 10000 || p.State != 2 || p.MinAt != 100 {
		t.Fatalf("%+v at %d", p, now)
	}
	round(500000, 50000)
	if p.State != 3 || p.Since != 10100 || p.MinAt != 10100 {
		t.Fatalf("%+v", p)
	}
	checkWindow(t, p, 4800)
	checkRate(t, p, 500000)
	round(500000, 4800)
	checkWindow(t, p, 4800)
	round(500000, 4800)
	if p.State != 2 || p.Phase != 2 || p.Since != 10300 {
		t.Fatalf("%+v", p)
	}
	checkWindow(t, p, 100000)
	// A loss cuts the window, which each round lets come back by an eighth.
	p = Loss(p, 50000)
	for _, want := range []uint64{35000, 39375, 44296, 49833, 56062, 63069, 70952, 79821, 89798, 100000, 100000} {
		checkWindow(t, p, want)
		round(500000, 50000)
	}
}
