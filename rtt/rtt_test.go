package rtt

import (
	"math"
	"math/big"
	"testing"

	"wigwag/api"
)

const top = 1<<64 - 1

// has is an estimate that has.
func has(latest, least, smooth, spread uint64) api.Rtt {
	return api.Rtt{Has: true, Latest: latest, Min: least, Smooth: smooth, Var: spread}
}

// hasNot are the same numbers, of an estimate that has not.
func hasNot(r api.Rtt) api.Rtt {
	r.Has = false
	return r
}

// edges are numbers at which quotients by 2, 4 and 8 turn, and sums and products wrap.
func edges() []uint64 {
	out := []uint64{25, 99, 100, 101, 165, 166, 167, 332, 333, 334, 1000}
	for n := uint64(0); n <= 17; n++ {
		out = append(out, n)
	}
	for _, n := range []uint64{1 << 32, top / 5, 1 << 54, 1 << 61, 1 << 62, 1 << 63, top/9*8 + 6} {
		out = append(out, n-1, n, n+1)
	}
	return append(out, top-8, top-7, top-2, top-1, top)
}

// fewEdges are some of them, for what asks for many numbers at once.
func fewEdges() []uint64 {
	return []uint64{0, 1, 7, 8, 9, 100, 333, 1 << 54, 1 << 62, 1<<63 + 3, top - 8, top - 1, top}
}

// estimates are hand-made ones: their numbers need not be those of any samples.
func estimates() []api.Rtt {
	var out []api.Rtt
	few := fewEdges()
	for i, latest := range few {
		for _, smooth := range few {
			for j, spread := range few {
				out = append(out, has(latest, few[(i+j)%len(few)], smooth, spread))
			}
		}
	}
	return out
}

func large(n uint64) *big.Int { return new(big.Int).SetUint64(n) }

// fitted is a number of any size, or the greatest one of 64 bits.
func fitted(n *big.Int) uint64 {
	if !n.IsUint64() {
		return top
	}
	return n.Uint64()
}

// sum is one that does not wrap.
func sum(of ...uint64) uint64 {
	all := new(big.Int)
	for _, n := range of {
		all.Add(all, large(n))
	}
	return fitted(all)
}

// product is one that does not wrap.
func product(a, b uint64) uint64 { return fitted(new(big.Int).Mul(large(a), large(b))) }

// updated is P8.1, word by word.
func updated(r api.Rtt, sample, delay, most uint64) api.Rtt {
	if !r.Has {
		return has(sample, sample, sample, sample/2)
	}
	if most < delay {
		delay = most
	}
	out := has(sample, r.Min, 0, 0)
	if sample < r.Min {
		out.Min = sample
	}
	if sample >= sum(out.Min, delay) {
		sample -= delay
	}
	far := new(big.Int).Sub(large(r.Smooth), large(sample))
	out.Var = sum(r.Var-r.Var/4, far.Abs(far).Uint64()/4)
	out.Smooth = sum(r.Smooth-r.Smooth/8, sample/8)
	return out
}

// awaited is P8.2, word by word.
func awaited(r api.Rtt, most uint64, count int) uint64 {
	smooth, spread := r.Smooth, product(4, r.Var)
	if !r.Has {
		smooth, spread = 333, 664
	}
	if spread == 0 {
		spread = 1
	}
	times := uint64(1)
	for i := 0; i < count && i < 10; i++ {
		times *= 2
	}
	return product(sum(smooth, spread, most), times)
}

// lateBy is P8.3, word by word.
func lateBy(r api.Rtt) uint64 {
	if !r.Has {
		return 374
	}
	round := r.Smooth
	if r.Latest > round {
		round = r.Latest
	}
	if out := sum(round, round/8); out > 1 {
		return out
	}
	return 1
}

func checkUpdate(t *testing.T, r api.Rtt, sample, delay, most uint64, want api.Rtt) {
	t.Helper()
	if got := Update(r, sample, delay, most); got != want {
		t.Errorf("Update(%+v, %d, %d, %d) = %+v, want %+v", r, sample, delay, most, got, want)
	}
}

func checkTimeout(t *testing.T, r api.Rtt, most uint64, count int, want uint64) {
	t.Helper()
	if got := Timeout(r, most, count); got != want {
		t.Errorf("Timeout(%+v, %d, %d) = %d, want %d", r, most, count, got, want)
	}
}

func checkLate(t *testing.T, r api.Rtt, want uint64) {
	t.Helper()
	if got := Late(r); got != want {
		t.Errorf("Late(%+v) = %d, want %d", r, got, want)
	}
}

// P8.1 to P8.3: the chapter's examples.
func TestExamples(t *testing.T) {
	var none api.Rtt
	first := has(100, 100, 100, 50)
	checkUpdate(t, none, 100, 0, 25, first)
	checkUpdate(t, first, 150, 10, 25, has(150, 100, 105, 48))
	checkTimeout(t, none, 25, 0, 1022)
	checkLate(t, none, 374)
}

// P8.1: the first sample is all that is known, whatever its delay is, and whatever an estimate that has not tells.
func TestUpdateFirst(t *testing.T) {
	for _, c := range []struct{ sample, spread uint64 }{
		{0, 0}, {1, 0}, {2, 1}, {3, 1}, {100, 50}, {333, 166}, {top - 1, top / 2}, {top, top / 2},
	} {
		want := has(c.sample, c.sample, c.sample, c.spread)
		for _, delay := range []uint64{0, 1, 25, 100, top} {
			for _, most := range []uint64{0, 1, 25, top} {
				checkUpdate(t, api.Rtt{}, c.sample, delay, most, want)
				checkUpdate(t, api.Rtt{Latest: 333, Smooth: 333, Var: 166}, c.sample, delay, most, want)
			}
		}
		for _, r := range estimates() {
			checkUpdate(t, hasNot(r), c.sample, 10, 25, want)
		}
	}
}

// P8.1: an estimate that has is one, though its numbers are those of nothing, or those that are taken where nothing is known.
func TestUpdateOfOneThatHas(t *testing.T) {
	checkUpdate(t, has(0, 0, 0, 0), 100, 0, 0, has(100, 0, 12, 25))
	checkUpdate(t, has(333, 0, 333, 166), 100, 0, 0, has(100, 0, 304, 183))
	checkUpdate(t, has(333, 333, 333, 166), 333, 0, 0, has(333, 333, 333, 125))
}

// P8.1: samples of 0, of 1 and of the greatest number.
func TestUpdateSamples(t *testing.T) {
	r := has(90, 80, 100, 50)
	checkUpdate(t, r, 0, 0, 0, has(0, 0, 88, 63))
	checkUpdate(t, r, 0, 10, 25, has(0, 0, 88, 63))
	checkUpdate(t, r, 1, 0, 0, has(1, 1, 88, 62))
	checkUpdate(t, r, 1, 1, 25, has(1, 1, 88, 62))
	checkUpdate(t, r, top, 0, 0, has(top, 80, 88+top/8, 38+(top-100)/4))
	checkUpdate(t, r, top, 10, 25, has(top, 80, 88+(top-10)/8, 38+(top-110)/4))
	checkUpdate(t, r, top, top, top, has(top, 80, 88, 63))
	checkUpdate(t, r, 79, 0, 0, has(79, 79, 97, 43))
	checkUpdate(t, r, 80, 0, 0, has(80, 80, 98, 43))
	checkUpdate(t, r, 81, 0, 0, has(81, 80, 98, 42))
}

// P8.1: what is taken off is the lesser of delay and most.
func TestUpdateDelays(t *testing.T) {
	r := has(100, 40, 100, 48)
	// By the sample that is left: 180, 172, 164.
	none, some, more := has(180, 40, 110, 56), has(180, 40, 109, 54), has(180, 40, 108, 52)
	for _, c := range []struct {
		delay, most uint64
		want        api.Rtt
	}{
		{0, 0, none}, {0, 16, none}, {16, 0, none}, {0, top, none}, {top, 0, none},
		{8, 16, some}, {8, 9, some}, {8, 8, some}, {9, 8, some}, {16, 8, some}, {top, 8, some}, {8, top, some},
		{16, 16, more}, {17, 16, more}, {16, 17, more}, {140, 16, more}, {top, 16, more}, {16, top, more},
	} {
		checkUpdate(t, r, 180, c.delay, c.most, c.want)
	}
}

// P8.1: a delay is taken off, if what is left is no less than the new Min: of a sample just at that, one below it, and one above it; else nothing of it is.
func TestUpdateDelayAtMin(t *testing.T) {
	r := has(100, 64, 64, 0)
	checkUpdate(t, r, 96, 32, 32, has(96, 64, 64, 0))
	checkUpdate(t, r, 95, 32, 32, has(95, 64, 67, 7))
	checkUpdate(t, r, 97, 32, 32, has(97, 64, 64, 0))
	checkUpdate(t, r, 96, 33, 33, has(96, 64, 68, 8))
	checkUpdate(t, r, 96, 31, 31, has(96, 64, 64, 0))
	checkUpdate(t, r, 96, 33, 32, has(96, 64, 64, 0))
	checkUpdate(t, r, 96, 32, 33, has(96, 64, 64, 0))
	checkUpdate(t, r, 104, 40, 40, has(104, 64, 64, 0))
	checkUpdate(t, r, 104, 41, 41, has(104, 64, 69, 10))
	// The Min that is asked is the new one: with the sample below the old one, only a delay of 0 leaves it.
	checkUpdate(t, r, 63, 1, 1, has(63, 63, 63, 0))
	checkUpdate(t, has(9, 64, 0, 0), 56, 1, 1, has(56, 56, 7, 14))
	checkUpdate(t, has(9, 64, 0, 0), 56, 0, 1, has(56, 56, 7, 14))
	checkUpdate(t, has(9, 64, 0, 0), 64, 1, 1, has(64, 64, 8, 16))
	checkUpdate(t, has(9, 63, 0, 0), 64, 1, 1, has(64, 63, 7, 15))
	checkUpdate(t, has(9, 0, 0, 0), 64, 64, 64, has(64, 0, 0, 0))
	checkUpdate(t, has(9, 0, 0, 0), 64, 65, 65, has(64, 0, 8, 16))
	checkUpdate(t, has(9, 0, 0, 0), 0, 1, 1, has(0, 0, 0, 0))
}

// P8.1: a Min and a delay whose sum wraps are the greatest number together: of that alone the delay is taken off.
func TestUpdateDelaySumsDoNotWrap(t *testing.T) {
	r := has(0, top-7, 0, 0)
	checkUpdate(t, r, top-1, 16, 16, has(top-1, top-7, top/8, top/4))
	checkUpdate(t, r, top-1, 8, 7, has(top-1, top-7, top/8, top/4))
	checkUpdate(t, r, top-1, 8, 6, has(top-1, top-7, top/8, top/4-1))
	checkUpdate(t, r, top-1, top, top, has(top-1, top-7, top/8, top/4))
	checkUpdate(t, r, top, 7, 7, has(top, top-7, top/8, top/4-1))
	checkUpdate(t, r, top, 8, 8, has(top, top-7, top/8-1, top/4-2))
	checkUpdate(t, r, top, 16, 16, has(top, top-7, top/8-2, top/4-4))
	checkUpdate(t, has(0, 1<<63, 0, 0), 1<<63+7, 1<<63, 1<<63, has(1<<63+7, 1<<63, 1<<60, 1<<61+1))
	checkUpdate(t, has(0, 1<<63, 0, 0), top, 1<<63, 1<<63, has(top, 1<<63, 1<<60-1, 1<<61-1))
	checkUpdate(t, has(0, top, 0, 0), top, top, top, has(top, top, 0, 0))
	checkUpdate(t, has(0, top, 0, 0), top-1, 1, 1, has(top-1, top-1, top/8, top/4))
	// A most of the greatest number, with a delay that is small, wraps nothing.
	checkUpdate(t, has(0, 8, 0, 0), 24, 16, top, has(24, 8, 1, 2))
	checkUpdate(t, has(0, 8, 0, 0), 24, top, 16, has(24, 8, 1, 2))
}

// P8.1: how far Smooth and the sample are is the same both ways; Var takes the Smooth of before.
func TestUpdateFar(t *testing.T) {
	fourth := []uint64{0, 0, 0, 0, 1, 1, 1, 1, 2, 2}
	below := []uint64{1000, 999, 999, 999, 999, 999, 999, 999, 999, 998}
	for i, spread := range fourth {
		n := uint64(i)
		checkUpdate(t, has(0, 0, 1000, 0), 1000-n, 0, 0, has(1000-n, 0, below[i], spread))
		checkUpdate(t, has(0, 0, 1000, 0), 1000+n, 0, 0, has(1000+n, 0, 1000+n/8, spread))
	}
	checkUpdate(t, has(0, 0, 1000, 0), 0, 0, 0, has(0, 0, 875, 250))
	checkUpdate(t, has(0, 0, 0, 0), 1000, 0, 0, has(1000, 0, 125, 250))
	checkUpdate(t, has(0, 0, top, 0), 0, 0, 0, has(0, 0, top-top/8, top/4))
	checkUpdate(t, has(0, 0, 0, 0), top, 0, 0, has(top, 0, top/8, top/4))
	// The sample that Smooth is held against is the one without its delay.
	checkUpdate(t, has(0, 0, 1000, 0), 1040, 40, 40, has(1040, 0, 1000, 0))
}

// P8.1: quotients go downwards, those of Var and Smooth each on its own.
func TestUpdateQuotients(t *testing.T) {
	spreads := []uint64{0, 1, 2, 3, 3, 4, 5, 6, 6, 7}
	smooths := []uint64{0, 1, 2, 3, 4, 5, 6, 7, 7, 8}
	for i := range spreads {
		checkUpdate(t, has(0, 0, 64, uint64(i)), 64, 0, 0, has(64, 0, 64, spreads[i]))
		checkUpdate(t, has(0, 0, uint64(i), 0), 0, 0, 0, has(0, 0, smooths[i], uint64(i)/4))
		checkUpdate(t, has(0, 0, 0, 0), uint64(i), 0, 0, has(uint64(i), 0, uint64(i)/8, uint64(i)/4))
	}
	checkUpdate(t, has(0, 0, 7, 3), 15, 0, 0, has(15, 0, 8, 5))
	checkUpdate(t, has(0, 0, 15, 7), 7, 0, 0, has(7, 0, 14, 8))
	checkUpdate(t, has(0, 0, 0, top), 0, 0, 0, has(0, 0, 0, top-top/4))
	checkUpdate(t, has(0, 0, top, top), 0, 0, 0, has(0, 0, top-top/8, top))
	checkUpdate(t, has(0, 0, 0, top), top, 0, 0, has(top, 0, top/8, top))
	checkUpdate(t, has(0, 0, top, top), top, 0, 0, has(top, 0, top, top-top/4))
}

// P8.1: whatever the estimate is, made by samples or by hand, each number is the one that the chapter's words say.
func TestUpdateAgainstTheWords(t *testing.T) {
	few := fewEdges()
	for _, r := range estimates() {
		for _, sample := range few {
			for i, delay := range few {
				most := few[(i*5+3)%len(few)]
				checkUpdate(t, r, sample, delay, most, updated(r, sample, delay, most))
			}
		}
	}
	for _, n := range edges() {
		for _, sample := range edges() {
			for _, r := range []api.Rtt{has(0, n, 0, 0), has(0, 0, n, 0), has(0, 0, 0, n), has(n, n, n, n)} {
				checkUpdate(t, r, sample, 8, 9, updated(r, sample, 8, 9))
				checkUpdate(t, r, sample, sample-n, top, updated(r, sample, sample-n, top))
				checkUpdate(t, r, sample, top, sample-n+1, updated(r, sample, top, sample-n+1))
			}
		}
	}
}

// P8.2: a count doubles, from 0 to 10; those beside them are taken for these.
func TestTimeoutCounts(t *testing.T) {
	r := has(100, 100, 100, 50)
	for _, c := range []struct {
		count int
		times uint64
	}{
		{math.MinInt, 1}, {math.MinInt32, 1}, {-64, 1}, {-2, 1}, {-1, 1}, {0, 1},
		{1, 2}, {2, 4}, {3, 8}, {4, 16}, {5, 32}, {6, 64}, {7, 128}, {8, 256}, {9, 512}, {10, 1024},
		{11, 1024}, {12, 1024}, {63, 1024}, {64, 1024}, {65, 1024}, {math.MaxInt32, 1024}, {math.MaxInt, 1024},
	} {
		checkTimeout(t, r, 25, c.count, 325*c.times)
		checkTimeout(t, api.Rtt{}, 25, c.count, 1022*c.times)
		checkTimeout(t, has(0, 0, 0, 0), 0, c.count, c.times)
	}
}

// P8.2: four times Var, or 1: no Var but 0 is below it.
func TestTimeoutVar(t *testing.T) {
	for _, c := range []struct{ spread, most, want uint64 }{
		{0, 0, 101}, {1, 0, 104}, {2, 0, 108}, {3, 0, 112}, {50, 0, 300},
		{0, 25, 126}, {1, 25, 129}, {50, 1, 301},
	} {
		checkTimeout(t, has(7, 7, 100, c.spread), c.most, 0, c.want)
		checkTimeout(t, has(7, 7, 100, c.spread), c.most, 1, 2*c.want)
	}
	// Neither Latest nor Min is asked.
	checkTimeout(t, has(top, 0, 100, 50), 0, 0, 300)
	checkTimeout(t, has(0, top, 100, 50), 0, 0, 300)
	checkTimeout(t, has(333, 0, 333, 166), 25, 0, 1022)
}

// P8.2: sums and products stop at the greatest number, at each of their steps.
func TestTimeoutDoesNotWrap(t *testing.T) {
	for _, c := range []struct {
		smooth, spread, most uint64
		count                int
		want                 uint64
	}{
		{0, 1<<62 - 1, 0, 0, top - 3}, {0, 1 << 62, 0, 0, top}, {0, 1<<62 + 1, 0, 0, top}, {0, 1 << 63, 0, 0, top}, {0, top, 0, 0, top},
		{3, 1<<62 - 1, 0, 0, top}, {2, 1<<62 - 1, 0, 0, top - 1}, {4, 1<<62 - 1, 0, 0, top},
		{2, 1<<62 - 1, 1, 0, top}, {1, 1<<62 - 1, 1, 0, top - 1}, {2, 1<<62 - 1, 2, 0, top},
		{top, 0, 0, 0, top}, {top - 1, 0, 0, 0, top}, {top - 2, 0, 0, 0, top - 1}, {top - 2, 0, 1, 0, top}, {top - 2, 0, 2, 0, top},
		{0, 0, top, 0, top}, {0, 0, top - 1, 0, top}, {0, 0, top - 2, 0, top - 1}, {top, top, top, 0, top}, {top, top, top, 10, top},
		{1<<63 - 2, 0, 0, 1, top - 1}, {1<<63 - 1, 0, 0, 1, top}, {1 << 63, 0, 0, 1, top},
		{1<<54 - 2, 0, 0, 10, top - 1023}, {1<<54 - 1, 0, 0, 10, top}, {1 << 54, 0, 0, 10, top}, {1 << 54, 0, 0, 9, 1<<63 + 512},
		{1 << 54, 0, 0, 11, top}, {1 << 54, 0, 0, -1, 1<<54 + 1}, {0, 0, 1<<54 - 2, 99, top - 1023}, {0, 1 << 52, 0, 10, top},
	} {
		checkTimeout(t, has(5, 5, c.smooth, c.spread), c.most, c.count, c.want)
	}
}

// P8.2, P8.3: of an estimate that has not nothing is asked, but of one that has everything.
func TestHasNot(t *testing.T) {
	for _, r := range estimates() {
		checkTimeout(t, hasNot(r), 25, 0, 1022)
		checkTimeout(t, hasNot(r), 0, 3, 7976)
		checkTimeout(t, hasNot(r), top, 0, top)
		checkLate(t, hasNot(r), 374)
	}
	checkTimeout(t, has(0, 0, 0, 0), 25, 0, 26)
	checkLate(t, has(0, 0, 0, 0), 1)
}

// P8.3: the greater of Smooth and Latest, and an eighth of it.
func TestLate(t *testing.T) {
	for _, c := range []struct{ smooth, latest, want uint64 }{
		{100, 100, 112}, {100, 99, 112}, {99, 100, 112}, {100, 0, 112}, {0, 100, 112}, {100, 104, 117}, {104, 100, 117}, {333, 333, 374},
		{0, 0, 1}, {0, 1, 1}, {1, 0, 1}, {1, 1, 1}, {2, 1, 2}, {1, 2, 2}, {3, 0, 3}, {0, 4, 4}, {5, 5, 5}, {6, 1, 6}, {7, 6, 7}, {6, 7, 7},
		{8, 0, 9}, {0, 8, 9}, {8, 7, 9}, {7, 8, 9}, {9, 8, 10}, {15, 0, 16}, {0, 16, 18},
		{top, 0, top}, {0, top, top}, {top, top, top}, {top - 1, top, top},
		{top/9*8 + 5, 0, top - 1}, {0, top/9*8 + 5, top - 1}, {top/9*8 + 6, 0, top}, {0, top/9*8 + 7, top}, {top/9*8 + 8, 0, top}, {1 << 63, 1, 1<<63 + 1<<60},
	} {
		checkLate(t, has(c.latest, 0, c.smooth, 50), c.want)
		checkLate(t, has(c.latest, top, c.smooth, top), c.want)
	}
}

// P8.2, P8.3: whatever the estimate is, what is told is what the chapter's words say.
func TestTimesAgainstTheWords(t *testing.T) {
	few := fewEdges()
	counts := []int{math.MinInt, -1, 0, 1, 5, 9, 10, 11, math.MaxInt}
	for i, r := range estimates() {
		for j, count := range counts {
			most := few[(i+j)%len(few)]
			checkTimeout(t, r, most, count, awaited(r, most, count))
			checkTimeout(t, hasNot(r), most, count, awaited(hasNot(r), most, count))
		}
		checkLate(t, r, lateBy(r))
	}
	for _, n := range edges() {
		for _, m := range edges() {
			for _, r := range []api.Rtt{has(m, 0, n, 0), has(0, 0, n, m), has(n, m, 0, n)} {
				checkTimeout(t, r, m, int(n), awaited(r, m, int(n)))
				checkTimeout(t, r, n, 1, awaited(r, n, 1))
				checkLate(t, r, lateBy(r))
			}
		}
	}
}

// sequence makes numbers out of numbers, the same ones each time.
type sequence uint64

func (q *sequence) below(n uint64) uint64 {
	*q = *q*6364136223846793005 + 1442695040888963407
	return uint64(*q) >> 16 % n
}

// P8.1, P8.4: many samples in a row; each step is by the words, and Min is the least of all samples, so it never rises.
func TestManySamples(t *testing.T) {
	for seed := range sequence(20) {
		q, r, least := seed, api.Rtt{}, uint64(top)
		around := []uint64{10, 100, 1000, 1 << 40}[seed%4]
		for range 500 {
			sample, delay, most := around+q.below(around), q.below(around), q.below(around)
			if q.below(50) == 0 {
				around = around - around/5
			}
			want := updated(r, sample, delay, most)
			checkUpdate(t, r, sample, delay, most, want)
			least = min(least, sample)
			if want.Min != least || r.Has && want.Min > r.Min {
				t.Fatalf("Min %d behind %d, the least sample is %d", want.Min, r.Min, least)
			}
			r = want
		}
	}
}

// P8.4: Min never rises, whatever the estimate and the sample are.
func TestMinNeverRises(t *testing.T) {
	for _, r := range estimates() {
		for _, sample := range fewEdges() {
			for _, delay := range []uint64{0, 8, top} {
				if got := Update(r, sample, delay, top); got.Min > r.Min || got.Min > sample {
					t.Errorf("Update(%+v, %d, %d): Min %d", r, sample, delay, got.Min)
				}
			}
		}
	}
}

// P8.4: of equal samples without delay Min stays, and Smooth is the sample, or a little less.
func TestEqualSamples(t *testing.T) {
	for _, sample := range edges() {
		r := api.Rtt{}
		for i := range 200 {
			// There is none, if either is 0.
			delay, most := uint64(0), uint64(25)
			if i%2 == 1 {
				delay, most = 25, 0
			}
			r = Update(r, sample, delay, most)
			if r.Latest != sample || r.Min != sample || r.Smooth > sample || sample-r.Smooth > 7 {
				t.Fatalf("behind %d samples of %d: %+v", i+1, sample, r)
			}
		}
		if r.Var > 3 {
			t.Errorf("of equal samples of %d Var is %d", sample, r.Var)
		}
	}
}

// P8.4: timeouts double, up to the count of 10, and none falls.
func TestTimeoutsDouble(t *testing.T) {
	for i, r := range append(estimates(), api.Rtt{}, has(100, 100, 100, 50)) {
		most := []uint64{0, 25, 1 << 54, top}[i%4]
		for count := range 10 {
			once, twice := Timeout(r, most, count), Timeout(r, most, count+1)
			if twice != product(once, 2) {
				t.Errorf("Timeout(%+v, %d, %d) is %d, and %d for one more", r, most, count, once, twice)
			}
		}
		if got, want := Timeout(r, most, 11), Timeout(r, most, 10); got != want || want == 0 {
			t.Errorf("Timeout(%+v, %d, 11) is %d, of 10 it is %d", r, most, got, want)
		}
	}
}
