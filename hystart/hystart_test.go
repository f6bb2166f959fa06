package hystart

import (
	"math/big"
	"testing"

	"wigwag/api"
)

const top = 1<<64 - 1

// slow is a slow start of these numbers, in their order in api.Slow.
func slow(phase int, end, lastMin, nowMin, count, base, rounds uint64) api.Slow {
	return api.Slow{Phase: phase, End: end, LastMin: lastMin, NowMin: nowMin, Count: count, Base: base, Rounds: rounds}
}

// phases are the three, and some that are none of them.
func phases() []int {
	return []int{api.SlowStart, api.SlowCareful, api.SlowFinished, 3, 4, -1, 257, -1 << 63, 1<<63 - 1}
}

// edges are numbers at which counts, rounds and limits turn, and sums wrap.
func edges() []uint64 {
	var out []uint64
	for n := uint64(0); n <= 20; n++ {
		out = append(out, n)
	}
	for _, n := range []uint64{32, 40, 48, 100, 120, 128, 136, 144, 1000, 1 << 32, 1 << 63} {
		out = append(out, n-1, n, n+1)
	}
	for n := uint64(20); n > 0; n-- {
		out = append(out, top-n)
	}
	return append(out, top)
}

// fewEdges are some of them, for what asks for many numbers at once.
func fewEdges() []uint64 {
	return []uint64{0, 1, 4, 5, 7, 8, 100, 112, 1 << 63, top - 16, top - 1, top}
}

// starts are hand-made ones: their numbers need not be those of any calls.
func starts() []api.Slow {
	var out []api.Slow
	few := fewEdges()
	at := func(i int) uint64 { return few[i%len(few)] }
	for p, phase := range phases() {
		for i := range few {
			for j := range few {
				for k := range few {
					out = append(out, slow(phase, at(i+2*j+3*k+p), at(i), at(j), at(k), at(i+j), at(j+k+p)))
				}
			}
		}
	}
	return out
}

// sequence is numbers without a plain order, the same ones in each run.
type sequence uint64

func (q *sequence) below(n uint64) uint64 {
	*q = *q*6364136223846793005 + 1442695040888963407
	return uint64(*q) >> 16 % n
}

func large(n uint64) *big.Int { return new(big.Int).SetUint64(n) }

// sum is one of any size, or the greatest number of 64 bits.
func sum(a, b uint64) uint64 {
	n := new(big.Int).Add(large(a), large(b))
	if !n.IsUint64() {
		return top
	}
	return n.Uint64()
}

// limited is the limit of P11.2, word by word.
func limited(lastMin uint64) uint64 {
	if lastMin/8 < 4 {
		return 4
	}
	if lastMin/8 > 16 {
		return 16
	}
	return lastMin / 8
}

// sampled is P11.2, word by word.
func sampled(s api.Slow, number, next, took uint64) api.Slow {
	if s.Phase == 2 {
		return s
	}
	if number >= s.End {
		s.LastMin = s.NowMin
		s.NowMin = top
		s.Count = 0
		s.End = next
		if s.Phase == 1 {
			s.Rounds = sum(s.Rounds, 1)
			if s.Rounds == 5 {
				s.Phase = 2
				return s
			}
		}
	}
	if took < s.NowMin {
		s.NowMin = took
	}
	s.Count = sum(s.Count, 1)
	if s.Count < 8 || s.NowMin == top || s.LastMin == top {
		return s
	}
	if s.Phase == 0 && s.NowMin >= sum(s.LastMin, limited(s.LastMin)) {
		s.Phase, s.Base, s.Rounds = 1, s.NowMin, 0
	} else if s.Phase == 1 && s.NowMin < s.Base {
		s.Phase, s.Base = 0, top
	}
	return s
}

// grown is P11.3, word by word.
func grown(s api.Slow, bytes uint64) uint64 {
	if s.Phase == 0 {
		return bytes
	}
	if s.Phase == 1 {
		return bytes / 4
	}
	return 0
}

func checkSample(t *testing.T, s api.Slow, number, next, took uint64, want api.Slow) {
	t.Helper()
	if got := Sample(s, number, next, took); got != want {
		t.Errorf("Sample(%+v, %d, %d, %d) = %+v, want %+v", s, number, next, took, got, want)
	}
}

func checkGrow(t *testing.T, s api.Slow, bytes, want uint64) {
	t.Helper()
	if got := Grow(s, bytes); got != want {
		t.Errorf("Grow(%+v, %d) = %d, want %d", s, bytes, got, want)
	}
}

// many is a slow start behind so many answers that took the same time.
func many(s api.Slow, count int, number, next, took uint64) api.Slow {
	for range count {
		s = Sample(s, number, next, took)
	}
	return s
}

// P11.1 to P11.3: the chapter's examples.
func TestExamples(t *testing.T) {
	s := New(10)
	checkGrow(t, s, 1200, 1200)
	checkGrow(t, Finish(s), 1200, 0)
	s = many(s, 8, 9, 10, 100)
	if want := slow(0, 10, top, 100, 8, top, 0); s != want {
		t.Errorf("%+v, want %+v", s, want)
	}
	s = many(s, 8, 10, 20, 113)
	if want := slow(1, 20, 100, 113, 8, 113, 0); s != want {
		t.Errorf("%+v, want %+v", s, want)
	}
	checkGrow(t, s, 1200, 300)
	checkGrow(t, Finish(s), 1200, 0)
}

// P11.1: a slow start at its beginning; the next one is just that too.
func TestNew(t *testing.T) {
	for _, next := range edges() {
		want := api.Slow{Phase: 0, End: next, LastMin: 18446744073709551615, NowMin: 18446744073709551615, Count: 0, Base: 18446744073709551615, Rounds: 0}
		for range 2 {
			if got := New(next); got != want {
				t.Errorf("New(%d) = %+v, want %+v", next, got, want)
			}
			Finish(many(New(next), 9, next, next, 5))
		}
	}
}

// P11.1: what is finished is left as it was, but for its Phase, of whatever Phase it was.
func TestFinish(t *testing.T) {
	for _, s := range append(starts(), New(0), New(10), New(top), api.Slow{}) {
		want := slow(2, s.End, s.LastMin, s.NowMin, s.Count, s.Base, s.Rounds)
		if got := Finish(s); got != want || Finish(got) != want {
			t.Errorf("Finish(%+v) = %+v, want %+v", s, got, want)
		}
	}
}

// P11.2, P11.4: of what is finished nothing changes any more, not even at a round's end.
func TestSampleFinished(t *testing.T) {
	for _, s := range append(starts(), New(0), New(10), New(top)) {
		s = Finish(s)
		for _, number := range []uint64{0, s.End - 1, s.End, s.End + 1, top} {
			for _, took := range []uint64{0, s.NowMin - 1, s.NowMin, s.Base - 1, top} {
				checkSample(t, s, number, number+1, took, s)
			}
		}
	}
}

// P11.2: a round ends with a number of at least End, in each Phase that is not finished; one below it is of the same round.
func TestSampleEnd(t *testing.T) {
	for _, phase := range []int{api.SlowStart, api.SlowCareful, 3, -1} {
		rounds := uint64(1)
		if phase == api.SlowCareful {
			rounds = 2
		}
		for _, end := range []uint64{0, 1, 10, 1 << 32, 1 << 63, top - 1, top} {
			s := slow(phase, end, 90, 100, 5, 80, 1)
			if end > 0 {
				same := slow(phase, end, 90, 95, 6, 80, 1)
				checkSample(t, s, end-1, 77, 95, same)
				checkSample(t, s, 0, 77, 95, same)
			}
			ended := slow(phase, 77, 100, 95, 1, 80, rounds)
			checkSample(t, s, end, 77, 95, ended)
			checkSample(t, s, max(end, end+1), 77, 95, ended)
			checkSample(t, s, top, 77, 95, ended)
		}
	}
}

// P11.2: End is next, whatever that is: it may be below the number, and each answer ends a round then; an answer within a round asks nothing of next.
func TestSampleNext(t *testing.T) {
	for _, next := range []uint64{0, 1, 9, 10, 11, 1 << 63, top} {
		checkSample(t, slow(0, 10, 90, 100, 5, top, 0), 10, next, 120, slow(0, next, 100, 120, 1, top, 0))
		checkSample(t, slow(0, 10, 90, 100, 5, top, 0), 9, next, 120, slow(0, 10, 90, 100, 6, top, 0))
	}
	s := many(slow(0, 10, 90, 100, 5, top, 0), 20, 10, 10, 200)
	if want := slow(0, 10, 200, 200, 1, top, 0); s != want {
		t.Errorf("%+v, want %+v", s, want)
	}
}

// P11.2: at a round's end the last least time is taken over even if it is none, and what took over counts from the first answer on.
func TestSampleEndOfNone(t *testing.T) {
	checkSample(t, New(0), 0, 20, 100, slow(0, 20, top, 100, 1, top, 0))
	checkSample(t, New(10), 10, 20, 100, slow(0, 20, top, 100, 1, top, 0))
	checkSample(t, slow(0, 10, 100, top, 8, top, 0), 10, 20, 100, slow(0, 20, top, 100, 1, top, 0))
	checkSample(t, slow(1, 10, 100, top, 8, 90, 0), 10, 20, 80, slow(1, 20, top, 80, 1, 90, 1))
	checkSample(t, slow(0, 10, 100, 0, top, top, 0), 10, 20, 200, slow(0, 20, 0, 200, 1, top, 0))
}

// P11.2: only what is careful counts its rounds.
func TestSampleRounds(t *testing.T) {
	for _, rounds := range []uint64{0, 1, 3, 4, 5, 6, 1 << 63, top - 1, top} {
		for _, phase := range []int{api.SlowStart, 3, -1, 257} {
			checkSample(t, slow(phase, 10, 90, 100, 5, 95, rounds), 10, 20, 100, slow(phase, 20, 100, 100, 1, 95, rounds))
		}
		if rounds != 4 {
			checkSample(t, slow(1, 10, 90, 100, 5, 95, rounds), 10, 20, 100, slow(1, 20, 100, 100, 1, 95, sum(rounds, 1)))
		}
		checkSample(t, slow(1, 10, 90, 100, 5, 95, rounds), 9, 20, 100, slow(1, 10, 90, 100, 6, 95, rounds))
	}
}

// P11.2: what is careful is finished by its fifth round's end; nothing of that answer's time counts any more.
func TestSampleFifthRound(t *testing.T) {
	for _, took := range []uint64{0, 1, 94, 99, 100, 101, top} {
		checkSample(t, slow(1, 10, 90, 100, 5, 95, 4), 10, 20, took, slow(2, 20, 100, top, 0, 95, 5))
		checkSample(t, slow(1, 10, 90, 100, 9, 95, 4), 11, 20, took, slow(2, 20, 100, top, 0, 95, 5))
		checkSample(t, slow(1, 10, 90, top, 0, 95, 4), top, 5, took, slow(2, 5, top, top, 0, 95, 5))
	}
	s := many(New(10), 8, 9, 10, 100)
	s = many(s, 8, 10, 20, 113)
	for i := range uint64(4) {
		s = many(s, 8, 20+10*i, 30+10*i, 120)
		if want := slow(1, 30+10*i, min(113+7*i, 120), 120, 8, 113, i+1); s != want {
			t.Errorf("%+v, want %+v", s, want)
		}
	}
	s = Sample(s, 60, 70, 50)
	if want := slow(2, 70, 120, top, 0, 113, 5); s != want {
		t.Errorf("%+v, want %+v", s, want)
	}
}

// P11.2: Rounds begin anew each time that a slow start becomes careful.
func TestSampleCarefulAgain(t *testing.T) {
	s := many(New(10), 8, 9, 10, 100)
	s = many(s, 8, 10, 20, 113)
	s = many(s, 8, 20, 30, 113)
	s = many(s, 8, 30, 40, 112)
	if want := slow(0, 40, 113, 112, 8, top, 2); s != want {
		t.Errorf("%+v, want %+v", s, want)
	}
	s = many(s, 8, 40, 50, 126)
	if want := slow(1, 50, 112, 126, 8, 126, 0); s != want {
		t.Errorf("%+v, want %+v", s, want)
	}
}

// P11.2: NowMin is the lesser one of itself and what an answer took; one that took the greatest number tells no time, but counts.
func TestSampleTook(t *testing.T) {
	for _, c := range []struct{ now, took, want uint64 }{
		{100, 0, 0}, {100, 1, 1}, {100, 99, 99}, {100, 100, 100}, {100, 101, 100}, {100, 1 << 63, 100}, {100, top, 100},
		{0, 0, 0}, {0, 1, 0}, {0, top, 0}, {1, 0, 0}, {1 << 63, 1<<63 - 1, 1<<63 - 1}, {1 << 63, 1<<63 + 1, 1 << 63},
		{top, 0, 0}, {top, 100, 100}, {top, top - 1, top - 1}, {top, top, top}, {top - 1, top, top - 1}, {top - 1, top - 2, top - 2},
	} {
		for _, phase := range []int{api.SlowStart, api.SlowCareful, 3, -1} {
			checkSample(t, slow(phase, 10, 90, c.now, 3, 95, 2), 9, 20, c.took, slow(phase, 10, 90, c.want, 4, 95, 2))
		}
	}
}

// P11.2: a Count that is already the greatest number stays that, and is enough.
func TestSampleCount(t *testing.T) {
	for _, phase := range []int{3, -1, 257} {
		for _, count := range []uint64{0, 6, 7, 8, 9, 1 << 63, top - 2, top - 1, top} {
			checkSample(t, slow(phase, 10, 90, 200, count, 250, 2), 9, 20, 200, slow(phase, 10, 90, 200, sum(count, 1), 250, 2))
		}
	}
	for _, count := range []uint64{top - 1, top} {
		checkSample(t, slow(0, 10, 90, 200, count, top, 2), 9, 20, 200, slow(1, 10, 90, 200, top, 200, 0))
		checkSample(t, slow(1, 10, 90, 80, count, 95, 2), 9, 20, 200, slow(0, 10, 90, 80, top, top, 2))
	}
}

// P11.2: seven answers of a round are too few to change a Phase; eight, nine and more are enough.
func TestSampleEnough(t *testing.T) {
	for _, count := range []uint64{0, 1, 5, 6} {
		checkSample(t, slow(0, 10, 90, 200, count, top, 2), 9, 20, 300, slow(0, 10, 90, 200, count+1, top, 2))
		checkSample(t, slow(1, 10, 90, 80, count, 95, 2), 9, 20, 300, slow(1, 10, 90, 80, count+1, 95, 2))
	}
	for _, count := range []uint64{7, 8, 9, 100, 1 << 63} {
		checkSample(t, slow(0, 10, 90, 200, count, top, 2), 9, 20, 300, slow(1, 10, 90, 200, count+1, 200, 0))
		checkSample(t, slow(1, 10, 90, 80, count, 95, 2), 9, 20, 300, slow(0, 10, 90, 80, count+1, top, 2))
	}
	// A round's end takes the Count away, however great it was.
	checkSample(t, slow(0, 10, 90, 100, 100, top, 2), 10, 20, 300, slow(0, 20, 100, 300, 1, top, 2))
	checkSample(t, slow(1, 10, 90, 100, 100, 95, 2), 10, 20, 80, slow(1, 20, 100, 80, 1, 95, 3))
}

// P11.2: while NowMin or LastMin is none, enough answers change no Phase either.
func TestSampleNone(t *testing.T) {
	for _, count := range []uint64{7, 8, 9, top} {
		more := sum(count, 1)
		for _, last := range []uint64{0, 1, 100, top - 16, top - 1, top} {
			checkSample(t, slow(0, 10, last, top, count, 50, 2), 9, 20, top, slow(0, 10, last, top, more, 50, 2))
			checkSample(t, slow(1, 10, last, top, count, top, 2), 9, 20, top, slow(1, 10, last, top, more, top, 2))
		}
		for _, took := range []uint64{0, 1, 100, top - 16, top - 1} {
			checkSample(t, slow(0, 10, top, took, count, 50, 2), 9, 20, took, slow(0, 10, top, took, more, 50, 2))
			checkSample(t, slow(1, 10, top, took, count, top, 2), 9, 20, took, slow(1, 10, top, took, more, top, 2))
			checkSample(t, slow(1, 10, top, took, count, took+1, 2), 9, 20, took, slow(1, 10, top, took, more, took+1, 2))
		}
	}
	// 0 is a time as others are.
	checkSample(t, slow(0, 10, 0, 4, 7, top, 2), 9, 20, 4, slow(1, 10, 0, 4, 8, 4, 0))
	checkSample(t, slow(1, 10, 0, 4, 7, 5, 2), 9, 20, 0, slow(0, 10, 0, 0, 8, top, 2))
}

// P11.2: from NowMin of LastMin and the limit together on, a slow start becomes careful; the limit is an eighth, downwards, but at least 4 and at most 16.
func TestSampleLimit(t *testing.T) {
	for _, c := range [][2]uint64{
		{0, 4}, {1, 5}, {8, 12}, {23, 27}, {24, 28}, {31, 35}, {32, 36}, {33, 37}, {39, 43}, {40, 45}, {41, 46}, {47, 52}, {48, 54},
		{100, 112}, {113, 127}, {119, 133}, {120, 135}, {121, 136}, {127, 142}, {128, 144}, {129, 145}, {135, 151}, {136, 152}, {137, 153}, {143, 159}, {144, 160},
		{1000, 1016}, {1 << 32, 1<<32 + 16}, {1 << 63, 1<<63 + 16}, {top - 18, top - 2}, {top - 17, top - 1},
	} {
		last, turn := c[0], c[1]
		for _, base := range []uint64{top, 0, 50, turn - 1, turn + 1} {
			for _, now := range []uint64{0, last, turn - 2, turn - 1} {
				checkSample(t, slow(0, 10, last, now, 7, base, 3), 9, 20, top, slow(0, 10, last, now, 8, base, 3))
			}
			for _, now := range []uint64{turn, turn + 1, top - 1} {
				if now >= turn && now < top {
					checkSample(t, slow(0, 10, last, now, 7, base, 3), 9, 20, top, slow(1, 10, last, now, 8, now, 0))
				}
			}
		}
	}
}

// P11.2: where LastMin and the limit together would pass the greatest number, or be it, no time is at least that.
func TestSampleLimitDoesNotWrap(t *testing.T) {
	for last := uint64(top - 16); last < top; last++ {
		for _, now := range []uint64{0, 1, 15, 16, 100, last - 1, last, top - 2, top - 1} {
			checkSample(t, slow(0, 10, last, now, 7, top, 3), 9, 20, top, slow(0, 10, last, now, 8, top, 3))
		}
	}
}

// P11.2: the NowMin that is asked is that with this answer's time.
func TestSampleAsksTheNewLeast(t *testing.T) {
	checkSample(t, slow(0, 10, 100, 200, 7, top, 0), 9, 20, 112, slow(1, 10, 100, 112, 8, 112, 0))
	checkSample(t, slow(0, 10, 100, 200, 7, top, 0), 9, 20, 111, slow(0, 10, 100, 111, 8, top, 0))
	checkSample(t, slow(0, 10, 100, 200, 20, top, 0), 9, 20, 111, slow(0, 10, 100, 111, 21, top, 0))
	checkSample(t, slow(1, 10, 100, 200, 7, 112, 0), 9, 20, 111, slow(0, 10, 100, 111, 8, top, 0))
	checkSample(t, slow(1, 10, 100, 200, 7, 112, 0), 9, 20, 112, slow(1, 10, 100, 112, 8, 112, 0))
}

// P11.2: what is careful starts again at a NowMin below Base; at Base and above, it is as it was, however far LastMin is.
func TestSampleBase(t *testing.T) {
	for _, base := range []uint64{1, 2, 100, 113, 1 << 63, top - 2, top - 1, top} {
		for _, last := range []uint64{0, 1, 100, 1 << 63, top - 1} {
			for _, now := range []uint64{0, base / 2, base - 1} {
				checkSample(t, slow(1, 10, last, now, 7, base, 3), 9, 20, now, slow(0, 10, last, now, 8, top, 3))
			}
			for _, now := range []uint64{base, max(base, base+1), top - 1} {
				if now >= base && now < top {
					checkSample(t, slow(1, 10, last, now, 7, base, 3), 9, 20, now, slow(1, 10, last, now, 8, base, 3))
				}
			}
		}
	}
	checkSample(t, slow(1, 10, 100, 0, 7, 0, 3), 9, 20, 0, slow(1, 10, 100, 0, 8, 0, 3))
	// One answer changes one Phase: what starts again becomes careful by another one.
	checkSample(t, slow(1, 10, 100, 200, 7, 300, 3), 9, 20, 200, slow(0, 10, 100, 200, 8, top, 3))
	checkSample(t, slow(0, 10, 100, 200, 8, top, 3), 9, 20, 200, slow(1, 10, 100, 200, 9, 200, 0))
}

// P11.2: whatever the slow start is, what is answered is what the chapter's words say.
func TestSampleAgainstTheWords(t *testing.T) {
	few := fewEdges()
	for i, s := range starts() {
		for j, took := range few {
			next := few[(i+j)%len(few)]
			for _, number := range []uint64{0, s.End - 1, s.End, s.End + 1, top} {
				checkSample(t, s, number, next, took, sampled(s, number, next, took))
			}
		}
	}
	all := edges()
	for _, last := range all {
		for _, now := range all {
			for _, count := range []uint64{6, 7, 8} {
				for _, phase := range phases() {
					s := slow(phase, 10, last, now, count, now+last%3-1, last%6)
					checkSample(t, s, 9, 20, top, sampled(s, 9, 20, top))
					checkSample(t, s, 10, 20, now, sampled(s, 10, 20, now))
				}
			}
		}
	}
}

// P11.3: all the bytes in SlowStart, a quarter of them, downwards, in SlowCareful, and none in any other Phase.
func TestGrow(t *testing.T) {
	for _, c := range [][2]uint64{
		{0, 0}, {1, 0}, {2, 0}, {3, 0}, {4, 1}, {5, 1}, {6, 1}, {7, 1}, {8, 2}, {9, 2}, {1199, 299}, {1200, 300},
		{1 << 32, 1 << 30}, {1 << 63, 1 << 61}, {top - 3, 1<<62 - 1}, {top - 1, 1<<62 - 1}, {top, 1<<62 - 1},
	} {
		for _, s := range []api.Slow{New(10), slow(0, 0, 0, 0, 0, 0, 0), slow(0, top, top, top, top, top, top), slow(0, 5, 90, 200, 9, 80, 5)} {
			s.Phase = api.SlowStart
			checkGrow(t, s, c[0], c[0])
			s.Phase = api.SlowCareful
			checkGrow(t, s, c[0], c[1])
			for _, phase := range []int{api.SlowFinished, 3, 4, -1, 256, 257, 1 << 32, 1<<32 + 1, -1 << 63, 1<<63 - 1} {
				s.Phase = phase
				checkGrow(t, s, c[0], 0)
			}
		}
	}
	for _, s := range starts() {
		for _, bytes := range fewEdges() {
			checkGrow(t, s, bytes, grown(s, bytes))
		}
	}
}

// P11.4: what is finished stays so, whatever comes; and fewer than eight answers of a round change no Phase but by the round's end.
func TestManyCalls(t *testing.T) {
	q := sequence(11)
	changes, ends := 0, 0
	for range 400 {
		s, next := New(q.below(30)), q.below(30)
		least, inRound := 40+q.below(100), 0
		for number := range uint64(600) {
			next = max(next, number+1) + q.below(3)
			if q.below(60) == 0 {
				least = 40 + q.below(100)
			}
			took := least + q.below(12)
			if q.below(400) == 0 {
				took = top
			}
			was, roundEnds := s, number >= s.End
			s = Sample(s, number, next, took)
			if want := sampled(was, number, next, took); s != want {
				t.Fatalf("Sample(%+v, %d, %d, %d) = %+v, want %+v", was, number, next, took, s, want)
			}
			inRound++
			if roundEnds {
				inRound = 1
			}
			if was.Phase == api.SlowFinished && s != was {
				t.Fatalf("finished %+v, and then %+v", was, s)
			}
			if s.Phase == was.Phase {
				continue
			}
			changes++
			if s.Phase == api.SlowFinished {
				ends++
			}
			if inRound < 8 && !(roundEnds && s.Phase == api.SlowFinished) {
				t.Fatalf("behind %d answers of a round %+v became %+v", inRound, was, s)
			}
		}
	}
	// A world in which no Phase changes would tell nothing.
	if changes < 400 || ends < 100 {
		t.Errorf("%d changes, %d ends", changes, ends)
	}
}
