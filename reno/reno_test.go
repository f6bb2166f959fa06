package reno

import (
	"math/big"
	"testing"

	"wigwag/api"
)

const (
	top   = 1<<64 - 1
	floor = 2400
	most  = 1 << 24
)

// win is a window of these numbers.
func win(cwnd, thresh, since, rest uint64) api.Reno {
	return api.Reno{Cwnd: cwnd, Thresh: thresh, Since: since, Rest: rest}
}

// edges are numbers at which windows are held, halves and quotients turn, and sums and products wrap.
func edges() []uint64 {
	out := []uint64{0, 1, 2, 3, 9, 10, 11, 100}
	for _, n := range []uint64{1200, floor, 2 * floor, 6600, 12000, most / 2, most, 2 * most, 1 << 32, top / 1200, 1 << 63} {
		out = append(out, n-1, n, n+1)
	}
	return append(out, top-most, top-1, top)
}

// fewEdges are some of them, for what asks for many numbers at once.
func fewEdges() []uint64 {
	return []uint64{0, 1, 10, floor - 1, floor, floor + 1, 12000, most - 1, most, most + 1, top/1200 + 1, top - 1, top}
}

// windows are hand-made ones: their numbers need not be those of any calls.
func windows() []api.Reno {
	var out []api.Reno
	few := fewEdges()
	for i, cwnd := range few {
		for j, thresh := range few {
			for k := range few {
				out = append(out, win(cwnd, thresh, few[k], few[(i+2*j+3*k)%len(few)]))
			}
		}
	}
	return out
}

// sequence is numbers without a plain order, the same ones in each run.
type sequence uint64

func (q *sequence) below(n uint64) uint64 {
	*q = *q*6364136223846793005 + 1442695040888963407
	return uint64(*q) >> 16 % n
}

func large(n uint64) *big.Int { return new(big.Int).SetUint64(n) }

// fitted is a number of any size, or the greatest one of 64 bits.
func fitted(n *big.Int) uint64 {
	if !n.IsUint64() {
		return top
	}
	return n.Uint64()
}

func sum(a, b uint64) uint64     { return fitted(new(big.Int).Add(large(a), large(b))) }
func product(a, b uint64) uint64 { return fitted(new(big.Int).Mul(large(a), large(b))) }

// held is Held, word by word.
func held(n uint64) uint64 {
	if n < 2400 {
		return 2400
	}
	if n > 16777216 {
		return 16777216
	}
	return n
}

// acked is P10.2, word by word.
func acked(c api.Reno, bytes, at uint64, limited bool) api.Reno {
	if at < c.Since || limited {
		return c
	}
	if c.Cwnd < c.Thresh {
		c.Cwnd = held(sum(c.Cwnd, bytes))
		return c
	}
	c.Rest = sum(c.Rest, product(bytes, 1200))
	divisor := c.Cwnd
	if divisor == 0 {
		divisor = 1
	}
	c.Cwnd, c.Rest = held(sum(c.Cwnd, c.Rest/divisor)), c.Rest%divisor
	return c
}

// lost is P10.3, word by word.
func lost(c api.Reno, at, now uint64) api.Reno {
	if at < c.Since {
		return c
	}
	c.Thresh = held(c.Cwnd / 2)
	c.Cwnd = held(c.Cwnd / 2)
	c.Since = sum(now, 1)
	c.Rest = 0
	return c
}

func checkAck(t *testing.T, c api.Reno, bytes, at uint64, limited bool, want api.Reno) {
	t.Helper()
	if got := Ack(c, bytes, at, limited); got != want {
		t.Errorf("Ack(%+v, %d, %d, %v) = %+v, want %+v", c, bytes, at, limited, got, want)
	}
}

func checkLoss(t *testing.T, c api.Reno, at, now uint64, want api.Reno) {
	t.Helper()
	if got := Loss(c, at, now); got != want {
		t.Errorf("Loss(%+v, %d, %d) = %+v, want %+v", c, at, now, got, want)
	}
}

func checkCollapse(t *testing.T, c, want api.Reno) {
	t.Helper()
	if got := Collapse(c); got != want {
		t.Errorf("Collapse(%+v) = %+v, want %+v", c, got, want)
	}
}

// P10.1 to P10.3: the chapter's examples.
func TestExamples(t *testing.T) {
	first := win(13200, most, 0, 0)
	half := win(6600, 6600, 10, 0)
	checkAck(t, New(), 1200, 0, false, first)
	checkLoss(t, first, 5, 9, half)
	checkLoss(t, half, 9, 12, half)
	checkAck(t, half, 6600, 10, false, win(7800, 6600, 10, 0))
}

// P10.1: a window's number is held at both its edges.
func TestHeld(t *testing.T) {
	for _, c := range [][2]uint64{
		{0, floor}, {1, floor}, {1199, floor}, {1200, floor}, {2398, floor}, {2399, floor}, {2400, 2400}, {2401, 2401}, {2402, 2402},
		{12000, 12000}, {1 << 23, 1 << 23}, {most - 2, most - 2}, {most - 1, most - 1}, {most, most}, {most + 1, most}, {most + 2, most},
		{1<<32 + 5000, most}, {1 << 63, most}, {1<<63 + 5000, most}, {top - 1, most}, {top, most},
	} {
		if got := Held(c[0]); got != c[1] {
			t.Errorf("Held(%d) = %d, want %d", c[0], got, c[1])
		}
	}
}

// P10.1: Held of what it held is that.
func TestHeldAgain(t *testing.T) {
	for _, n := range edges() {
		got := Held(n)
		if got != held(n) || Held(got) != got {
			t.Errorf("Held(%d) = %d, and of that %d", n, got, Held(got))
		}
	}
}

// P10.1: a window at its beginning, and the next one is just that too.
func TestNew(t *testing.T) {
	want := api.Reno{Cwnd: 12000, Thresh: 16777216, Since: 0, Rest: 0}
	for range 2 {
		if got := New(); got != want {
			t.Errorf("New() = %+v, want %+v", got, want)
		}
		Collapse(Loss(Ack(New(), 5000, 7, false), 8, 9))
	}
}

// P10.2: what was sent below Since changes nothing, what was sent at it or behind it does.
func TestAckSince(t *testing.T) {
	for _, since := range []uint64{1, 2, 10, 1 << 32, 1 << 63, top - 1, top} {
		slow, wide := win(5000, 9000, since, 7), win(6000, 6000, since, 7)
		for _, at := range []uint64{0, since / 2, since - 1} {
			checkAck(t, slow, 1000, at, false, slow)
			checkAck(t, wide, 10, at, false, wide)
		}
		for _, at := range []uint64{since, max(since, since+1), top} {
			checkAck(t, slow, 1000, at, false, win(6000, 9000, since, 7))
			checkAck(t, wide, 10, at, false, win(6002, 6000, since, 7))
		}
	}
	for _, at := range []uint64{0, 1, top} {
		checkAck(t, win(5000, 9000, 0, 7), 1000, at, false, win(6000, 9000, 0, 7))
		checkAck(t, win(6000, 6000, 0, 7), 10, at, false, win(6002, 6000, 0, 7))
	}
}

// P10.2: a sender that had no more to send gets no wider window, whenever it was; not even one that is out of Floor and Cap is held.
func TestAckLimited(t *testing.T) {
	for _, c := range append(windows(), New(), win(5000, 9000, 10, 7), win(6000, 6000, 10, 7)) {
		for _, at := range []uint64{0, 9, 10, 11, top} {
			for _, bytes := range []uint64{0, 10, 5000, top} {
				checkAck(t, c, bytes, at, true, c)
			}
		}
	}
}

// P10.2: what came of the time before a loss changes no window, whatever its numbers are.
func TestAckElder(t *testing.T) {
	for _, c := range windows() {
		if c.Since == 0 {
			continue
		}
		for _, bytes := range []uint64{0, 10, 5000, top} {
			checkAck(t, c, bytes, c.Since-1, false, c)
			checkAck(t, c, bytes, 0, false, c)
		}
	}
}

// P10.2: just below Thresh a window grows by all the bytes; at it and above it by a Segment a window.
func TestAckThresh(t *testing.T) {
	checkAck(t, win(5999, 6000, 0, 0), 60, 0, false, win(6059, 6000, 0, 0))
	checkAck(t, win(6000, 6000, 0, 0), 60, 0, false, win(6012, 6000, 0, 0))
	checkAck(t, win(6000, 5999, 0, 0), 60, 0, false, win(6012, 5999, 0, 0))
	checkAck(t, win(6000, 0, 0, 0), 60, 0, false, win(6012, 0, 0, 0))
	// All the bytes go one way: a window that passes Thresh by them does not change its way in between.
	checkAck(t, win(5999, 6000, 0, 0), 6000, 0, false, win(11999, 6000, 0, 0))
	checkAck(t, win(5999, 6000, 0, 0), 1, 0, false, win(6000, 6000, 0, 0))
	// Below Thresh the Rest stays, however great it is.
	checkAck(t, win(5000, 6000, 0, 7), 60, 0, false, win(5060, 6000, 0, 7))
	checkAck(t, win(5000, 6000, 0, 5000), 60, 0, false, win(5060, 6000, 0, 5000))
	checkAck(t, win(5000, 6000, 0, top), 60, 0, false, win(5060, 6000, 0, top))
	checkAck(t, win(5000, 6000, 0, top), 0, 0, false, win(5000, 6000, 0, top))
	checkAck(t, win(0, 1, 0, 3), 5, 0, false, win(floor, 1, 0, 3))
}

// P10.2: below Thresh a window stops at Cap, also where the sum would pass the greatest number.
func TestAckBelowThreshHeld(t *testing.T) {
	for _, c := range []struct{ cwnd, bytes, want uint64 }{
		{12000, 0, 12000}, {12000, 1, 12001}, {12000, 1200, 13200},
		{12000, most - 12001, most - 1}, {12000, most - 12000, most}, {12000, most - 11999, most},
		{12000, 1 << 32, most}, {12000, 1 << 63, most}, {12000, top - 12001, most}, {12000, top - 12000, most}, {12000, top - 11999, most}, {12000, top - 7000, most}, {12000, top, most},
		{most - 1, 0, most - 1}, {most - 1, 1, most}, {most - 1, 2, most}, {most, 0, most}, {most, 1, most}, {most, top, most},
		{0, 0, floor}, {0, 2399, floor}, {0, 2400, floor}, {0, 2401, 2401}, {1, 2399, 2400}, {1, 2400, 2401}, {2399, 0, floor}, {2399, 1, floor}, {2399, 2, 2401},
		{most + 1, 0, most}, {1 << 63, 1 << 63, most}, {1 << 63, 1<<63 + 5000, most}, {top - 1, 0, most}, {top - 1, 1, most}, {top - 1, 2, most}, {top - 1, top, most},
	} {
		checkAck(t, win(c.cwnd, top, 0, 9), c.bytes, 0, false, win(c.want, top, 0, 9))
	}
}

// P10.2: where a window is at least Thresh, what does not fill a byte is left over, and counts the next time.
func TestAckRest(t *testing.T) {
	for _, c := range []struct{ rest, bytes, cwnd, left uint64 }{
		{0, 0, 6600, 0}, {0, 1, 6600, 1200}, {0, 5, 6600, 6000}, {0, 6, 6601, 600}, {0, 11, 6602, 0}, {0, 100, 6618, 1200}, {0, 6600, 7800, 0},
		{1200, 0, 6600, 1200}, {1200, 1, 6600, 2400}, {1200, 4, 6600, 6000}, {1200, 5, 6601, 600}, {5399, 1, 6600, 6599}, {5400, 1, 6601, 0}, {5401, 1, 6601, 1},
		// A Rest that no call leaves counts as well.
		{6599, 0, 6600, 6599}, {6600, 0, 6601, 0}, {6601, 0, 6601, 1}, {13200, 0, 6602, 0}, {66000, 11, 6612, 0},
	} {
		checkAck(t, win(6600, 6600, 10, c.rest), c.bytes, 10, false, win(c.cwnd, 6600, 10, c.left))
	}
	// The divisor is the window of before, not the one that has grown, nor the one that is held.
	checkAck(t, win(6600, 0, 0, 0), 6601, 0, false, win(7800, 0, 0, 1200))
	checkAck(t, win(1000, 0, 0, 0), 1, 0, false, win(floor, 0, 0, 200))
	checkAck(t, win(1000, 0, 0, 0), 5000, 0, false, win(7000, 0, 0, 0))
	checkAck(t, win(2*most, 0, 0, 0), 30000, 0, false, win(most, 0, 0, 36000000-2*most))
}

// P10.2: of a window of 0 the divisor is 1.
func TestAckNoWindow(t *testing.T) {
	for _, c := range []struct{ cwnd, rest, bytes, want uint64 }{
		{0, 0, 0, floor}, {0, 0, 1, floor}, {0, 0, 2, floor}, {0, 1, 2, 2401}, {0, 0, 3, 3600}, {0, 2401, 0, 2401}, {0, top, 0, most}, {0, top, top, most}, {0, 0, 13980, 16776000}, {0, 0, 13981, 16777200}, {0, 0, 13982, most},
		{1, 0, 0, floor}, {1, 0, 1, floor}, {1, 0, 2, 2401}, {1, 5, 2, 2406}, {1, top, 0, most}, {1, top - 1, 0, most}, {1, 0, top, most},
	} {
		checkAck(t, win(c.cwnd, 0, 0, c.rest), c.bytes, 0, false, win(c.want, 0, 0, 0))
	}
	checkAck(t, win(2, 0, 0, 0), 2, 0, false, win(floor, 0, 0, 0))
	checkAck(t, win(2, 2, 0, 1), 2, 0, false, win(floor, 2, 0, 1))
	checkAck(t, win(0, 1, 0, 0), 2, 0, false, win(floor, 1, 0, 0))
	checkAck(t, win(1, 1, 0, 0), 2, 0, false, win(2401, 1, 0, 0))
}

// P10.2: neither bytes times Segment wraps, nor that and Rest, nor the window and its growth; each of them stops at the greatest number.
func TestAckDoesNotWrap(t *testing.T) {
	const last = top / 1200 // the most bytes whose product with a Segment is told
	for _, c := range []struct{ cwnd, rest, bytes, want, left uint64 }{
		{1 << 23, 0, last, most, last * 1200 % (1 << 23)},
		{1 << 23, 0, last + 1, most, 1<<23 - 1}, {1 << 23, 0, 1 << 63, most, 1<<23 - 1}, {1 << 23, 0, top, most, 1<<23 - 1},
		{1 << 23, 1 << 22, last + 1, most, 1<<23 - 1}, {1 << 23, top, top, most, 1<<23 - 1},
		{1 << 23, top, 0, most, 1<<23 - 1}, {1 << 23, top - 1, 0, most, 1<<23 - 2}, {1 << 23, top, 1, most, 1<<23 - 1},
		{1 << 23, top - 1199, 1, most, 1<<23 - 1}, {1 << 23, top - 1200, 1, most, 1<<23 - 1}, {1 << 23, top - 1201, 1, most, 1<<23 - 2},
		{1 << 63, 0, 0, most, 0}, {1 << 63, 0, last + 1, most, 1<<63 - 1}, {1 << 63, 1 << 63, 1, most, 1200}, {top, top, 0, most, 0}, {top, top - 1, 0, most, top - 1}, {top, 5, 1, most, 1205},
		{top - 1, top, 0, most, 1}, {top - 1, top, top, most, 1}, {top - 1, top - 1, 0, most, 0},
		{1 << 32, top, 0, most, 1<<32 - 1}, {3, top, 0, most, 0}, {3, top - 1, 0, most, 2}, {2, top, 0, most, 1},
	} {
		checkAck(t, win(c.cwnd, 0, 0, c.rest), c.bytes, 0, false, win(c.want, 0, 0, c.left))
	}
}

// P10.2: a window at Cap grows no more, but its Rest goes on.
func TestAckAtCap(t *testing.T) {
	checkAck(t, win(most, most, 0, 0), 100, 0, false, win(most, most, 0, 120000))
	checkAck(t, win(most, most, 0, most-1200), 1, 0, false, win(most, most, 0, 0))
	checkAck(t, win(most, most, 0, 5), 13982, 0, false, win(most, most, 0, 1189))
	checkAck(t, win(most-1, 0, 0, most-1201), 1, 0, false, win(most, 0, 0, 0))
}

// P10.2: many small answers let a window grow by a Segment a window, but for a little, as the divisor grows meanwhile; one great one by just that.
func TestAckManyAndOne(t *testing.T) {
	begin := win(6600, 6600, 10, 0)
	checkAck(t, begin, 66000, 10, false, win(18600, 6600, 10, 0))
	for _, size := range []uint64{1, 5, 11, 100, 660} {
		c, want := begin, begin
		for n := uint64(0); n < 6600; n += size {
			next := Ack(c, size, 10, false)
			want = acked(want, size, 10, false)
			if next != want || next.Cwnd < c.Cwnd {
				t.Fatalf("Ack(%+v, %d, 10, false) = %+v, want %+v", c, size, next, want)
			}
			c = next
		}
		// The root of 6600 times 6600 and 2 times 1200 times 6600 is 7707: what a divisor that grows all the time would let it grow to.
		if c.Cwnd < 7707 || c.Cwnd > 7800 {
			t.Errorf("by %d bytes a time: %+v", size, c)
		}
	}
	// Below Thresh they are just as one.
	c := New()
	for range 100 {
		c = Ack(c, 12, 0, false)
	}
	if c != Ack(New(), 1200, 0, false) {
		t.Errorf("by 12 bytes a time: %+v", c)
	}
}

// P10.2: whatever the window is, what is answered is what the chapter's words say.
func TestAckAgainstTheWords(t *testing.T) {
	for i, c := range windows() {
		for j, bytes := range fewEdges() {
			for _, at := range []uint64{c.Since - 1, c.Since, c.Since + 1} {
				limited := (i+j)%7 == 0
				checkAck(t, c, bytes, at, limited, acked(c, bytes, at, limited))
			}
		}
	}
	all := edges()
	for i, cwnd := range all {
		for j, bytes := range all {
			for _, rest := range []uint64{0, all[(i+j)%len(all)], top} {
				for _, thresh := range []uint64{0, cwnd - 1, cwnd, cwnd + 1} {
					c := win(cwnd, thresh, 10, rest)
					checkAck(t, c, bytes, 10, false, acked(c, bytes, 10, false))
				}
			}
		}
	}
}

// P10.3: a loss of what was sent below Since is one that is known; at Since and behind it, it is another one.
func TestLossSince(t *testing.T) {
	for _, since := range []uint64{1, 2, 10, 1 << 32, 1 << 63, top - 1, top} {
		c := win(13200, 9000, since, 7)
		for _, at := range []uint64{0, since / 2, since - 1} {
			checkLoss(t, c, at, 50, c)
			checkLoss(t, c, at, top, c)
		}
		for _, at := range []uint64{since, max(since, since+1), top} {
			checkLoss(t, c, at, 50, win(6600, 6600, 51, 0))
		}
	}
	checkLoss(t, win(13200, 9000, 0, 7), 0, 0, win(6600, 6600, 1, 0))
	checkLoss(t, win(13200, 9000, 0, 7), top, 0, win(6600, 6600, 1, 0))
}

// P10.3: windows' halves go downwards, and are held at both edges; Thresh is the same, whatever it was.
func TestLossHalves(t *testing.T) {
	for _, c := range [][2]uint64{
		{0, floor}, {1, floor}, {2399, floor}, {2400, floor}, {2401, floor}, {4798, floor}, {4799, floor}, {4800, 2400}, {4801, 2400}, {4802, 2401}, {4803, 2401},
		{12000, 6000}, {12001, 6000}, {13200, 6600}, {most - 1, most/2 - 1}, {most, most / 2}, {most + 1, most / 2},
		{2*most - 2, most - 1}, {2*most - 1, most - 1}, {2 * most, most}, {2*most + 1, most}, {2*most + 2, most}, {1 << 32, most}, {1 << 63, most}, {top - 1, most}, {top, most},
	} {
		for _, thresh := range []uint64{0, floor, c[1], most, top} {
			checkLoss(t, win(c[0], thresh, 3, 7), 3, 9, win(c[1], c[1], 10, 0))
			checkLoss(t, win(c[0], thresh, 3, top), 4, 9, win(c[1], c[1], 10, 0))
		}
	}
}

// P10.3: Since is behind now, but for a now of the greatest number, where it is that; a now may also be ahead of the packet's time, and of Since.
func TestLossNow(t *testing.T) {
	for _, c := range [][2]uint64{{0, 1}, {1, 2}, {4, 5}, {9, 10}, {1<<32 - 1, 1 << 32}, {1 << 63, 1<<63 + 1}, {top - 2, top - 1}, {top - 1, top}, {top, top}} {
		for _, at := range []uint64{5, 10, 1 << 63, top} {
			checkLoss(t, win(13200, most, 5, 7), at, c[0], win(6600, 6600, c[1], 0))
		}
	}
	// Nothing is behind the greatest number: of what was sent then, each loss is another one.
	c := Loss(win(most, most, 0, 0), 0, top)
	checkLoss(t, c, top-1, top, c)
	checkLoss(t, c, top, top, win(most/4, most/4, top, 0))
}

// P10.3: whatever the window is, what is answered is what the chapter's words say.
func TestLossAgainstTheWords(t *testing.T) {
	for _, c := range windows() {
		for _, now := range fewEdges() {
			for _, at := range []uint64{0, c.Since - 1, c.Since, c.Since + 1, now, top} {
				checkLoss(t, c, at, now, lost(c, at, now))
			}
		}
	}
}

// P10.3: what a Collapse leaves as it was is Thresh alone; it asks no time.
func TestCollapse(t *testing.T) {
	checkCollapse(t, New(), win(floor, most, 0, 0))
	checkCollapse(t, win(6600, 6600, 10, 7), win(floor, 6600, 0, 0))
	checkCollapse(t, win(floor, floor, 0, 0), win(floor, floor, 0, 0))
	checkCollapse(t, win(most, 5, top, top), win(floor, 5, 0, 0))
	checkCollapse(t, api.Reno{}, win(floor, 0, 0, 0))
	for _, c := range windows() {
		checkCollapse(t, c, win(floor, c.Thresh, 0, 0))
		checkCollapse(t, Collapse(c), win(floor, c.Thresh, 0, 0))
	}
}

// P10.3: behind a Collapse a packet of any time counts again, and the window grows fast up to Thresh.
func TestBehindCollapse(t *testing.T) {
	c := Collapse(win(6600, 6600, 1000, 7))
	checkAck(t, c, 1200, 0, false, win(3600, 6600, 0, 0))
	checkLoss(t, c, 0, 5, win(floor, floor, 6, 0))
}

// within tells whether a window is within Floor and Cap.
func within(c api.Reno) bool { return c.Cwnd >= floor && c.Cwnd <= most }

// P10.4: from any window within Floor and Cap on, with any Thresh, Since and Rest, it stays there; Acks never let it fall, losses never let it rise.
func TestWithin(t *testing.T) {
	for _, c := range windows() {
		if !within(c) {
			continue
		}
		for _, n := range fewEdges() {
			for _, at := range []uint64{c.Since - 1, c.Since, top} {
				if got := Ack(c, n, at, false); !within(got) || got.Cwnd < c.Cwnd {
					t.Errorf("Ack(%+v, %d, %d, false) = %+v", c, n, at, got)
				}
				if got := Loss(c, at, n); !within(got) || got.Cwnd > c.Cwnd {
					t.Errorf("Loss(%+v, %d, %d) = %+v", c, at, n, got)
				}
			}
		}
		if got := Collapse(c); !within(got) || got.Cwnd > c.Cwnd {
			t.Errorf("Collapse(%+v) = %+v", c, got)
		}
	}
}

// P10.4: the same by many calls, each on what the one before it gave.
func TestManyCalls(t *testing.T) {
	q := sequence(10)
	for range 40 {
		c, now := New(), q.below(1000)
		for range 500 {
			now += q.below(20)
			at := now - min(now, q.below(60))
			next, want := c, c
			switch q.below(12) {
			case 0:
				next, want = Loss(c, at, now), lost(c, at, now)
				if next.Cwnd > c.Cwnd {
					t.Fatalf("Loss(%+v, %d, %d) = %+v", c, at, now, next)
				}
			case 1:
				if q.below(8) == 0 {
					next, want = Collapse(c), win(floor, c.Thresh, 0, 0)
				}
			default:
				bytes, limited := q.below(1<<q.below(18)+1), q.below(5) == 0
				next, want = Ack(c, bytes, at, limited), acked(c, bytes, at, limited)
				if next.Cwnd < c.Cwnd {
					t.Fatalf("Ack(%+v, %d, %d, %v) = %+v", c, bytes, at, limited, next)
				}
			}
			if next != want || !within(next) {
				t.Fatalf("behind %+v: %+v, want %+v", c, next, want)
			}
			c = next
		}
	}
}

// P10.4: behind a loss no loss of what was sent up to then changes anything, however many there are, and whatever came between.
func TestSecondLoss(t *testing.T) {
	for _, c := range append(windows(), New()) {
		for _, now := range []uint64{0, 1, 10, 1 << 32, top - 1} {
			once := Loss(c, c.Since, now)
			for _, at := range []uint64{0, now / 2, now} {
				checkLoss(t, once, at, now, once)
				checkLoss(t, once, at, top, once)
			}
			grown := Ack(once, 5000, top, false)
			checkLoss(t, grown, now, now, grown)
			checkLoss(t, grown, now+1, now+1, lost(grown, now+1, now+1))
		}
	}
}
