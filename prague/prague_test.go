package prague

import (
	"math/big"
	"testing"

	"wigwag/api"
)

const (
	top   = 1<<64 - 1
	floor = 2400
	most  = 1 << 24
	all   = 1 << 20
)

// edges are numbers at which windows are held, parts and quotients turn, and sums and products wrap.
func edges() []uint64 {
	out := []uint64{0, 1, 2, 9, 10, 11, 14, 15, 16, 17, 31, 32, 33, 100}
	for _, n := range []uint64{1200, floor, 2 * floor, 12000, 1 << 16, all, 2 * all, most, 2 * most, 1 << 32, 1 << 44, 1 << 45, 1 << 63} {
		out = append(out, n-1, n, n+1)
	}
	return append(out, top-all, top-15, top-1, top)
}

// fewEdges are some of them, for what asks for many numbers at once.
func fewEdges() []uint64 {
	return []uint64{0, 1, 15, 16, floor - 1, floor, 12000, all - 1, all, all + 1, 2*all - 1, 2 * all, 2*all + 1, most - 1, most, most + 1, 1 << 45, top - 1, top}
}

// windows are hand-made ones: their numbers need not be those of any calls.
func windows() []api.Prague {
	var out []api.Prague
	few := fewEdges()
	at := func(n int) uint64 { return few[n%len(few)] }
	for i, cwnd := range few {
		for j, alpha := range few {
			for k, acked := range few {
				out = append(out, api.Prague{
					Base:  api.Reno{Cwnd: cwnd, Thresh: at(i + 3*j + k), Since: at(i + j + 5*k), Rest: at(2*i + j + k)},
					Alpha: alpha, Acked: acked, Marked: at(i + 2*k), End: at(j + 4*k), Cut: (i+j+k)%2 == 0,
				})
			}
		}
	}
	return out
}

// sequence is numbers without a plain order, the same ones in each run.
type sequence uint64

func (q *sequence) below(n uint64) uint64 {
	*q = *q*6364136223846793005 + 1442695040888963407
	return uint64(*q) >> 16 % n
}

// of is one of some numbers.
func (q *sequence) of(numbers []uint64) uint64 { return numbers[q.below(uint64(len(numbers)))] }

func large(n uint64) *big.Int { return new(big.Int).SetUint64(n) }

// fitted is a number of any size, or the greatest one of 64 bits.
func fitted(n *big.Int) uint64 {
	if !n.IsUint64() {
		return top
	}
	return n.Uint64()
}

func sum(a, b uint64) uint64     { return fitted(new(big.Int).Add(large(a), large(b))) }
func product(a, b uint64) uint64 { return fitted(new(big.Int).Mul(large(a), large(b))) }

// less is a less b, or 0.
func less(a, b uint64) uint64 {
	if a < b {
		return 0
	}
	return a - b
}

// part is a product through a number that is not 0.
func part(a, b, c uint64) uint64 {
	n := new(big.Int).Mul(large(a), large(b))
	return fitted(n.Div(n, large(c)))
}

// held is P10.1's Held, word by word.
func held(n uint64) uint64 {
	if n < 2400 {
		return 2400
	}
	if n > 16777216 {
		return 16777216
	}
	return n
}

// grown is P10.2, word by word.
func grown(c api.Reno, bytes, at uint64, limited bool) api.Reno {
	if at < c.Since || limited {
		return c
	}
	if c.Cwnd < c.Thresh {
		c.Cwnd = held(sum(c.Cwnd, bytes))
		return c
	}
	c.Rest = sum(c.Rest, product(bytes, 1200))
	divisor := c.Cwnd
	if divisor == 0 {
		divisor = 1
	}
	c.Cwnd, c.Rest = held(sum(c.Cwnd, c.Rest/divisor)), c.Rest%divisor
	return c
}

// halved is P10.3's Loss, word by word.
func halved(c api.Reno, at, now uint64) api.Reno {
	if at < c.Since {
		return c
	}
	return api.Reno{Cwnd: held(c.Cwnd / 2), Thresh: held(c.Cwnd / 2), Since: sum(now, 1)}
}

// acked is P14.2, word by word.
func acked(c api.Prague, g api.Got) api.Prague {
	c.Acked = sum(c.Acked, g.Bytes)
	if g.Number >= c.End {
		lesser := c.Marked
		if c.Acked < lesser {
			lesser = c.Acked
		}
		share := uint64(0)
		if c.Acked != 0 {
			share = part(lesser, 1048576, c.Acked)
		}
		c.Alpha = sum(less(c.Alpha, c.Alpha/16), share/16)
		c.Acked, c.Marked = 0, 0
		c.End = g.Next
		c.Cut = false
	}
	c.Base = grown(c.Base, g.Bytes, g.At, g.Limited)
	return c
}

// marked is P14.3, word by word.
func marked(c api.Prague, bytes, at uint64) api.Prague {
	c.Marked = sum(c.Marked, bytes)
	if c.Cut || at < c.Base.Since {
		return c
	}
	c.Cut = true
	c.Base.Thresh = held(less(c.Base.Cwnd, part(c.Base.Cwnd, c.Alpha, 2097152)))
	c.Base.Cwnd = c.Base.Thresh
	c.Base.Rest = 0
	return c
}

// lost is P14.4's Loss, word by word.
func lost(c api.Prague, at, now uint64) api.Prague {
	c.Base = halved(c.Base, at, now)
	return c
}

// collapsed is P14.4's Collapse, word by word.
func collapsed(c api.Prague) api.Prague {
	c.Base.Cwnd, c.Base.Since, c.Base.Rest = 2400, 0, 0
	return c
}

func checkAck(t *testing.T, c api.Prague, g api.Got, want api.Prague) {
	t.Helper()
	if got := Ack(c, g); got != want {
		t.Errorf("Ack(%+v, %+v) = %+v, want %+v", c, g, got, want)
	}
}

func checkMark(t *testing.T, c api.Prague, bytes, at uint64, want api.Prague) {
	t.Helper()
	if got := Mark(c, bytes, at); got != want {
		t.Errorf("Mark(%+v, %d, %d) = %+v, want %+v", c, bytes, at, got, want)
	}
}

func checkLoss(t *testing.T, c api.Prague, at, now uint64, want api.Prague) {
	t.Helper()
	if got := Loss(c, at, now); got != want {
		t.Errorf("Loss(%+v, %d, %d) = %+v, want %+v", c, at, now, got, want)
	}
}

func checkCollapse(t *testing.T, c, want api.Prague) {
	t.Helper()
	if got := Collapse(c); got != want {
		t.Errorf("Collapse(%+v) = %+v, want %+v", c, got, want)
	}
}

// level is a base whose Thresh is its Cwnd.
func level(cwnd, since, rest uint64) api.Reno {
	return api.Reno{Cwnd: cwnd, Thresh: cwnd, Since: since, Rest: rest}
}

// P14.1 to P14.3: the chapter's examples.
func TestExamples(t *testing.T) {
	n := New(5)
	if n.Base.Cwnd != 12000 || n.Alpha != 1048576 {
		t.Errorf("New(5) = %+v", n)
	}
	m := Mark(n, 1200, 0)
	if m.Base.Cwnd != 6000 || m.Marked != 1200 {
		t.Errorf("Mark(%+v, 1200, 0) = %+v", n, m)
	}
	checkAck(t, m, api.Got{Bytes: 2400, Number: 5, Next: 9}, api.Prague{Base: api.Reno{Cwnd: 6480, Thresh: 6000}, Alpha: 1015808, End: 9})
}

// P14.1: a window at its beginning has reno's, an Alpha of all, and the end that it is told; the next one is just that too.
func TestNew(t *testing.T) {
	for _, next := range []uint64{0, 1, 5, 1 << 32, 1 << 63, top - 1, top} {
		want := api.Prague{Base: api.Reno{Cwnd: 12000, Thresh: 16777216}, Alpha: 1048576, End: next}
		for range 2 {
			if got := New(next); got != want {
				t.Errorf("New(%d) = %+v, want %+v", next, got, want)
			}
			Collapse(Ack(Loss(Mark(New(next), 7, 8), 8, 9), api.Got{Bytes: 5000, Number: top, Next: 77}))
		}
	}
}

// still is a window in the midst of a round that ends at a packet's number: its base grows no more, where it is limited.
func still(end uint64) api.Prague {
	return api.Prague{Base: level(6000, 10, 7), Alpha: 160000, Acked: 3000, Marked: 600, End: end, Cut: true}
}

// P14.2: just below End a round goes on, at it and above it the round ends.
func TestAckEnd(t *testing.T) {
	for _, end := range []uint64{1, 2, 5, 1 << 32, 1 << 63, top - 1, top} {
		c := still(end)
		for _, number := range []uint64{0, end / 2, end - 1} {
			want := c
			want.Acked = 4000
			checkAck(t, c, api.Got{Bytes: 1000, Number: number, Next: 77, Limited: true}, want)
		}
		for _, number := range []uint64{end, max(end, end+1), top} {
			// 600 of 4000 are 157286 parts, a sixteenth of which is 9830; of 160000 a sixteenth is 10000.
			want := api.Prague{Base: c.Base, Alpha: 159830, End: 77}
			checkAck(t, c, api.Got{Bytes: 1000, Number: number, Next: 77, Limited: true}, want)
		}
	}
}

// P14.2: an End of 0 is at or below any number; one of the greatest number only that number is at.
func TestAckEndAtEdges(t *testing.T) {
	for _, number := range []uint64{0, 1, 77, top} {
		checkAck(t, still(0), api.Got{Number: number, Next: 78, Limited: true}, api.Prague{Base: level(6000, 10, 7), Alpha: 163107, End: 78})
	}
	checkAck(t, still(top), api.Got{Number: top - 1, Next: 78, Limited: true}, still(top))
	checkAck(t, still(top), api.Got{Number: top, Next: 78, Limited: true}, api.Prague{Base: level(6000, 10, 7), Alpha: 163107, End: 78})
}

// P14.2: the next round ends where it is told, also where that is below the End that was, or the number itself.
func TestAckNext(t *testing.T) {
	for _, next := range []uint64{0, 1, 49, 50, 51, 52, 1 << 63, top} {
		checkAck(t, still(50), api.Got{Bytes: 0, Number: 51, Next: next, Limited: true}, api.Prague{Base: level(6000, 10, 7), Alpha: 163107, End: next})
		checkAck(t, still(50), api.Got{Bytes: 0, Number: 49, Next: next, Limited: true}, still(50))
	}
	// A Next below the next number lets each answer end a round.
	c := Ack(still(50), api.Got{Number: 51, Next: 20, Limited: true})
	checkAck(t, c, api.Got{Number: 30, Next: 60, Limited: true}, api.Prague{Base: level(6000, 10, 7), Alpha: 152913, End: 60})
}

// P14.2: within a round what is acked is summed up, up to the greatest number, and nothing else but the base changes, whatever it is.
func TestAckWithin(t *testing.T) {
	for _, n := range fewEdges() {
		for _, cut := range []bool{false, true} {
			c := api.Prague{Base: level(6000, 10, 7), Alpha: n, Marked: n, End: max(n, 1), Cut: cut}
			for _, x := range [][3]uint64{
				{0, 0, 0}, {0, 1, 1}, {5, 0, 5}, {5, 7, 12}, {top - 5, 4, top - 1}, {top - 5, 5, top}, {top - 5, 6, top}, {top - 5, top, top},
				{top, 0, top}, {top, 1, top}, {top, top, top}, {1 << 63, 1 << 63, top}, {1 << 63, 1<<63 - 1, top}, {1 << 63, 1<<63 - 2, top - 1}, {0, top, top}, {1, top, top},
			} {
				from, want := c, c
				from.Acked, want.Acked = x[0], x[2]
				checkAck(t, from, api.Got{Bytes: x[1], Number: max(n, 1) - 1, Next: 5, Limited: true}, want)
			}
		}
	}
}

// followed is the Alpha behind the end of a round of these numbers.
func followed(alpha, acked, marked, bytes uint64) uint64 {
	return Ack(api.Prague{Alpha: alpha, Acked: acked, Marked: marked, End: 5}, api.Got{Bytes: bytes, Number: 5}).Alpha
}

// P14.2: where nothing was marked, Alpha loses its sixteenth, which goes downwards.
func TestAckUnmarked(t *testing.T) {
	for _, c := range [][2]uint64{
		{0, 0}, {1, 1}, {14, 14}, {15, 15}, {16, 15}, {17, 16}, {31, 30}, {32, 30}, {33, 31}, {160, 150},
		{all - 17, 983025}, {all - 16, 983025}, {all - 1, 983040}, {all, 983040}, {all + 1, 983041}, {all + 16, 983055}, {2 * all, 1966080}, {1 << 63, 8646911284551352320},
		{top - 16, 17293822569102704625}, {top - 15, 17293822569102704625}, {top - 1, 17293822569102704639}, {top, 17293822569102704640},
	} {
		for _, bytes := range []uint64{0, 1, 1200, top} {
			for _, acked := range []uint64{0, 1, 5000, top} {
				if got := followed(c[0], acked, 0, bytes); got != c[1] {
					t.Errorf("an Alpha of %d, of %d bytes and %d unmarked: %d, want %d", c[0], acked, bytes, got, c[1])
				}
			}
		}
	}
}

// P14.2: where all was marked, or more than all, Alpha gets a sixteenth of the whole; no sum of it wraps.
func TestAckAllMarked(t *testing.T) {
	for _, c := range [][2]uint64{
		{0, 65536}, {15, 65551}, {16, 65551}, {17, 65552}, {all - 16, 1048561}, {all - 1, all}, {all, all}, {all + 1, all + 1}, {all + 16, 1048591}, {2 * all, 2031616},
		{top - 1, 17293822569102770175}, {top, 17293822569102770176},
	} {
		for _, acked := range []uint64{1, 2, 16, 5000, all, 1 << 44, 1<<44 + 1, 1 << 63, top - 1, top} {
			for _, marked := range []uint64{acked, max(acked, acked+1), max(acked, 2*acked), top} {
				if got := followed(c[0], acked, marked, 0); got != c[1] {
					t.Errorf("an Alpha of %d, of %d bytes and %d marked ones: %d, want %d", c[0], acked, marked, got, c[1])
				}
			}
		}
	}
}

// P14.2: of no bytes at all the share is 0, whatever was marked.
func TestAckNoBytes(t *testing.T) {
	for _, marked := range []uint64{0, 1, 1200, all, top} {
		for _, c := range [][2]uint64{{0, 0}, {15, 15}, {16, 15}, {all, 983040}, {top, 17293822569102704640}} {
			if got := followed(c[0], 0, marked, 0); got != c[1] {
				t.Errorf("an Alpha of %d, of no bytes and %d marked ones: %d, want %d", c[0], marked, got, c[1])
			}
		}
	}
	// One byte that comes with the round's end is enough.
	for _, marked := range []uint64{1, 2, top} {
		if got := followed(0, 0, marked, 1); got != 65536 {
			t.Errorf("of one byte and %d marked ones: %d", marked, got)
		}
	}
	if got := followed(0, 0, 0, 1); got != 0 {
		t.Errorf("of one byte, unmarked: %d", got)
	}
}

// P14.2: the share goes downwards, and its sixteenth too: below 16 it is as none.
func TestAckShare(t *testing.T) {
	for _, c := range []struct{ acked, marked, sixteenth uint64 }{
		{all, 0, 0}, {all, 1, 0}, {all, 15, 0}, {all, 16, 1}, {all, 17, 1}, {all, 31, 1}, {all, 32, 2}, {all, all - 16, 65535}, {all, all - 1, 65535}, {all, all, 65536}, {all, all + 1, 65536}, {all, 2 * all, 65536},
		{1 << 21, 31, 0}, {1 << 21, 32, 1}, {1 << 21, 33, 1}, {1 << 22, 63, 0}, {1 << 22, 64, 1},
		{2400, 1200, 32768}, {2400, 1, 27}, {2400, 2399, 65508}, {2400, 2400, 65536}, {2400, 2401, 65536}, {3, 1, 21845}, {3, 2, 43690}, {7, 3, 28086},
		{65536, 1, 1}, {65537, 1, 0}, {65535, 1, 1}, {32768, 1, 2}, {1, 1, 65536}, {2, 1, 32768},
		{1 << 63, 1 << 62, 32768}, {1 << 63, 1 << 47, 1}, {1 << 63, 1<<47 - 1, 0}, {top, 1 << 48, 1}, {top, 1<<48 - 1, 0}, {top, 1 << 63, 32768}, {top, 1<<63 - 1, 32767}, {top, top - 1, 65535}, {top, top, 65536},
	} {
		for _, bytes := range []uint64{0, 1, c.acked / 2, c.acked} {
			if got := followed(0, c.acked-bytes, c.marked, bytes); got != c.sixteenth {
				t.Errorf("of %d bytes and %d: %d marked ones: %d, want %d", c.acked-bytes, bytes, c.marked, got, c.sixteenth)
			}
			if got := followed(1600, c.acked-bytes, c.marked, bytes); got != 1500+c.sixteenth {
				t.Errorf("an Alpha of 1600, of %d bytes and %d: %d marked ones: %d, want %d", c.acked-bytes, bytes, c.marked, got, 1500+c.sixteenth)
			}
		}
	}
}

// P14.2: where a round ends, what is acked does not wrap either: a half of the greatest number that is marked is a half of all.
func TestAckEndDoesNotWrap(t *testing.T) {
	for _, c := range []struct{ acked, bytes, marked, want uint64 }{
		{top, 1, 1 << 63, 32768}, {top, top, 1 << 63, 32768}, {1 << 63, 1 << 63, 1 << 63, 32768}, {1 << 63, 1<<63 + 5, 1 << 63, 32768}, {top - 1, 1, 1 << 63, 32768}, {top, 5, 4, 0}, {top, 1, top, 65536}, {top, 0, 1 << 62, 16384},
	} {
		if got := followed(0, c.acked, c.marked, c.bytes); got != c.want {
			t.Errorf("of %d bytes and %d: %d marked ones: %d, want %d", c.acked, c.bytes, c.marked, got, c.want)
		}
	}
}

// P14.2: where a round ends, what was acked and marked begins anew, and a window may be cut again; whatever was.
func TestAckBeginsAnew(t *testing.T) {
	for _, n := range fewEdges() {
		for _, cut := range []bool{false, true} {
			c := api.Prague{Base: level(6000, 10, 7), Acked: n, Marked: n, End: 5, Cut: cut}
			want := api.Prague{Base: level(6000, 10, 7), End: 9}
			if n > 0 {
				want.Alpha = 65536
			}
			checkAck(t, c, api.Got{Number: 5, Next: 9, Limited: true}, want)
			// The new bytes are the last ones of the round that ends, not the first ones of the next.
			if got := Ack(c, api.Got{Bytes: 1200, Number: 5, Next: 9, Limited: true}); got.Acked != 0 || got.Marked != 0 || got.Cut {
				t.Errorf("behind a round's end: %+v", got)
			}
		}
	}
}

// P14.2: the base is what reno says of the bytes, in a slow start and behind it, within a round and where one ends.
func TestAckBase(t *testing.T) {
	for _, c := range []struct {
		from    api.Reno
		bytes   uint64
		at      uint64
		limited bool
		want    api.Reno
	}{
		{api.Reno{Cwnd: 12000, Thresh: most}, 1200, 0, false, api.Reno{Cwnd: 13200, Thresh: most}},
		{api.Reno{Cwnd: 12000, Thresh: most}, 0, 0, false, api.Reno{Cwnd: 12000, Thresh: most}},
		{api.Reno{Cwnd: 12000, Thresh: most}, 1200, 0, true, api.Reno{Cwnd: 12000, Thresh: most}},
		{api.Reno{Cwnd: 12000, Thresh: most, Since: 10, Rest: 7}, 1200, 9, false, api.Reno{Cwnd: 12000, Thresh: most, Since: 10, Rest: 7}},
		{api.Reno{Cwnd: 12000, Thresh: most, Since: 10, Rest: 7}, 1200, 10, false, api.Reno{Cwnd: 13200, Thresh: most, Since: 10, Rest: 7}},
		{api.Reno{Cwnd: 12000, Thresh: most, Since: 10, Rest: 7}, 1200, 11, false, api.Reno{Cwnd: 13200, Thresh: most, Since: 10, Rest: 7}},
		{api.Reno{Cwnd: 12000, Thresh: most, Since: 10, Rest: 7}, 1200, 11, true, api.Reno{Cwnd: 12000, Thresh: most, Since: 10, Rest: 7}},
		{api.Reno{Cwnd: 5999, Thresh: 6000}, 60, 0, false, api.Reno{Cwnd: 6059, Thresh: 6000}},
		{level(6000, 0, 0), 60, 0, false, api.Reno{Cwnd: 6012, Thresh: 6000}},
		{level(6000, 0, 0), 0, 0, false, level(6000, 0, 0)},
		{level(6000, 10, 5000), 1, 10, false, api.Reno{Cwnd: 6001, Thresh: 6000, Since: 10, Rest: 200}},
		{level(6000, 10, 5000), 1, 9, false, level(6000, 10, 5000)},
		{level(6000, 10, 5000), 1, 10, true, level(6000, 10, 5000)},
		{level(6000, top, 5000), 1, top - 1, false, level(6000, top, 5000)},
		{level(6000, top, 5000), 1, top, false, api.Reno{Cwnd: 6001, Thresh: 6000, Since: top, Rest: 200}},
		{api.Reno{}, 0, 0, false, api.Reno{Cwnd: floor}},
		{api.Reno{}, 5, 0, true, api.Reno{}},
		{api.Reno{Cwnd: top, Thresh: 5, Rest: top}, top, 0, false, api.Reno{Cwnd: most, Thresh: 5}},
		{api.Reno{Cwnd: 12000, Thresh: most}, top, 0, false, api.Reno{Cwnd: most, Thresh: most}},
	} {
		for _, number := range []uint64{49, 50} {
			for _, marked := range []uint64{0, 600, top} {
				got := Ack(api.Prague{Base: c.from, Alpha: all, Marked: marked, End: 50, Cut: true}, api.Got{Bytes: c.bytes, At: c.at, Number: number, Next: 60, Limited: c.limited})
				if got.Base != c.want {
					t.Errorf("of %+v, %d bytes of %d, limited %v: %+v, want %+v", c.from, c.bytes, c.at, c.limited, got.Base, c.want)
				}
			}
		}
	}
}

// P14.2: rounds are told by numbers alone: they end, and bytes are summed up, also where the base does not grow.
func TestAckRoundsWithoutGrowth(t *testing.T) {
	c := api.Prague{Base: level(6000, 10, 7), Alpha: all, Acked: 1200, Marked: 600, End: 5}
	for _, g := range []api.Got{{Limited: true}, {At: 9}, {At: 9, Limited: true}, {At: 10, Limited: true}} {
		g.Bytes, g.Number, g.Next = 1200, 4, 9
		want := c
		want.Acked = 2400
		checkAck(t, c, g, want)
		g.Number = 5
		checkAck(t, c, g, api.Prague{Base: level(6000, 10, 7), Alpha: 999424, End: 9})
	}
}

// P14.2: an Ack asks no more of what came than it says.
func TestAckAsksNoMore(t *testing.T) {
	for _, number := range []uint64{4, 5} {
		g := api.Got{Bytes: 1200, At: 10, Number: number, Next: 9}
		want := acked(still(5), g)
		for _, n := range fewEdges() {
			g.Now, g.Took, g.Flight, g.Rate, g.Round = n, n, n, n, n%2 == 0
			checkAck(t, still(5), g, want)
		}
	}
}

// P14.2: whatever the window is, what is answered is what the chapter's words say.
func TestAckAgainstTheWords(t *testing.T) {
	few := fewEdges()
	for i, c := range windows() {
		for j, bytes := range few {
			for k, number := range []uint64{c.End - 1, c.End, c.End + 1} {
				g := api.Got{
					Bytes: bytes, At: []uint64{c.Base.Since - 1, c.Base.Since, c.Base.Since + 1}[(i+j+k)%3],
					Number: number, Next: few[(i+3*j+k)%len(few)], Limited: (i+j)%5 == 0,
				}
				checkAck(t, c, g, acked(c, g))
			}
		}
	}
	every := edges()
	for i, alpha := range every {
		for j, acks := range every {
			for k, marks := range every {
				c := api.Prague{Base: level(every[(i+j)%len(every)], 0, every[k]), Alpha: alpha, Acked: acks, Marked: marks, Cut: k%2 == 0}
				g := api.Got{Bytes: every[(i+j+k)%len(every)], Next: alpha}
				checkAck(t, c, g, acked(c, g))
				g.Bytes = 0
				checkAck(t, c, g, acked(c, g))
			}
		}
	}
}

// P14.3: what is marked is summed up, up to the greatest number, whether the window falls or not.
func TestMarkSum(t *testing.T) {
	for _, x := range [][3]uint64{
		{0, 0, 0}, {0, 1, 1}, {5, 0, 5}, {5, 7, 12}, {top - 5, 4, top - 1}, {top - 5, 5, top}, {top - 5, 6, top}, {top - 5, top, top},
		{top, 0, top}, {top, 1, top}, {top, top, top}, {1 << 63, 1 << 63, top}, {1 << 63, 1<<63 - 1, top}, {1 << 63, 1<<63 - 2, top - 1}, {0, top, top}, {1, top, top},
	} {
		for _, cut := range []bool{false, true} {
			for _, at := range []uint64{9, 10} {
				c := api.Prague{Base: level(6000, 10, 7), Alpha: all, Acked: 3, Marked: x[0], End: 8, Cut: cut}
				want := api.Prague{Base: level(6000, 10, 7), Alpha: all, Acked: 3, Marked: x[2], End: 8, Cut: cut}
				if !cut && at == 10 {
					want.Base, want.Cut = level(3000, 10, 0), true
				}
				checkMark(t, c, x[1], at, want)
			}
		}
	}
}

// P14.3: a mark of what was sent below Since lets nothing fall, nor is it the round's cut; one of Since, or behind it, is.
func TestMarkSince(t *testing.T) {
	for _, since := range []uint64{1, 2, 10, 1 << 32, 1 << 63, top - 1, top} {
		c := api.Prague{Base: api.Reno{Cwnd: 12000, Thresh: 9000, Since: since, Rest: 7}, Alpha: all, Acked: 3, Marked: 4, End: 8}
		for _, at := range []uint64{0, since / 2, since - 1} {
			want := c
			want.Marked = 1204
			checkMark(t, c, 1200, at, want)
		}
		for _, at := range []uint64{since, max(since, since+1), top} {
			checkMark(t, c, 1200, at, api.Prague{Base: level(6000, since, 0), Alpha: all, Acked: 3, Marked: 1204, End: 8, Cut: true})
		}
	}
	for _, at := range []uint64{0, 1, top} {
		checkMark(t, api.Prague{Base: api.Reno{Cwnd: 12000, Thresh: 9000, Rest: 7}, Alpha: all}, 5, at, api.Prague{Base: level(6000, 0, 0), Alpha: all, Marked: 5, Cut: true})
	}
}

// P14.3: of a window that is cut already only the bytes are told, whatever its numbers are.
func TestMarkCut(t *testing.T) {
	for _, c := range windows() {
		if !c.Cut {
			continue
		}
		for _, at := range []uint64{0, c.Base.Since - 1, c.Base.Since, top} {
			for _, bytes := range []uint64{0, 1200, top} {
				want := c
				want.Marked = sum(c.Marked, bytes)
				checkMark(t, c, bytes, at, want)
			}
		}
	}
}

// P14.3: a window falls by half of Alpha's share, downwards: by none of an Alpha of 0, by a half of the whole, and wholly from 2^21 on.
func TestMarkAlpha(t *testing.T) {
	for _, c := range []struct{ cwnd, alpha, want uint64 }{
		{12000, 0, 12000}, {12000, 1, 12000}, {12000, 174, 12000}, {12000, 175, 11999}, {12000, 349, 11999}, {12000, 350, 11998}, {12000, all / 2, 9000}, {12000, all / 4, 10500}, {12000, 1015808, 6188},
		{12000, all - 1, 6001}, {12000, all, 6000}, {12000, all + 1, 6000}, {12000, all + 174, 6000}, {12000, all + 175, 5999}, {12000, all + all/2, 3000},
		{12000, 2*all - 1, floor}, {12000, 2 * all, floor}, {12000, 2*all + 1, floor}, {12000, 1 << 63, floor}, {12000, top - 1, floor}, {12000, top, floor},
		{12001, all, 6001}, {12002, all, 6001}, {12003, all, 6002}, {most, all, most / 2}, {most, 1, most - 8}, {most, 0, most}, {most, 1048575, 8388616},
		// What is left of a greater window by an Alpha just below 2^21 is more than the least one.
		{most, 2*all - 1, floor}, {1 << 33, 2*all - 1, 4096}, {1<<33 + 1, 2*all - 1, 4097}, {1 << 33, 2 * all, floor}, {1 << 33, 2*all + 1, floor},
	} {
		for _, thresh := range []uint64{0, c.want, 9000, most, top} {
			from := api.Prague{Base: api.Reno{Cwnd: c.cwnd, Thresh: thresh, Since: 3, Rest: 7}, Alpha: c.alpha, End: 8}
			checkMark(t, from, 5, 3, api.Prague{Base: level(c.want, 3, 0), Alpha: c.alpha, Marked: 5, End: 8, Cut: true})
		}
	}
}

// P14.3: what is left is held at both edges, of any window, and neither product nor difference wraps.
func TestMarkHeld(t *testing.T) {
	for _, c := range []struct{ cwnd, alpha, want uint64 }{
		{0, 0, floor}, {0, all, floor}, {0, top, floor}, {1, 0, floor}, {1, all, floor}, {1, top, floor}, {2399, 0, floor}, {2400, 0, 2400}, {2401, 0, 2401}, {2400, all, floor}, {2401, 1, 2401}, {2401, 2 * all, floor},
		{4797, all, floor}, {4798, all, floor}, {4799, all, 2400}, {4800, all, 2400}, {4801, all, 2401}, {4802, all, 2401}, {4803, all, 2402},
		{most - 1, 0, most - 1}, {most, 0, most}, {most + 1, 0, most}, {2*most - 3, all, most - 1}, {2*most - 2, all, most - 1}, {2*most - 1, all, most}, {2 * most, all, most}, {2*most + 1, all, most}, {2*most + 2, all, most},
		{1<<45 - 1<<21, 2*all - 1, most - 1}, {1<<45 - 1<<21 + 1, 2*all - 1, most}, {1 << 45, 2*all - 1, most}, {1<<45 + 1, 2*all - 1, most}, {1 << 45, 2 * all, floor}, {1 << 44, 2*all - 1, most / 2},
		{1 << 63, all, most}, {1 << 63, 2*all - 1, most}, {1 << 63, 2 * all, floor}, {1 << 63, top, floor},
		{top, 0, most}, {top, all, most}, {top, 2*all - 1, most}, {top, 2 * all, floor}, {top, 2*all + 1, floor}, {top, 1 << 63, floor}, {top, top, floor}, {top - 1, top, floor},
	} {
		from := api.Prague{Base: api.Reno{Cwnd: c.cwnd, Thresh: 9000, Rest: 7}, Alpha: c.alpha}
		checkMark(t, from, 5, 0, api.Prague{Base: level(c.want, 0, 0), Alpha: c.alpha, Marked: 5, Cut: true})
	}
}

// P14.3: a Rest begins anew where the window falls, also by nothing, and stays where it does not; Since, Alpha, Acked and End stay always.
func TestMarkRest(t *testing.T) {
	for _, n := range fewEdges() {
		c := api.Prague{Base: api.Reno{Cwnd: 12000, Thresh: n, Since: n, Rest: n}, Alpha: n, Acked: n, Marked: 5, End: n}
		fallen := Mark(c, 6, n)
		if fallen.Base.Rest != 0 || fallen.Base.Since != n || fallen.Alpha != n || fallen.Acked != n || fallen.End != n || fallen.Marked != 11 || !fallen.Cut {
			t.Errorf("Mark(%+v, 6, %d) = %+v", c, n, fallen)
		}
		cut := c
		cut.Cut = true
		want := cut
		want.Marked = 11
		checkMark(t, cut, 6, n, want)
		if n > 0 {
			want = c
			want.Marked = 11
			checkMark(t, c, 6, n-1, want)
		}
	}
	checkMark(t, api.Prague{Base: level(6000, 0, 7)}, 6, 0, api.Prague{Base: level(6000, 0, 0), Marked: 6, Cut: true})
}

// P14.3: a mark of 0 bytes is one too.
func TestMarkNoBytes(t *testing.T) {
	c := New(5)
	once := api.Prague{Base: level(6000, 0, 0), Alpha: all, End: 5, Cut: true}
	checkMark(t, c, 0, 0, once)
	checkMark(t, once, 0, 0, once)
	elder := Loss(c, 0, 9)
	checkMark(t, elder, 0, 9, elder)
}

// P14.3: a second mark within a round lets nothing fall, the first one behind its end does, by what Alpha is then.
func TestMarkOnceARound(t *testing.T) {
	c := Mark(New(5), 1200, 0)
	for range 3 {
		next := Mark(c, 1200, 7)
		if next.Base != c.Base || next.Marked != c.Marked+1200 {
			t.Errorf("a second mark: %+v, behind %+v", next, c)
		}
		c = next
	}
	c = Ack(c, api.Got{Number: 4, Next: 8, Bytes: 1200, Limited: true})
	checkMark(t, c, 1, 7, api.Prague{Base: level(6000, 0, 0), Alpha: all, Acked: 1200, Marked: 4801, End: 5, Cut: true})
	c = Ack(c, api.Got{Number: 5, Next: 9, Bytes: 8400, Limited: true})
	checkMark(t, c, 1, 7, api.Prague{Base: level(3094, 0, 0), Alpha: 1015808, Marked: 1, End: 9, Cut: true})
	// A mark of before a loss leaves the cut to the next one.
	c = Mark(Loss(c, 7, 20), 1, 20)
	checkMark(t, c, 1, 21, api.Prague{Base: level(floor, 21, 0), Alpha: 1015808, Marked: 2, End: 9, Cut: true})
	if c.Cut || c.Base != level(3000, 21, 0) {
		t.Errorf("behind a loss and a mark of before it: %+v", c)
	}
}

// P14.3: whatever the window is, what is answered is what the chapter's words say.
func TestMarkAgainstTheWords(t *testing.T) {
	for _, c := range windows() {
		for _, bytes := range fewEdges() {
			for _, at := range []uint64{0, c.Base.Since - 1, c.Base.Since, c.Base.Since + 1, top} {
				checkMark(t, c, bytes, at, marked(c, bytes, at))
			}
		}
	}
	every := edges()
	for i, cwnd := range every {
		for j, alpha := range every {
			for k, rest := range every {
				c := api.Prague{Base: api.Reno{Cwnd: cwnd, Thresh: every[(i+k)%len(every)], Since: 10, Rest: rest}, Alpha: alpha, Marked: every[(j+k)%len(every)]}
				checkMark(t, c, rest, 10, marked(c, rest, 10))
			}
		}
	}
}

// P14.4: a loss of what was sent below Since changes nothing; at Since and behind it, it halves the base, and leaves all else.
func TestLossSince(t *testing.T) {
	for _, since := range []uint64{1, 2, 10, 1 << 32, 1 << 63, top - 1, top} {
		for _, cut := range []bool{false, true} {
			c := api.Prague{Base: api.Reno{Cwnd: 13200, Thresh: 9000, Since: since, Rest: 7}, Alpha: 3, Acked: 4, Marked: 5, End: 6, Cut: cut}
			for _, at := range []uint64{0, since / 2, since - 1} {
				checkLoss(t, c, at, 50, c)
				checkLoss(t, c, at, top, c)
			}
			for _, at := range []uint64{since, max(since, since+1), top} {
				checkLoss(t, c, at, 50, api.Prague{Base: level(6600, 51, 0), Alpha: 3, Acked: 4, Marked: 5, End: 6, Cut: cut})
				checkLoss(t, c, at, top, api.Prague{Base: level(6600, top, 0), Alpha: 3, Acked: 4, Marked: 5, End: 6, Cut: cut})
			}
		}
	}
	checkLoss(t, New(5), 0, 0, api.Prague{Base: level(6000, 1, 0), Alpha: all, End: 5})
}

// P14.4: whatever the window is, Loss answers what the chapter's words say.
func TestLossAgainstTheWords(t *testing.T) {
	for _, c := range windows() {
		for _, now := range fewEdges() {
			for _, at := range []uint64{0, c.Base.Since - 1, c.Base.Since, c.Base.Since + 1, now, top} {
				checkLoss(t, c, at, now, lost(c, at, now))
			}
		}
	}
}

// P14.4: a Collapse leaves of the base its Thresh, and all that is not of the base.
func TestCollapse(t *testing.T) {
	checkCollapse(t, New(5), api.Prague{Base: api.Reno{Cwnd: floor, Thresh: most}, Alpha: all, End: 5})
	checkCollapse(t, api.Prague{}, api.Prague{Base: api.Reno{Cwnd: floor}})
	full := api.Prague{Base: api.Reno{Cwnd: 8400, Thresh: 8300, Since: 10, Rest: 7}, Alpha: 3, Acked: 4, Marked: 5, End: 6, Cut: true}
	checkCollapse(t, full, api.Prague{Base: api.Reno{Cwnd: floor, Thresh: 8300}, Alpha: 3, Acked: 4, Marked: 5, End: 6, Cut: true})
	full.Cut = false
	checkCollapse(t, full, api.Prague{Base: api.Reno{Cwnd: floor, Thresh: 8300}, Alpha: 3, Acked: 4, Marked: 5, End: 6})
	for _, c := range windows() {
		checkCollapse(t, c, collapsed(c))
		checkCollapse(t, Collapse(c), collapsed(c))
	}
}

// P14.4: behind a Collapse a mark of any time counts again, unless the round had its own already.
func TestMarkBehindCollapse(t *testing.T) {
	c := Collapse(api.Prague{Base: level(8400, 1000, 7), Alpha: all, End: 6})
	checkMark(t, c, 5, 0, api.Prague{Base: level(floor, 0, 0), Alpha: all, Marked: 5, End: 6, Cut: true})
	c.Cut = true
	checkMark(t, c, 5, 0, api.Prague{Base: api.Reno{Cwnd: floor, Thresh: 8400}, Alpha: all, Marked: 5, End: 6, Cut: true})
}

// within tells whether a window is within Floor and Cap.
func within(c api.Prague) bool { return c.Base.Cwnd >= floor && c.Base.Cwnd <= most }

// P14.5: an Alpha that is at most 2^20 stays so, whatever comes; all of them that end a round of all marks, and some of any.
func TestAlphaStays(t *testing.T) {
	for alpha := uint64(0); alpha <= all; alpha++ {
		if got := followed(alpha, 1, 1, 0); got > all {
			t.Fatalf("an Alpha of %d becomes %d", alpha, got)
		}
	}
	for _, c := range windows() {
		if c.Alpha > all {
			continue
		}
		for _, n := range fewEdges() {
			for _, got := range []api.Prague{
				Ack(c, api.Got{Bytes: n, Number: c.End}), Ack(c, api.Got{Bytes: n, Number: c.End - 1}), Ack(c, api.Got{Bytes: n, Number: top}), Mark(c, n, top), Loss(c, top, n), Collapse(c),
			} {
				if got.Alpha > all {
					t.Errorf("of %+v, by %d: %+v", c, n, got)
				}
			}
		}
	}
}

// P14.5: from any window within Floor and Cap on, with any other numbers, it stays there, and a mark never lets it rise.
func TestWithin(t *testing.T) {
	for _, c := range windows() {
		if !within(c) {
			continue
		}
		for _, n := range fewEdges() {
			for _, at := range []uint64{c.Base.Since - 1, c.Base.Since, top} {
				for _, got := range []api.Prague{Ack(c, api.Got{Bytes: n, At: at, Number: n, Next: n}), Ack(c, api.Got{Bytes: n, At: at, Number: c.End})} {
					if !within(got) || got.Base.Cwnd < c.Base.Cwnd {
						t.Errorf("Ack of %+v, %d bytes of %d: %+v", c, n, at, got)
					}
				}
				for _, got := range []api.Prague{Mark(c, n, at), Loss(c, at, n)} {
					if !within(got) || got.Base.Cwnd > c.Base.Cwnd {
						t.Errorf("Mark or Loss of %+v, by %d and %d: %+v", c, n, at, got)
					}
				}
			}
		}
		if got := Collapse(c); !within(got) {
			t.Errorf("Collapse(%+v) = %+v", c, got)
		}
	}
}

// P14.5: behind one mark that counted, no other one lets the window fall till a round ends, whatever else comes between.
func TestMarksFallOnce(t *testing.T) {
	for i, c := range windows() {
		c = Mark(c, 1200, c.Base.Since)
		for j, n := range fewEdges() {
			switch (i + j) % 4 {
			case 0:
				c = Loss(c, top, n)
			case 1:
				c = Collapse(c)
			case 2:
				if c.End > 0 {
					c = Ack(c, api.Got{Bytes: n, Number: c.End - 1, At: top, Next: 7})
				}
			}
			if got := Mark(c, n, top); got.Base != c.Base || !got.Cut {
				t.Fatalf("Mark(%+v, %d, %d) = %+v", c, n, uint64(top), got)
			}
		}
	}
}

// P14.5: the same by many calls, each on what the one before it gave.
func TestFollows(t *testing.T) {
	q := sequence(14)
	ends := 0
	for range 40 {
		number, now := q.below(1000), q.below(1000)
		c := New(number)
		falls := 0
		for range 600 {
			now += q.below(20)
			at := now - min(now, q.below(60))
			next, want := c, c
			switch q.below(16) {
			case 0:
				next, want = Loss(c, at, now), lost(c, at, now)
			case 1:
				if q.below(8) == 0 {
					next, want = Collapse(c), collapsed(c)
				}
			case 2, 3, 4:
				bytes := q.below(2400)
				next, want = Mark(c, bytes, at), marked(c, bytes, at)
				if next.Base != c.Base {
					falls++
				}
			default:
				number += q.below(4)
				g := api.Got{Bytes: q.below(1<<q.below(16) + 1), At: at, Number: number, Next: number + 1 + q.below(30), Limited: q.below(5) == 0}
				next, want = Ack(c, g), acked(c, g)
				if number >= c.End {
					falls, ends = 0, ends+1
				}
			}
			if next != want || !within(next) || next.Alpha > all || falls > 1 {
				t.Fatalf("behind %+v: %+v, want %+v; marks let it fall %d times", c, next, want, falls)
			}
			c = next
		}
	}
	if ends < 1000 {
		t.Errorf("%d rounds have ended", ends)
	}
}

// P14.5: an Alpha goes to the share that is marked in each round, from above and from below; a window to which nothing is marked falls by nothing at last.
func TestAlphaFollows(t *testing.T) {
	for _, share := range []uint64{0, 100, 300, 500, 900, 1000} {
		for _, alpha := range []uint64{0, all / 2, all} {
			for range 300 {
				alpha = followed(alpha, 400, share, 600)
			}
			want := share * all / 1000
			if alpha > want+16 || alpha+16 < want {
				t.Errorf("behind rounds of which %d of 1000 are marked: an Alpha of %d, want about %d", share, alpha, want)
			}
		}
	}
}

// P14.2 to P14.4: numbers of any kind by any calls, each on what the one before it gave, against the chapter's words.
func TestAnyNumbers(t *testing.T) {
	q := sequence(41)
	every := edges()
	for range 300 {
		c := api.Prague{
			Base:  api.Reno{Cwnd: q.of(every), Thresh: q.of(every), Since: q.of(every), Rest: q.of(every)},
			Alpha: q.of(every), Acked: q.of(every), Marked: q.of(every), End: q.of(every), Cut: q.below(2) == 0,
		}
		for range 100 {
			next, want := c, c
			switch q.below(8) {
			case 0:
				at, now := q.of(every), q.of(every)
				next, want = Loss(c, at, now), lost(c, at, now)
			case 1:
				next, want = Collapse(c), collapsed(c)
			case 2, 3:
				bytes, at := q.of(every), q.of(every)
				next, want = Mark(c, bytes, at), marked(c, bytes, at)
			default:
				g := api.Got{Bytes: q.of(every), At: q.of(every), Number: q.of(every), Next: q.of(every), Limited: q.below(5) == 0}
				next, want = Ack(c, g), acked(c, g)
			}
			if next != want {
				t.Fatalf("behind %+v: %+v, want %+v", c, next, want)
			}
			c = next
		}
	}
}
