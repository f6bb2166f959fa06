package pnum

import (
	"math"
	"math/big"
	"math/rand"
	"testing"
)

const (
	top  = 1<<64 - 1
	last = 1<<62 - 1
)

// windows are those of the sizes 1 to 4.
func windows() []uint64 {
	return []uint64{256, 65536, 16777216, 4294967296}
}

// noSizes are numbers that are none of 1 to 4: eight times some of them wraps round, to what a size would be.
func noSizes() []int {
	return []int{0, -1, -2, -3, -4, -5, -8, -64, 5, 6, 7, 8, 9, 16, 63, 64, 1 << 32, 1<<32 + 1, 1 << 61, 1<<61 + 1, 1<<61 + 2, -1<<61 + 1, math.MaxInt - 1, math.MaxInt, math.MinInt, math.MinInt + 1}
}

// anyNumber is a number of any count of bits.
func anyNumber(r *rand.Rand) uint64 {
	return r.Uint64() >> r.Intn(64)
}

// anyNext is one that often lies by an edge: 0, a window's, 2^62 - 1, or the greatest number.
func anyNext(r *rand.Rand) uint64 {
	edges := append(windows(), 0, last, top, anyNumber(r))
	next := edges[r.Intn(len(edges))] + anyNumber(r)%(1<<r.Intn(34))
	if r.Intn(2) == 0 {
		next -= anyNumber(r) % (1 << r.Intn(34))
	}
	return next
}

func large(n uint64) *big.Int { return new(big.Int).SetUint64(n) }

// sizeOf is P4.1, in numbers of any size.
func sizeOf(number, next uint64) int {
	if number < next {
		return 4
	}
	need := new(big.Int).Sub(large(number), large(next))
	need.Add(need.Lsh(need, 1), big.NewInt(1))
	for i, w := range windows() {
		if large(w).Cmp(need) >= 0 {
			return i + 1
		}
	}
	return 4
}

// wholeOf is P4.3, in numbers of any size.
func wholeOf(part uint64, size int, next uint64) uint64 {
	if next > last {
		next = last
	}
	if size < 1 || size > 4 {
		size = 4
	}
	w, n := large(windows()[size-1]), large(next)
	half := new(big.Int).Div(w, big.NewInt(2))
	candidate := new(big.Int).Sub(n, new(big.Int).Mod(n, w))
	candidate.Add(candidate, new(big.Int).Mod(large(part), w))
	sum := func(a, b *big.Int) *big.Int { return new(big.Int).Add(a, b) }
	switch {
	case sum(candidate, half).Cmp(n) <= 0 && sum(candidate, w).Cmp(large(last)) <= 0:
		candidate.Add(candidate, w)
	case candidate.Cmp(sum(n, half)) > 0 && candidate.Cmp(w) >= 0:
		candidate.Sub(candidate, w)
	}
	return candidate.Uint64()
}

// P4.1: the chapter's example, RFC 9000's, a number that is just next, and one below it.
func TestSize(t *testing.T) {
	for _, c := range []struct {
		number, next uint64
		want         int
	}{
		{11298, 10000, 2}, {5, 5, 1}, {0xAC5C02, 0xABE8B4, 2}, {0xACE8FE, 0xABE8B4, 3},
		{0, 0, 1}, {1, 0, 1}, {last, last, 1}, {top, top, 1}, {top, top - 1, 1},
		{4, 5, 4}, {0, 1, 4}, {0, top, 4}, {top - 1, top, 4}, {last, last + 1, 4}, {5, 133, 4}, {0, 100, 4},
		{127, 0, 1}, {128, 0, 2}, {32767, 0, 2}, {32768, 0, 3}, {8388607, 0, 3}, {8388608, 0, 4},
		{132, 5, 1}, {133, 5, 2},
		{1<<31 - 1, 0, 4}, {1 << 31, 0, 4}, {1<<31 + 1, 0, 4}, {1<<31 + 6, 5, 4},
		{1 << 32, 0, 4}, {1<<32 + 1, 0, 4}, {1<<40 + 5, 5, 4}, {1 << 62, 0, 4}, {1 << 63, 0, 4}, {1<<63 + 1, 0, 4}, {1<<63 + 127, 0, 4}, {top - 1, 0, 4}, {top, 0, 4}, {top, 1, 4},
	} {
		if got := Size(c.number, c.next); got != c.want {
			t.Errorf("Size(%d, %d): %d, want %d", c.number, c.next, got, c.want)
		}
	}
}

// P4.1: each window is just enough for half of it less one, wherever next stands; for one more, the next size is taken.
func TestSizeAtEdges(t *testing.T) {
	for i, w := range windows() {
		for _, next := range []uint64{0, 1, 5, 255, 256, 10000, 1 << 31, 1 << 32, last - 1, last, last + 1, 1 << 63, top - w} {
			for _, c := range []struct {
				off  uint64
				want int
			}{
				{w/2 - 2, i + 1}, {w/2 - 1, i + 1}, {w / 2, min(i+2, 4)}, {w/2 + 1, min(i+2, 4)},
			} {
				if got := Size(next+c.off, next); got != c.want {
					t.Errorf("Size(%d and %d): %d, want %d", next, c.off, got, c.want)
				}
			}
		}
	}
}

// P4.1: of any two numbers, against numbers that have no greatest one.
func TestSizeOfMany(t *testing.T) {
	r := rand.New(rand.NewSource(6))
	for range 50000 {
		next := anyNext(r)
		number := next + anyNumber(r)
		if r.Intn(4) == 0 {
			number = anyNext(r)
		}
		if got, want := Size(number, next), sizeOf(number, next); got != want {
			t.Fatalf("Size(%d, %d): %d, want %d", number, next, got, want)
		}
	}
}

// P4.2: a number, cut at each size, at its window and around it.
func TestCut(t *testing.T) {
	for _, c := range []struct {
		number uint64
		size   int
		want   uint64
	}{
		{0xAC5C02, 1, 0x02}, {0xAC5C02, 2, 0x5C02}, {0xAC5C02, 3, 0xAC5C02}, {0xAC5C02, 4, 0xAC5C02},
		{0, 1, 0}, {0, 4, 0}, {255, 1, 255}, {256, 1, 0}, {257, 1, 1}, {256, 2, 256},
		{65535, 2, 65535}, {65536, 2, 0}, {65537, 2, 1}, {65536, 3, 65536},
		{1<<24 - 1, 3, 1<<24 - 1}, {1 << 24, 3, 0}, {1<<24 + 1, 3, 1}, {1 << 24, 4, 1 << 24},
		{1<<32 - 1, 4, 1<<32 - 1}, {1 << 32, 4, 0}, {1<<32 + 1, 4, 1},
		{0x0123456789ABCDEF, 1, 0xEF}, {0x0123456789ABCDEF, 2, 0xCDEF}, {0x0123456789ABCDEF, 3, 0xABCDEF}, {0x0123456789ABCDEF, 4, 0x89ABCDEF},
		{last, 1, 255}, {last + 1, 1, 0}, {top, 1, 255}, {top, 2, 65535}, {top, 3, 1<<24 - 1}, {top, 4, 1<<32 - 1},
	} {
		if got := Cut(c.number, c.size); got != c.want {
			t.Errorf("Cut(%d, %d): %d, want %d", c.number, c.size, got, c.want)
		}
	}
}

// P4.2: a size that is none is taken for 4.
func TestCutOfNoSize(t *testing.T) {
	for _, size := range noSizes() {
		for _, c := range [][2]uint64{{0, 0}, {3, 3}, {256, 256}, {0xAC5C02, 0xAC5C02}, {1<<32 - 1, 1<<32 - 1}, {1 << 32, 0}, {1<<40 + 3, 3}, {top, 1<<32 - 1}} {
			if got := Cut(c[0], size); got != c[1] {
				t.Errorf("Cut(%d, %d): %d, want %d", c[0], size, got, c[1])
			}
		}
	}
}

// wholes is what Whole is asked, and its answer.
type wholes struct {
	part uint64
	size int
	next uint64
	want uint64
}

// check holds Whole's answer against the one that is wanted.
func (c wholes) check(t *testing.T) {
	t.Helper()
	if got := Whole(c.part, c.size, c.next); got != c.want {
		t.Errorf("Whole(%d, %d, %d): %d, want %d", c.part, c.size, c.next, got, c.want)
	}
}

// P4.3: the chapter's example, candidates half a window off next, parts above the window, and next at its edges.
func TestWhole(t *testing.T) {
	for _, c := range []wholes{
		{0x9B32, 2, 0xA82F30EB, 0xA82F9B32},
		{255, 1, 256, 255}, {0, 1, 255, 256}, {232, 1, 1000, 1000}, {231, 1, 1000, 999}, {233, 1, 1000, 1001},

		// below next, by more than half a window, just half, and less
		{103, 1, 1000, 1127}, {104, 1, 1000, 1128}, {105, 1, 1000, 873}, {0, 1, 1000, 1024},
		{0, 1, 127, 0}, {0, 1, 128, 256}, {0, 1, 129, 256}, {1, 1, 128, 1},

		// above next, by less than half a window, just half, and more
		{139, 1, 780, 907}, {140, 1, 780, 908}, {141, 1, 780, 653}, {142, 1, 780, 654}, {255, 1, 780, 767},
		{128, 1, 256, 384}, {129, 1, 256, 129}, {127, 1, 256, 383},

		// below a window: there is nothing below it
		{250, 1, 3, 250}, {128, 1, 0, 128}, {129, 1, 0, 129}, {255, 1, 0, 255}, {0, 1, 0, 0}, {132, 1, 3, 132},
		{65535, 2, 0, 65535}, {1<<24 - 1, 3, 0, 1<<24 - 1}, {1<<32 - 1, 4, 0, 1<<32 - 1}, {1<<31 + 1, 4, 0, 1<<31 + 1},

		// a part that is greater than the window
		{256, 1, 0, 0}, {261, 1, 0, 5}, {1<<20 + 104, 1, 1000, 1128}, {top, 1, 1000, 1023}, {top, 2, 0, 65535},
		{65536 + 0x9B32, 2, 0xA82F30EB, 0xA82F9B32}, {1<<24 + 9, 3, 0, 9}, {1<<32 + 7, 4, 0, 7}, {top, 4, 0, 1<<32 - 1},
	} {
		c.check(t)
	}
}

// P4.3: what passes 2^62 - 1 with a window stays as it is, and a next above that is taken for it.
func TestWholeAtTheEnd(t *testing.T) {
	for _, next := range []uint64{last, last + 1, last + 2, last + 129, last + 257, 1 << 63, top - 1, top} {
		for _, c := range []wholes{
			{0, 1, next, last - 255}, {1, 1, next, 1<<62 - 255}, {9, 1, next, 1<<62 - 247},
			{126, 1, next, last - 129}, {127, 1, next, last - 128}, {128, 1, next, last - 127}, {254, 1, next, last - 1}, {255, 1, next, last}, {top, 1, next, last},
			{0, 2, next, last - 65535}, {65535, 2, next, last}, {7, 3, next, 1<<62 - 1<<24 + 7}, {0, 4, next, last - (1<<32 - 1)}, {1<<32 - 1, 4, next, last},
		} {
			c.check(t)
		}
	}
	for _, c := range []wholes{
		// next is the last number ahead of the last window, and the first one of it
		{126, 1, last - 256, last - 129}, {127, 1, last - 256, last - 128}, {128, 1, last - 256, last - 383}, {255, 1, last - 256, last - 256},
		{128, 1, last - 255, last - 127}, {129, 1, last - 255, last - 382}, {255, 1, last - 255, last - 256},
	} {
		c.check(t)
	}
}

// P4.3: at each size, of a next in the middle of a window: candidates just half a window off it, and one beside.
func TestWholeAtEachSize(t *testing.T) {
	for i, w := range windows() {
		size, half := i+1, w/2
		for _, base := range []uint64{w, 5 * w, 1 << 40, 1 << 61, last + 1 - 2*w} {
			high, low := base+half+9, base+half-9
			for _, c := range []wholes{
				{8, size, high, base + w + 8}, {9, size, high, base + w + 9}, {10, size, high, base + 10},
				{w - 10, size, low, base + w - 10}, {w - 9, size, low, base + w - 9}, {w - 8, size, low, base - 8},
				{half, size, high, base + half}, {half, size, low, base + half},
			} {
				c.check(t)
			}
		}
	}
}

// P4.3: a size that is none is taken for 4.
func TestWholeOfNoSize(t *testing.T) {
	for _, size := range noSizes() {
		for _, c := range []wholes{
			{0, size, 0, 0}, {250, size, 3, 250}, {0x9B32, size, 0xA82F30EB, 1<<32 + 0x9B32}, {5, size, 1<<40 + 9, 1<<40 + 5},
			{1<<32 + 5, size, 1<<40 + 9, 1<<40 + 5}, {1<<32 - 1, size, 1 << 40, 1<<40 - 1}, {0, size, 1<<40 + 1<<31, 1<<40 + 1<<32}, {3, size, top, 1<<62 - 1<<32 + 3},
		} {
			c.check(t)
		}
	}
}

// P4.3: of any part, size and next, against numbers that have no greatest one.
func TestWholeOfMany(t *testing.T) {
	r := rand.New(rand.NewSource(7))
	for range 100000 {
		size, next := r.Intn(7)-1, anyNext(r)
		part := anyNumber(r)
		if r.Intn(2) == 0 { // near the edges at which a candidate becomes another one
			part = next + windows()[r.Intn(4)]/2 + uint64(r.Intn(5)) - 2
		}
		wholes{part, size, next, wholeOf(part, size, next)}.check(t)
	}
}

// holds checks that a number, cut by the Size of one next, is the whole again for another.
func holds(t *testing.T, number, next, other uint64) {
	t.Helper()
	size := Size(number, next)
	if got := Whole(Cut(number, size), size, other); got != number {
		t.Errorf("%d, cut to %d bytes for %d, is %d for %d", number, size, next, got, other)
	}
}

// P4.4: a number is the whole again, however far below it next is, up to 2^31.
func TestWholeAgain(t *testing.T) {
	offs := []uint64{0, 1, 2, 126, 127, 128, 129, 255, 256, 257, 32766, 32767, 32768, 32769, 65535, 65536, 65537, 8388607, 8388608, 8388609, 1<<24 - 1, 1 << 24, 1<<24 + 1, 1<<31 - 2, 1<<31 - 1, 1 << 31}
	numbers := []uint64{last - 1<<31, last - 1<<32, last - 65536, last - 256, last - 128, last - 1, last, 1 << 61, 1<<40 + 77}
	for _, n := range append(windows(), 1<<31) {
		numbers = append(numbers, 0, 1, n/2-1, n/2, n/2+1, n-1, n, n+1, 3*n-1, 3*n)
	}
	for _, number := range numbers {
		for _, off := range offs {
			if off > number {
				continue
			}
			for _, nearer := range append(offs, off/2, off/3) {
				if nearer <= off {
					holds(t, number, number-off, number-nearer)
				}
			}
			holds(t, number, number-off, number+1)
		}
	}
}

// P4.4: of any number, and any next ones.
func TestWholeAgainOfMany(t *testing.T) {
	r := rand.New(rand.NewSource(8))
	for range 100000 {
		number := min(anyNext(r), last)
		off := min(anyNumber(r)%(1<<31+1), number)
		holds(t, number, number-off, number-off)
		holds(t, number, number-off, number-anyNumber(r)%(off+1))
		holds(t, number, number-off, number+1)
		holds(t, number, number+1, number+1)
	}
}
