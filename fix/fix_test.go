package fix

import (
	"math/big"
	"testing"
)

const top = 1<<64 - 1

// edges are numbers at which words of 32 and 64 bits, cubes and parts of 256 turn.
func edges() []uint64 {
	out := []uint64{0, 1, 2, 3, 4, 5, 7, 8, 9, 15, 16, 17, 26, 27, 28, 127, 128, 129, 255, 256, 257, 511, 512, 999, 1000, 1001}
	for _, n := range []uint64{1 << 16, 1 << 31, 1 << 32, 1 << 33, 1 << 40, 1 << 62, 1 << 63, 10000000000, 2642245 * 2642245 * 2642245} {
		out = append(out, n-1, n, n+1)
	}
	return append(out, 0xAAAAAAAAAAAAAAAA, top-256, top-2, top-1, top)
}

// fitted is a number of any size, as one of 64 bits that does not wrap.
func fitted(n *big.Int) uint64 {
	if n.Sign() < 0 {
		return 0
	}
	if !n.IsUint64() {
		return top
	}
	return n.Uint64()
}

func large(n uint64) *big.Int { return new(big.Int).SetUint64(n) }

func product(a, b uint64) *big.Int { return new(big.Int).Mul(large(a), large(b)) }

// quotient is P1.2, in numbers of any size.
func quotient(a, b, c uint64) uint64 {
	p := product(a, b)
	if p.Sign() == 0 {
		return 0
	}
	if c == 0 {
		return top
	}
	return fitted(p.Div(p, large(c)))
}

// P1.1: sums, at the greatest number, below it and above it.
func TestAdd(t *testing.T) {
	for _, c := range []struct{ a, b, want uint64 }{
		{0, 0, 0}, {2, 3, 5}, {top, 0, top}, {0, top, top},
		{top - 5, 5, top}, {top - 5, 4, top - 1}, {top - 5, 6, top},
		{top, 1, top}, {top, 5, top}, {top, top, top}, {1 << 63, 1 << 63, top},
	} {
		if got := Add(c.a, c.b); got != c.want {
			t.Errorf("Add(%d, %d) = %d, want %d", c.a, c.b, got, c.want)
		}
	}
}

// P1.1: differences, of numbers that are equal, one apart, and far apart.
func TestSub(t *testing.T) {
	for _, c := range []struct{ a, b, want uint64 }{
		{0, 0, 0}, {5, 3, 2}, {5, 5, 0}, {5, 6, 0}, {3, 5, 0},
		{top, 0, top}, {0, top, 0}, {0, 1, 0}, {top, top, 0}, {top, top - 1, 1}, {top - 1, top, 0},
	} {
		if got := Sub(c.a, c.b); got != c.want {
			t.Errorf("Sub(%d, %d) = %d, want %d", c.a, c.b, got, c.want)
		}
	}
}

// P1.1: products, at the greatest number, below it and above it.
func TestMul(t *testing.T) {
	for _, c := range []struct{ a, b, want uint64 }{
		{0, 0, 0}, {0, top, 0}, {top, 0, 0}, {1, top, top}, {6, 7, 42},
		{3, top / 3, top}, {3, top/3 + 1, top}, {1 << 32, 1<<32 - 1, top - (1<<32 - 1)},
		{1<<32 - 1, 1<<32 + 1, top}, {1 << 31, 1 << 32, 1 << 63}, {1 << 32, 1 << 32, top},
		{1 << 33, 1 << 33, top}, {2, 1 << 63, top}, {top, top, top},
	} {
		if got := Mul(c.a, c.b); got != c.want {
			t.Errorf("Mul(%d, %d) = %d, want %d", c.a, c.b, got, c.want)
		}
	}
}

// P1.2: quotients of products of 64 and of 128 bits, downwards, and by 0.
func TestMulDiv(t *testing.T) {
	for _, c := range []struct{ a, b, c, want uint64 }{
		{7, 9, 4, 15}, {7, 9, 63, 1}, {7, 9, 64, 0}, {1, 1, 1, 1},
		{0, 5, 0, 0}, {5, 0, 0, 0}, {0, 0, 0, 0}, {0, 5, 7, 0}, {0, top, top, 0},
		{1, 1, 0, top}, {top, top, 0, top}, {1 << 32, 1 << 32, 0, top},
		{1 << 40, 1 << 40, 1 << 20, 1 << 60}, {1 << 32, 1 << 32, 1, top}, {1 << 32, 1 << 32, 2, 1 << 63},
		{top, top, top, top}, {top, top, top - 1, top}, {top, top - 1, top, top - 1},
		{top, 2, 1, top}, {top, 2, 2, top}, {top, 2, 3, 12297829382473034410},
		{top, top, 1 << 63, top}, {top, 3, 4, 13835058055282163711},
	} {
		if got := MulDiv(c.a, c.b, c.c); got != c.want {
			t.Errorf("MulDiv(%d, %d, %d) = %d, want %d", c.a, c.b, c.c, got, c.want)
		}
	}
}

// P1.2: parts of 256, downwards, of products of 128 bits too.
func TestGain(t *testing.T) {
	for _, c := range []struct{ a, parts, want uint64 }{
		{1000, 128, 500}, {1000, 256, 1000}, {1000, 320, 1250}, {1000, 0, 0}, {0, 256, 0},
		{1, 255, 0}, {1, 256, 1}, {1, 511, 1}, {3, 100, 1},
		{top, 256, top}, {top, 255, top - 1<<56}, {top, 257, top}, {top, top, top},
		{1 << 60, 4095, 4095 << 52}, {1 << 60, 4096, top}, {1 << 60, 4097, top},
	} {
		if got := Gain(c.a, c.parts); got != c.want {
			t.Errorf("Gain(%d, %d) = %d, want %d", c.a, c.parts, got, c.want)
		}
	}
}

// P1.1, P1.2: whatever the numbers are, what is told is what numbers of any size say.
func TestAgainstLargeNumbers(t *testing.T) {
	for _, a := range edges() {
		for _, b := range edges() {
			if got, want := Add(a, b), fitted(new(big.Int).Add(large(a), large(b))); got != want {
				t.Errorf("Add(%d, %d) = %d, want %d", a, b, got, want)
			}
			if got, want := Sub(a, b), fitted(new(big.Int).Sub(large(a), large(b))); got != want {
				t.Errorf("Sub(%d, %d) = %d, want %d", a, b, got, want)
			}
			if got, want := Mul(a, b), fitted(product(a, b)); got != want {
				t.Errorf("Mul(%d, %d) = %d, want %d", a, b, got, want)
			}
			if got, want := Gain(a, b), quotient(a, b, 256); got != want {
				t.Errorf("Gain(%d, %d) = %d, want %d", a, b, got, want)
			}
			for _, c := range edges() {
				if got, want := MulDiv(a, b, c), quotient(a, b, c); got != want {
					t.Errorf("MulDiv(%d, %d, %d) = %d, want %d", a, b, c, got, want)
				}
			}
		}
	}
}

// P1.3: roots of small numbers, and of the greatest.
func TestCbrt(t *testing.T) {
	for _, c := range []struct{ a, want uint64 }{
		{0, 0}, {1, 1}, {2, 1}, {7, 1}, {8, 2}, {26, 2}, {27, 3}, {28, 3},
		{1000000000000, 10000}, {999999999999, 9999}, {1 << 63, 2097152}, {1<<63 - 1, 2097151}, {top - 1, 2642245}, {top, 2642245},
	} {
		if got := Cbrt(c.a); got != c.want {
			t.Errorf("Cbrt(%d) = %d, want %d", c.a, got, c.want)
		}
	}
}

// P1.3: just at a cube, just below one, and just above one.
func TestCbrtAtCubes(t *testing.T) {
	const most = 2642245
	roots := []uint64{most - 1, most}
	for r := uint64(1); r < most; r += r/7 + 1 {
		roots = append(roots, r)
	}
	for _, r := range roots {
		cube := r * r * r
		if got := Cbrt(cube); got != r {
			t.Errorf("Cbrt(%d) = %d, want %d", cube, got, r)
		}
		if got := Cbrt(cube - 1); got != r-1 {
			t.Errorf("Cbrt(%d) = %d, want %d", cube-1, got, r-1)
		}
		if got := Cbrt(cube + 1); got != r {
			t.Errorf("Cbrt(%d) = %d, want %d", cube+1, got, r)
		}
	}
}

// P1.4: the order of two numbers does not matter to a sum and a product.
func TestOrder(t *testing.T) {
	for _, a := range edges() {
		for _, b := range edges() {
			if Add(a, b) != Add(b, a) || Mul(a, b) != Mul(b, a) || Gain(a, b) != Gain(b, a) {
				t.Errorf("the order of %d and %d matters", a, b)
			}
			for _, c := range edges() {
				if MulDiv(a, b, c) != MulDiv(b, a, c) {
					t.Errorf("MulDiv by %d: the order of %d and %d matters", c, a, b)
				}
				if Add(Add(a, b), c) != Add(a, Add(b, c)) || Mul(Mul(a, b), c) != Mul(a, Mul(b, c)) {
					t.Errorf("the order of %d, %d and %d matters", a, b, c)
				}
			}
		}
	}
}

// P1.4: with a greater number nothing falls.
func TestRising(t *testing.T) {
	for _, a := range edges() {
		more := a + 1
		if a == top {
			more = top
		}
		if Cbrt(more) < Cbrt(a) {
			t.Errorf("Cbrt falls at %d", a)
		}
		for _, b := range edges() {
			if Add(more, b) < Add(a, b) || Sub(more, b) < Sub(a, b) || Mul(more, b) < Mul(a, b) || Gain(more, b) < Gain(a, b) {
				t.Errorf("a result falls at %d, with %d", a, b)
			}
			if Add(b, more) < Add(b, a) || Mul(b, more) < Mul(b, a) || Gain(b, more) < Gain(b, a) {
				t.Errorf("a result falls with %d, at %d", b, a)
			}
			for _, c := range edges() {
				if MulDiv(more, b, c) < MulDiv(a, b, c) || MulDiv(b, more, c) < MulDiv(b, a, c) {
					t.Errorf("MulDiv by %d falls at %d, with %d", c, a, b)
				}
			}
		}
	}
}
