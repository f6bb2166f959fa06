package cubic

import (
	"math/big"
	"testing"

	"wigwag/api"
)

const (
	top   = 1<<64 - 1
	floor = 2400
	most  = 1 << 24
	far   = 1 << 21

	// farCube is the cube of far, and of all that is above it.
	farCube = 4427218577690
)

// edges are numbers at which windows are held, parts and cubes turn, and sums and products wrap.
func edges() []uint64 {
	out := []uint64{0, 1, 2, 3, 9, 10, 11, 127, 128, 1957, 7140, 8000, 8400, 12600, 18000}
	for _, n := range []uint64{floor, 2 * floor, 12000, far, most, 2 * most, 1 << 32, farCube, top / 635, 1 << 63, top / 3 * 2} {
		out = append(out, n-1, n, n+1)
	}
	return append(out, top-farCube, top-far, top-1, top)
}

// fewEdges are some of them, for what asks for many numbers at once.
func fewEdges() []uint64 {
	return []uint64{0, 1, 10, floor - 1, floor, 8400, 12000, far, most - 1, most, most + 1, farCube + 5, 1 << 63, top - 1, top}
}

// windows are hand-made ones: their numbers need not be those of any calls.
func windows() []api.Cubic {
	var out []api.Cubic
	few := fewEdges()
	at := func(n int) uint64 { return few[n%len(few)] }
	for i, cwnd := range few {
		for j, thresh := range few {
			for k, greatest := range few {
				out = append(out, api.Cubic{
					Cwnd: cwnd, Thresh: thresh, Since: at(i + j + k), Has: (i+j+k)%2 == 0,
					Epoch: at(i + 2*j), Most: greatest, K: at(j + 3*k), Est: at(2*i + k),
				})
			}
		}
	}
	return out
}

// sequence is numbers without a plain order, the same ones in each run.
type sequence uint64

func (q *sequence) below(n uint64) uint64 {
	*q = *q*6364136223846793005 + 1442695040888963407
	return uint64(*q) >> 16 % n
}

func large(n uint64) *big.Int { return new(big.Int).SetUint64(n) }

// fitted is a number of any size, or the greatest one of 64 bits.
func fitted(n *big.Int) uint64 {
	if !n.IsUint64() {
		return top
	}
	return n.Uint64()
}

func sum(a, b uint64) uint64 { return fitted(new(big.Int).Add(large(a), large(b))) }

// less is a less b, or 0.
func less(a, b uint64) uint64 {
	if a < b {
		return 0
	}
	return a - b
}

// part is a product through a number, as P1.2 says of MulDiv.
func part(a, b, c uint64) uint64 {
	product := new(big.Int).Mul(large(a), large(b))
	if product.Sign() == 0 {
		return 0
	}
	if c == 0 {
		return top
	}
	return fitted(product.Div(product, large(c)))
}

// root is the greatest number whose cube is at most a, sought by halves.
func root(a uint64) uint64 {
	low, high := uint64(0), uint64(1<<22)
	for high-low > 1 {
		middle := low + (high-low)/2
		cube := new(big.Int).Exp(large(middle), big.NewInt(3), nil)
		if cube.Cmp(large(a)) <= 0 {
			low = middle
		} else {
			high = middle
		}
	}
	return low
}

// held is P10.1's Held, word by word.
func held(n uint64) uint64 {
	if n < 2400 {
		return 2400
	}
	if n > 16777216 {
		return 16777216
	}
	return n
}

// cubed is the chapter's cube of a time, word by word.
func cubed(d uint64) uint64 {
	if d > 2097152 {
		d = 2097152
	}
	cube := new(big.Int).Exp(large(d), big.NewInt(3), nil)
	cube.Mul(cube, big.NewInt(480))
	return fitted(cube.Div(cube, big.NewInt(1000000000)))
}

// aimed is P12.1's Target, word by word.
func aimed(c api.Cubic, time uint64) uint64 {
	var out uint64
	if time >= c.K {
		out = sum(c.Most, cubed(time-c.K))
	} else {
		out = less(c.Most, cubed(c.K-time))
	}
	if out < c.Cwnd {
		out = c.Cwnd
	}
	if half := sum(c.Cwnd, c.Cwnd/2); out > half {
		out = half
	}
	return out
}

// acked is P12.2, word by word.
func acked(c api.Cubic, bytes, at, now, took uint64, limited bool) api.Cubic {
	if at < c.Since || limited {
		return c
	}
	if c.Cwnd < c.Thresh {
		c.Cwnd = held(sum(c.Cwnd, bytes))
		return c
	}
	if !c.Has {
		c.Has = true
		c.Epoch = now
		c.Est = c.Cwnd
		if c.Cwnd < c.Most {
			c.K = root(part(c.Most-c.Cwnd, 1000000000, 480))
		} else {
			c.K = 0
			c.Most = c.Cwnd
		}
	}
	c.Est = sum(c.Est, part(bytes, 635, c.Cwnd))
	target := aimed(c, sum(less(now, c.Epoch), took))
	next := sum(c.Cwnd, part(less(target, c.Cwnd), bytes, c.Cwnd))
	if next < c.Est {
		next = c.Est
	}
	c.Cwnd = held(next)
	return c
}

// lost is P12.3's Loss, word by word.
func lost(c api.Cubic, at, now uint64) api.Cubic {
	if at < c.Since {
		return c
	}
	if c.Cwnd < c.Most {
		c.Most = part(c.Cwnd, 17, 20)
	} else {
		c.Most = c.Cwnd
	}
	c.Thresh = held(part(c.Cwnd, 7, 10))
	c.Cwnd = c.Thresh
	c.Since = sum(now, 1)
	c.Has = false
	c.Epoch, c.K, c.Est = 0, 0, 0
	return c
}

// collapsed is P12.3's Collapse, word by word.
func collapsed(c api.Cubic) api.Cubic {
	c.Cwnd = 2400
	c.Since, c.Epoch, c.K, c.Est = 0, 0, 0, 0
	c.Has = false
	return c
}

func checkTarget(t *testing.T, c api.Cubic, time, want uint64) {
	t.Helper()
	if got := Target(c, time); got != want {
		t.Errorf("Target(%+v, %d) = %d, want %d", c, time, got, want)
	}
}

func checkAck(t *testing.T, c api.Cubic, bytes, at, now, took uint64, limited bool, want api.Cubic) {
	t.Helper()
	if got := Ack(c, bytes, at, now, took, limited); got != want {
		t.Errorf("Ack(%+v, %d, %d, %d, %d, %v) = %+v, want %+v", c, bytes, at, now, took, limited, got, want)
	}
}

func checkLoss(t *testing.T, c api.Cubic, at, now uint64, want api.Cubic) {
	t.Helper()
	if got := Loss(c, at, now); got != want {
		t.Errorf("Loss(%+v, %d, %d) = %+v, want %+v", c, at, now, got, want)
	}
}

func checkCollapse(t *testing.T, c, want api.Cubic) {
	t.Helper()
	if got := Collapse(c); got != want {
		t.Errorf("Collapse(%+v) = %+v, want %+v", c, got, want)
	}
}

// P12.1 to P12.3: the chapter's examples.
func TestExamples(t *testing.T) {
	behind := api.Cubic{Most: 12000, Cwnd: 8400, Thresh: 8400, Since: 10}
	checkLoss(t, New(), 0, 9, behind)
	c := api.Cubic{Most: 12000, K: 100, Cwnd: 8400}
	checkTarget(t, c, 100, 12000)
	checkTarget(t, c, 2100, 12600)
	if got := Ack(behind, 0, 10, 50, 0, false).K; got != 1957 {
		t.Errorf("K is %d", got)
	}
}

// P12.1: a window at its beginning, and the next one is just that too.
func TestNew(t *testing.T) {
	want := api.Cubic{Cwnd: 12000, Thresh: 16777216}
	for range 2 {
		if got := New(); got != want {
			t.Errorf("New() = %+v, want %+v", got, want)
		}
		Collapse(Ack(Loss(New(), 8, 9), 5000, 10, 11, 12, false))
	}
}

// P12.1: at K the cube says Most; ahead of it less, behind it more, by the cube of how far it is.
func TestTargetAroundK(t *testing.T) {
	for _, k := range []uint64{far + 1, 1 << 32, 1 << 63, top - far - 1} {
		// A window of this width holds the cube at neither edge, however far a time is from K.
		c := api.Cubic{Most: 5 * farCube, K: k, Cwnd: 4 * farCube}
		for _, x := range [][2]uint64{
			{0, 0}, {1, 0}, {2, 0}, {127, 0}, {128, 1}, {160, 1}, {161, 2}, {1000, 480}, {1957, 3597}, {2000, 3840},
			{far - 1, 4427212244506}, {far, farCube}, {far + 1, farCube},
		} {
			checkTarget(t, c, k+x[0], c.Most+x[1])
			checkTarget(t, c, k-x[0], c.Most-x[1])
		}
	}
}

// P12.1: a time that is farther from K than 2^21 is taken for that, on both sides, up to the greatest number.
func TestTargetFar(t *testing.T) {
	const cwnd = 4 * farCube
	for _, d := range []uint64{far, far + 1, 2 * far, 2642245, 2642246, 1 << 22, 1 << 32, 1<<32 + 7, 1 << 43, 1 << 63, top - 1, top} {
		checkTarget(t, api.Cubic{Most: 5 * farCube, Cwnd: cwnd}, d, 6*farCube)
		checkTarget(t, api.Cubic{Most: 6*farCube - 1, Cwnd: cwnd, K: d}, 0, 5*farCube-1)
		checkTarget(t, api.Cubic{Most: 6*farCube - 1, Cwnd: cwnd, K: top}, top-d, 5*farCube-1)
		checkTarget(t, api.Cubic{Most: 4*farCube + 5, Cwnd: cwnd, K: top - d}, top, 5*farCube+5)
	}
	checkTarget(t, api.Cubic{Most: 5 * farCube, Cwnd: cwnd}, far-1, 5*farCube+4427212244506)
	checkTarget(t, api.Cubic{Most: 5 * farCube, Cwnd: cwnd, K: top}, top, 5*farCube)
	checkTarget(t, api.Cubic{Most: 5 * farCube, Cwnd: cwnd, K: top}, top-far+1, 5*farCube-4427212244506)
}

// P12.1: Most less the cube is not below 0, and both together not above the greatest number.
func TestTargetDoesNotWrap(t *testing.T) {
	for _, c := range []struct{ greatest, k, time, cwnd, want uint64 }{
		{480, 1000, 0, 0, 0}, {479, 1000, 0, 100, 100}, {480, 1000, 0, 100, 100}, {481, 1000, 0, 100, 100}, {479, 1000, 0, 1 << 62, 1 << 62},
		{0, 1000, 0, 8400, 8400}, {0, top, 0, 8400, 8400}, {0, top, 0, 1 << 63, 1 << 63}, {farCube - 1, far, 0, 8400, 8400}, {farCube - 1, far, 0, 2, 2},
		{farCube + 8401, far, 0, 8400, 8401}, {farCube - 1, top, 0, 0, 0},
		{top, 0, 1000, 8400, 12600}, {top, 0, 1000, top - 5, top}, {top - 480, 0, 1000, top - 5, top}, {top - 490, 0, 1000, top - 5, top - 5}, {top - 483, 0, 1000, top - 5, top - 3}, {top - 479, 0, 1000, top - 600, top},
		{top - 480, 0, 1000, top - 600, top}, {top - 481, 0, 1000, top - 600, top - 1}, {top - 479, 0, 1000, 8400, 12600},
		{top - farCube, 0, top, 13 << 60, top}, {top - farCube - 1, 0, top, 13 << 60, top - 1}, {top - farCube + 1, 0, top, 13 << 60, top}, {top, 0, top, 13 << 60, top},
		{top, top, top, 13 << 60, top}, {top, top, 0, 13 << 60, top - farCube}, {top, 0, top, 1 << 63, 3 << 62},
	} {
		checkTarget(t, api.Cubic{Most: c.greatest, K: c.k, Cwnd: c.cwnd}, c.time, c.want)
	}
}

// P12.1: a target is at least the window, whether the cube is at K, ahead of it or behind it.
func TestTargetAtLeast(t *testing.T) {
	for _, cwnd := range []uint64{2400, 2401, 8400, most, 1 << 32, 1 << 63, top - 500} {
		for _, k := range []uint64{1000, 1001, 1 << 32, top - 1000} {
			for _, said := range [][2]uint64{{cwnd - 1500, cwnd}, {cwnd - 2, cwnd}, {cwnd - 1, cwnd}, {cwnd, cwnd}, {cwnd + 1, cwnd + 1}, {cwnd + 2, cwnd + 2}} {
				checkTarget(t, api.Cubic{Most: said[0], K: k, Cwnd: cwnd}, k, said[1])
				checkTarget(t, api.Cubic{Most: said[0] + 480, K: k, Cwnd: cwnd}, k-1000, said[1])
				checkTarget(t, api.Cubic{Most: said[0] - 480, K: k, Cwnd: cwnd}, k+1000, said[1])
				checkTarget(t, api.Cubic{K: k, Cwnd: cwnd}, k, cwnd)
			}
		}
	}
}

// P12.1: a target is at most half as much again as the window, downwards, or the greatest number.
func TestTargetAtMost(t *testing.T) {
	for _, c := range [][2]uint64{{2, 3}, {3, 4}, {4, 6}, {2401, 3601}, {8400, 12600}, {8401, 12601}, {most, 25165824}, {1 << 63, 1<<63 + 1<<62}} {
		cwnd, half := c[0], c[1]
		for _, said := range [][2]uint64{{half - 1, half - 1}, {half, half}, {half + 1, half}, {half + 2, half}, {half + 480, half}} {
			checkTarget(t, api.Cubic{Most: said[0], K: 9, Cwnd: cwnd}, 9, said[1])
		}
		checkTarget(t, api.Cubic{Most: top, K: 9, Cwnd: cwnd}, 9, half)
		checkTarget(t, api.Cubic{Most: half - 1, K: 0, Cwnd: cwnd}, 160, half)
		checkTarget(t, api.Cubic{Most: half - 1, K: 0, Cwnd: cwnd}, 161, half)
		checkTarget(t, api.Cubic{Most: half - 1, K: 0, Cwnd: cwnd}, 127, half-1)
	}
	// Of a window of 1 half as much is none, and of one of 0 too.
	for _, greatest := range []uint64{0, 1, 2, 8400, top} {
		for _, time := range []uint64{0, 5, 1000, top} {
			checkTarget(t, api.Cubic{Most: greatest, K: 5, Cwnd: 1}, time, 1)
			checkTarget(t, api.Cubic{Most: greatest, K: 5}, time, 0)
		}
	}
	// Two thirds of the greatest number are the last window of which a target may be told whole.
	for _, cwnd := range []uint64{top / 3 * 2, top/3*2 + 1, top - 1, top} {
		checkTarget(t, api.Cubic{Most: top, Cwnd: cwnd}, 0, top)
		checkTarget(t, api.Cubic{Most: cwnd, Cwnd: cwnd}, 0, cwnd)
		checkTarget(t, api.Cubic{Most: 0, Cwnd: cwnd}, 0, cwnd)
	}
	checkTarget(t, api.Cubic{Most: top, Cwnd: top/3*2 - 1}, 0, top-2)
}

// P12.1: a target asks Cwnd, Most and K alone.
func TestTargetAsksNoMore(t *testing.T) {
	for _, n := range fewEdges() {
		for _, has := range []bool{false, true} {
			c := api.Cubic{Cwnd: 8400, Thresh: n, Since: n, Has: has, Epoch: n, Most: 12000, K: 2100, Est: n}
			checkTarget(t, c, 2100, 12000)
			checkTarget(t, c, 1100, 11520)
			checkTarget(t, c, 3100, 12480)
			checkTarget(t, c, 0, 8400)
		}
	}
}

// P12.1: whatever the window is, what is answered is what the chapter's words say.
func TestTargetAgainstTheWords(t *testing.T) {
	for _, c := range windows() {
		for _, time := range append(fewEdges(), c.K-far-1, c.K-far, c.K-far+1, c.K-1, c.K, c.K+1, c.K+2000, c.K+far-1, c.K+far, c.K+far+1) {
			checkTarget(t, c, time, aimed(c, time))
		}
	}
}

// P12.2: what was sent below Since changes nothing, what was sent at it or behind it does.
func TestAckSince(t *testing.T) {
	for _, since := range []uint64{1, 2, 10, 1 << 32, 1 << 63, top - 1, top} {
		slow := api.Cubic{Cwnd: 5000, Thresh: 9000, Since: since, Most: 7}
		wide := api.Cubic{Cwnd: 8400, Thresh: 8400, Since: since, Most: 12000}
		running := api.Cubic{Cwnd: 8400, Thresh: 8400, Since: since, Has: true, Epoch: 50, Most: 12000, K: 1957, Est: 8400}
		for _, at := range []uint64{0, since / 2, since - 1} {
			for _, c := range []api.Cubic{slow, wide, running} {
				checkAck(t, c, 1000, at, 60, 5, false, c)
				checkAck(t, c, top, at, top, top, false, c)
			}
		}
		for _, at := range []uint64{since, max(since, since+1), top} {
			grown := slow
			grown.Cwnd = 6000
			checkAck(t, slow, 1000, at, 60, 5, false, grown)
			grown = running
			grown.Cwnd, grown.Est = 12000, 9035
			checkAck(t, wide, 8400, at, 50, 1957, false, grown)
			checkAck(t, running, 8400, at, 50, 1957, false, grown)
		}
	}
}

// P12.2: a sender that had no more to send tells nothing of the window; no epoch begins either.
func TestAckLimited(t *testing.T) {
	for _, c := range append(windows(), New()) {
		for _, at := range []uint64{0, c.Since - 1, c.Since, top} {
			checkAck(t, c, 5000, at, 9, 8, true, c)
			checkAck(t, c, 0, at, c.Epoch, 0, true, c)
		}
	}
}

// P12.2: below Thresh a window grows by the bytes, at it and above by the cube.
func TestAckThresh(t *testing.T) {
	for _, thresh := range []uint64{5000, 12000, most - 1, most} {
		checkAck(t, api.Cubic{Cwnd: thresh - 1, Thresh: thresh, Most: 9}, 1, 0, 5, 6, false, api.Cubic{Cwnd: thresh, Thresh: thresh, Most: 9})
		for _, cwnd := range []uint64{thresh, thresh + 1} {
			c := Ack(api.Cubic{Cwnd: cwnd, Thresh: thresh, Most: 9}, 1, 0, 5, 6, false)
			if !c.Has || c.Epoch != 5 || c.Most != cwnd {
				t.Errorf("of a window of %d, by a Thresh of %d: %+v", cwnd, thresh, c)
			}
		}
	}
	checkAck(t, api.Cubic{Cwnd: 0, Thresh: 1}, 0, 0, 5, 6, false, api.Cubic{Cwnd: floor, Thresh: 1})
	checkAck(t, api.Cubic{Cwnd: top - 1, Thresh: top}, 1, 0, 5, 6, false, api.Cubic{Cwnd: most, Thresh: top})
	checkAck(t, api.Cubic{Cwnd: top, Thresh: top, Most: top}, 0, 0, 5, 6, false, api.Cubic{Cwnd: most, Thresh: top, Has: true, Epoch: 5, Most: top, Est: top})
}

// P12.2: below Thresh, a window is held at both edges, its sum does not wrap, and nothing else of it changes.
func TestAckSlowStart(t *testing.T) {
	for _, c := range []struct{ cwnd, bytes, want uint64 }{
		{12000, 0, 12000}, {12000, 1, 12001}, {12000, 1200, 13200},
		{12000, most - 12001, most - 1}, {12000, most - 12000, most}, {12000, most - 11999, most},
		{12000, 1 << 32, most}, {12000, 1 << 63, most}, {12000, top - 12000, most}, {12000, top - 11999, most}, {12000, top - 7000, most}, {12000, top, most},
		{0, 0, floor}, {0, 2399, floor}, {0, 2400, floor}, {0, 2401, 2401}, {2399, 0, floor}, {2399, 1, floor}, {2399, 2, 2401},
		{most, 0, most}, {most, 1, most}, {most + 1, 0, most}, {1 << 63, 1 << 63, most}, {1 << 63, 1<<63 + 5000, most}, {top - 1, 2, most}, {top - 1, top, most},
	} {
		for _, has := range []bool{false, true} {
			for _, n := range []uint64{0, 9000, top} {
				from := api.Cubic{Cwnd: c.cwnd, Thresh: top, Has: has, Epoch: n, Most: n, K: n, Est: n}
				to := from
				to.Cwnd = c.want
				checkAck(t, from, c.bytes, 0, 5000, 60, false, to)
				checkAck(t, from, c.bytes, 0, top, top, false, to)
			}
		}
	}
}

// P12.2: an epoch begins now, at the window; where it was wider, K is when it is to be there again.
func TestAckBegins(t *testing.T) {
	for _, c := range []struct{ cwnd, greatest, k, then uint64 }{
		{8400, 12000, 1957, 12000}, {11998, 12000, 160, 12000}, {11999, 12000, 127, 12000}, {12000, 12000, 0, 12000}, {12001, 12000, 0, 12001}, {12002, 12000, 0, 12002},
		{8400, 0, 0, 8400}, {8400, 8399, 0, 8400}, {8400, 8400, 0, 8400}, {8400, 8401, 127, 8401}, {most, most, 0, most}, {most, most - 1, 0, most}, {floor, most, 32694, most},
		// A Most of no calls: what is below it, times 1000000000 through 480, is told up to the greatest number.
		{12000, top, 2642245, top}, {12000, 8854437155380 + 12000, 2642245, 8854437155380 + 12000}, {12000, 8854437155381 + 12000, 2642245, 8854437155381 + 12000}, {12000, 12000 + 1<<40, 1318214, 12000 + 1<<40},
	} {
		for _, now := range []uint64{0, 1, 50, 1 << 32, top} {
			from := api.Cubic{Cwnd: c.cwnd, Thresh: 2, Most: c.greatest, Since: 10}
			to := from
			to.Has, to.Epoch, to.Est, to.K, to.Most = true, now, c.cwnd, c.k, c.then
			checkAck(t, from, 0, 10, now, 0, false, to)
			// What an epoch of no calls left behind does not count.
			from.Epoch, from.K, from.Est = 7, 77, 777777
			checkAck(t, from, 0, 10, now, 0, false, to)
			checkAck(t, from, 0, 10, now, top, false, to)
		}
	}
}

// P12.2: an epoch that has begun goes on: Has, Epoch, Most and K stay, though the window be above Most.
func TestAckGoesOn(t *testing.T) {
	for _, greatest := range []uint64{0, 8399, 8400, 8401, 12000, top} {
		for _, k := range []uint64{0, 1957, top} {
			from := api.Cubic{Cwnd: 8400, Thresh: 8400, Since: 10, Has: true, Epoch: 50, Most: greatest, K: k, Est: 8000}
			for _, bytes := range []uint64{0, 1, 1200, top} {
				for _, now := range []uint64{0, 49, 50, 51, 9000, top} {
					got := Ack(from, bytes, 10, now, 40, false)
					want := from
					want.Cwnd, want.Est = got.Cwnd, got.Est
					if got != want {
						t.Errorf("Ack(%+v, %d, 10, %d, 40, false) = %+v", from, bytes, now, got)
					}
				}
			}
		}
	}
}

// P12.2: Est grows by 635 bytes a window, downwards, and does not wrap; the divisor is the window of before.
func TestAckEst(t *testing.T) {
	for _, c := range []struct{ cwnd, est, bytes, want uint64 }{
		{8400, 8400, 0, 8400}, {8400, 8400, 1, 8400}, {8400, 8400, 13, 8400}, {8400, 8400, 14, 8401}, {8400, 8400, 8400, 9035}, {8400, 8400, 16800, 9670}, {8400, 0, 8400, 635},
		{635, 5, 7, 12}, {634, 5, 634, 640}, {636, 5, 1, 5}, {636, 5, 2, 6}, {1, 5, 1, 640}, {1, 0, top / 635, top / 635 * 635}, {1, 0, top/635 + 1, top},
		{8400, top, 0, top}, {8400, top, 8400, top}, {8400, top - 634, 8400, top}, {8400, top - 635, 8400, top}, {8400, top - 636, 8400, top - 1},
		{8400, 0, 1 << 63, 697243005166997933}, {8400, 0, top, 1394486010333995866}, {635, 0, top, top}, {634, 0, top, top}, {635, 1, top, top}, {636, 0, top, 18417739759128247288},
		{top, 0, top, 635}, {top, 0, top - 1, 634}, {top, 7, 1 << 63, 324},
	} {
		from := api.Cubic{Cwnd: c.cwnd, Has: true, Est: c.est}
		if got := Ack(from, c.bytes, 0, 0, 0, false); got.Est != c.want {
			t.Errorf("Ack(%+v, %d, 0, 0, 0, false) = %+v, want an Est of %d", from, c.bytes, got, c.want)
		}
	}
}

// P12.2: the window becomes the greater one of Est and of what the cube lets it grow to.
func TestAckGreater(t *testing.T) {
	// Behind 8400 bytes, at K, the cube says 12000; behind 4200 of them the window goes half of the way.
	for _, c := range []struct{ est, bytes, want, then uint64 }{
		{0, 8400, 12000, 635}, {11364, 8400, 12000, 11999}, {11365, 8400, 12000, 12000}, {11366, 8400, 12001, 12001}, {11367, 8400, 12002, 12002}, {20000, 8400, 20635, 20635},
		{0, 4200, 10200, 317}, {9882, 4200, 10200, 10199}, {9883, 4200, 10200, 10200}, {9884, 4200, 10201, 10201},
		{0, 0, 8400, 0}, {8399, 0, 8400, 8399}, {8400, 0, 8400, 8400}, {8401, 0, 8401, 8401}, {most - 1, 0, most - 1, most - 1}, {most, 0, most, most}, {most + 1, 0, most, most + 1}, {top, 8400, most, top},
		{0, 1, 8400, 0}, {0, 2, 8400, 0}, {0, 3, 8401, 0}, {0, 7, 8403, 0},
	} {
		from := api.Cubic{Cwnd: 8400, Thresh: 8400, Since: 10, Has: true, Epoch: 50, Most: 12000, K: 1957, Est: c.est}
		to := from
		to.Cwnd, to.Est = c.want, c.then
		checkAck(t, from, c.bytes, 10, 2007, 0, false, to)
	}
}

// P12.2: the cube is asked of now less Epoch and took, neither of which wraps.
func TestAckTime(t *testing.T) {
	for _, c := range []struct{ epoch, now, took, want uint64 }{
		{50, 2007, 0, 12000}, {50, 50, 1957, 12000}, {50, 1050, 957, 12000}, {50, 1050, 0, 11580}, {50, 1051, 0, 11581}, {50, 1050, 1, 11581},
		{50, 50, 0, 8403}, {50, 49, 0, 8403}, {50, 0, 0, 8403}, {top, 0, 0, 8403}, {top, top, 0, 8403}, {top, 1 << 63, 0, 8403},
		{50, 49, 1957, 12000}, {50, 0, 1957, 12000}, {top, 50, 1957, 12000}, {top, top, 1957, 12000}, {top - 1000, top, 957, 12000},
		{0, top, 0, 12600}, {0, 0, top, 12600}, {0, top, 1, 12600}, {0, top, top, 12600}, {1, top, 1, 12600}, {1, top, 2, 12600}, {50, top, 60, 12600}, {50, top, 50 + 1957, 12600}, {0, 1 << 63, 1 << 63, 12600},
		{50, 2957, 0, 12411}, {50, 2957, 50, 12480},
	} {
		from := api.Cubic{Cwnd: 8400, Thresh: 8400, Has: true, Epoch: c.epoch, Most: 12000, K: 1957}
		to := from
		to.Cwnd, to.Est = c.want, 635
		checkAck(t, from, 8400, 0, c.now, c.took, false, to)
	}
}

// P12.2: an epoch that begins at this very call is asked of took alone.
func TestAckBeginsAndGrows(t *testing.T) {
	for _, now := range []uint64{0, 10, 1 << 63, top} {
		from := api.Cubic{Cwnd: 8400, Thresh: 8400, Most: 12000, Epoch: 3, K: 7, Est: 90000}
		to := api.Cubic{Cwnd: 12000, Thresh: 8400, Has: true, Epoch: now, Most: 12000, K: 1957, Est: 9035}
		checkAck(t, from, 8400, 0, now, 1957, false, to)
		to.Cwnd = 9035
		checkAck(t, from, 8400, 0, now, 0, false, to)
		to.Cwnd = 11580
		checkAck(t, from, 8400, 0, now, 1000, false, to)
		// Where the window is not below Most, it is there at once, and the cube goes up from it.
		from.Most, to.Most, to.K = 8000, 8400, 0
		to.Cwnd = 9035
		checkAck(t, from, 8400, 0, now, 0, false, to)
		to.Cwnd = 12240
		checkAck(t, from, 8400, 0, now, 2000, false, to)
	}
}

// P12.2: what comes out is held at both edges, and bytes may be any number.
func TestAckHeld(t *testing.T) {
	for _, c := range []struct{ cwnd, bytes, want uint64 }{
		// All that a target is above the window is half of it: times the bytes through it.
		{2000, 798, floor}, {2000, 799, floor}, {2000, 800, floor}, {2000, 801, floor}, {2000, 802, 2401}, {2000, 804, 2402}, {2, 0, floor}, {2, 7, floor}, {2, 8, 2540}, {1, 2, floor}, {1, 4, 2540},
		{12000, 0, 12000}, {12000, 1, 12000}, {12000, 2, 12001}, {12000, 12000, 18000}, {12000, 24000, 24000},
		{1 << 23, most - 1, most - 1}, {1 << 23, most - 2, most - 1}, {1 << 23, most, most}, {1 << 23, most + 1, most}, {1 << 23, most + 2, most}, {1 << 23, 1 << 63, most}, {1 << 23, top, most},
		{most - 1, 1, most - 1}, {most - 1, 2, most - 1}, {most - 1, 3, most}, {most, 0, most}, {most, 5000, most}, {most + 1, 0, most}, {1 << 63, 0, most}, {1 << 63, top, most}, {1<<63 + 4, top, most}, {1<<63 + 5000, top, most}, {top, 0, most}, {top, top, most},
	} {
		from := api.Cubic{Cwnd: c.cwnd, Has: true, Most: top}
		to := from
		to.Cwnd, to.Est = c.want, part(c.bytes, 635, c.cwnd)
		checkAck(t, from, c.bytes, 0, 0, 0, false, to)
	}
}

// P12.2: of a window of 0, the divisor is 0: Est becomes the greatest number behind any bytes, and behind none nothing.
func TestAckNoWindow(t *testing.T) {
	for _, now := range []uint64{0, 50, top} {
		for _, greatest := range []uint64{0, 1, 12000, top} {
			for _, bytes := range []uint64{1, 635, 1 << 63, top} {
				checkAck(t, api.Cubic{Most: greatest}, bytes, 0, now, 9, false, api.Cubic{Cwnd: most, Has: true, Epoch: now, Most: greatest, K: root(part(greatest, 1000000000, 480)), Est: top})
				checkAck(t, api.Cubic{Most: greatest, Has: true, Est: 9}, bytes, 0, now, 9, false, api.Cubic{Cwnd: most, Has: true, Most: greatest, Est: top})
			}
			checkAck(t, api.Cubic{Most: greatest}, 0, 0, now, 9, false, api.Cubic{Cwnd: floor, Has: true, Epoch: now, Most: greatest, K: root(part(greatest, 1000000000, 480))})
			checkAck(t, api.Cubic{Most: greatest, Has: true, Est: 5000}, 0, 0, now, 9, false, api.Cubic{Cwnd: 5000, Has: true, Most: greatest, Est: 5000})
		}
	}
	checkAck(t, api.Cubic{}, 0, 0, 0, 0, false, api.Cubic{Cwnd: floor, Has: true})
	checkAck(t, api.Cubic{}, 1, 0, 0, 0, false, api.Cubic{Cwnd: most, Has: true, Est: top})
}

// P12.2: whatever the window is, what is answered is what the chapter's words say.
func TestAckAgainstTheWords(t *testing.T) {
	for i, c := range windows() {
		for j, bytes := range fewEdges() {
			now := fewEdges()[(i+j)%len(fewEdges())]
			for k, at := range []uint64{c.Since - 1, c.Since, c.Since + 1} {
				took := fewEdges()[(i+3*j+5*k)%len(fewEdges())]
				limited := (i+j)%7 == 0
				checkAck(t, c, bytes, at, now, took, limited, acked(c, bytes, at, now, took, limited))
			}
			near := c.Epoch + c.K - 300
			checkAck(t, c, bytes, top, near, uint64(j)*60, false, acked(c, bytes, top, near, uint64(j)*60, false))
		}
	}
	all := edges()
	for i, cwnd := range all {
		for j, greatest := range all {
			for k, thresh := range []uint64{0, cwnd - 1, cwnd, cwnd + 1} {
				bytes, est := all[(2*i+j+k)%len(all)], all[(i+5*j+k)%len(all)]
				c := api.Cubic{Cwnd: cwnd, Thresh: thresh, Since: 10, Has: (i+k)%2 == 0, Epoch: 1000, Most: greatest, K: 1957, Est: est}
				for _, bytes := range []uint64{0, 1200, bytes, top} {
					checkAck(t, c, bytes, 10, 2500, 457, false, acked(c, bytes, 10, 2500, 457, false))
				}
			}
		}
	}
}

// P12.3: a loss of what was sent below Since is one that is known; at Since and behind it, it is another one.
func TestLossSince(t *testing.T) {
	for _, since := range []uint64{1, 2, 10, 1 << 32, 1 << 63, top - 1, top} {
		c := api.Cubic{Cwnd: 13200, Thresh: 9000, Since: since, Has: true, Epoch: 7, Most: 13000, K: 8, Est: 9}
		for _, at := range []uint64{0, since / 2, since - 1} {
			checkLoss(t, c, at, 50, c)
			checkLoss(t, c, at, top, c)
		}
		for _, at := range []uint64{since, max(since, since+1), top} {
			checkLoss(t, c, at, 50, api.Cubic{Cwnd: 9240, Thresh: 9240, Since: 51, Most: 13200})
		}
	}
	c := api.Cubic{Cwnd: 13200, Most: 13000}
	checkLoss(t, c, 0, 0, api.Cubic{Cwnd: 9240, Thresh: 9240, Since: 1, Most: 13200})
	checkLoss(t, c, top, 0, api.Cubic{Cwnd: 9240, Thresh: 9240, Since: 1, Most: 13200})
}

// P12.3: what a window was is kept as Most, or 17 parts of 20 of it, downwards, where it had not come back to its Most.
func TestLossMost(t *testing.T) {
	for _, c := range []struct{ cwnd, greatest, want uint64 }{
		{12000, 0, 12000}, {12000, 11998, 12000}, {12000, 11999, 12000}, {12000, 12000, 12000}, {12000, 12001, 10200}, {12000, 12002, 10200}, {12000, top, 10200},
		{8400, 12000, 7140}, {8401, 12000, 7140}, {8402, 12000, 7141}, {floor, 2399, floor}, {floor, 2400, floor}, {floor, 2401, 2040}, {most, most, most}, {most, most + 1, 14260633},
		{0, 0, 0}, {0, 1, 0}, {1, 0, 1}, {1, 1, 1}, {1, 2, 0}, {2, 3, 1}, {2, top, 1}, {19, 20, 16}, {20, 21, 17},
		{1 << 63, 1 << 63, 1 << 63}, {1 << 63, 1<<63 + 1, 7839866231326559436}, {top, top, top}, {top, 0, top}, {top - 1, top, 15679732462653118871}, {top - 1, top - 1, top - 1},
	} {
		for _, n := range []uint64{0, 5, top} {
			got := Loss(api.Cubic{Cwnd: c.cwnd, Thresh: n, Has: n == 5, Epoch: n, Most: c.greatest, K: n, Est: n}, 3, 9)
			if got.Most != c.want {
				t.Errorf("of a window of %d, of a Most of %d: %+v, want %d", c.cwnd, c.greatest, got, c.want)
			}
		}
	}
}

// P12.3: a window becomes 7 parts of 10 of it, downwards, held at both edges, and Thresh too, whatever it was.
func TestLossParts(t *testing.T) {
	for _, c := range [][2]uint64{
		{0, floor}, {1, floor}, {2400, floor}, {3427, floor}, {3428, floor}, {3429, 2400}, {3430, 2401}, {3431, 2401}, {3432, 2402}, {5000, 3500},
		{12000, 8400}, {12001, 8400}, {12002, 8401}, {most - 1, 11744050}, {most, 11744051}, {most + 1, 11744051},
		{23967450, most - 1}, {23967451, most - 1}, {23967452, most}, {23967453, most}, {23967454, most}, {1 << 32, most}, {1 << 62, most}, {1 << 63, most}, {top / 7, most}, {top/7 + 1, most}, {top - 1, most}, {top, most},
	} {
		for _, thresh := range []uint64{0, floor, c[1], most, top} {
			checkLoss(t, api.Cubic{Cwnd: c[0], Thresh: thresh, Since: 3}, 3, 9, api.Cubic{Cwnd: c[1], Thresh: c[1], Since: 10, Most: c[0]})
			checkLoss(t, api.Cubic{Cwnd: c[0], Thresh: thresh, Since: 3, Most: c[0]}, 4, 9, api.Cubic{Cwnd: c[1], Thresh: c[1], Since: 10, Most: c[0]})
		}
	}
}

// P12.3: Since is behind now, but for a now of the greatest number, where it is that; a now may also be ahead of the packet's time, and of Since.
func TestLossNow(t *testing.T) {
	for _, c := range [][2]uint64{{0, 1}, {1, 2}, {4, 5}, {9, 10}, {1<<32 - 1, 1 << 32}, {1 << 63, 1<<63 + 1}, {top - 2, top - 1}, {top - 1, top}, {top, top}} {
		for _, at := range []uint64{5, 10, 1 << 63, top} {
			checkLoss(t, api.Cubic{Cwnd: 12000, Thresh: most, Since: 5}, at, c[0], api.Cubic{Cwnd: 8400, Thresh: 8400, Since: c[1], Most: 12000})
		}
	}
	// Nothing is behind the greatest number: of what was sent then, each loss is another one.
	c := Loss(New(), 0, top)
	checkLoss(t, c, top-1, top, c)
	checkLoss(t, c, top, top, api.Cubic{Cwnd: 5880, Thresh: 5880, Since: top, Most: 7140})
}

// P12.3: behind a loss there is no epoch, whatever there was.
func TestLossEndsEpoch(t *testing.T) {
	want := api.Cubic{Cwnd: 8400, Thresh: 8400, Since: 10, Most: 12000}
	for _, n := range []uint64{0, 1, 1957, top} {
		for _, has := range []bool{false, true} {
			for _, c := range []api.Cubic{{Epoch: n}, {K: n}, {Est: n}, {Epoch: n, K: n, Est: n}} {
				c.Cwnd, c.Has = 12000, has
				checkLoss(t, c, 0, 9, want)
			}
		}
	}
	// The next one begins anew, of its own time.
	again := Ack(want, 0, 10, 70, 0, false)
	if again != (api.Cubic{Cwnd: 8400, Thresh: 8400, Since: 10, Has: true, Epoch: 70, Most: 12000, K: 1957, Est: 8400}) {
		t.Errorf("behind a loss: %+v", again)
	}
}

// P12.3: whatever the window is, what is answered is what the chapter's words say.
func TestLossAgainstTheWords(t *testing.T) {
	for _, c := range windows() {
		for _, now := range fewEdges() {
			for _, at := range []uint64{0, c.Since - 1, c.Since, c.Since + 1, now, top} {
				checkLoss(t, c, at, now, lost(c, at, now))
			}
		}
	}
	for _, cwnd := range edges() {
		for _, greatest := range []uint64{0, cwnd - 1, cwnd, cwnd + 1, top} {
			c := api.Cubic{Cwnd: cwnd, Most: greatest, Has: true, Epoch: 5, K: 6, Est: 7}
			checkLoss(t, c, 0, cwnd, lost(c, 0, cwnd))
		}
	}
}

// P12.3: a Collapse leaves Thresh and Most as they were, and nothing else.
func TestCollapse(t *testing.T) {
	checkCollapse(t, New(), api.Cubic{Cwnd: floor, Thresh: most})
	checkCollapse(t, api.Cubic{}, api.Cubic{Cwnd: floor})
	checkCollapse(t, api.Cubic{Cwnd: 8400, Thresh: 8300, Since: 10, Has: true, Epoch: 50, Most: 12000, K: 1957, Est: 9035}, api.Cubic{Cwnd: floor, Thresh: 8300, Most: 12000})
	checkCollapse(t, api.Cubic{Cwnd: top, Thresh: top, Since: top, Epoch: top, Most: top, K: top, Est: top}, api.Cubic{Cwnd: floor, Thresh: top, Most: top})
	checkCollapse(t, api.Cubic{Cwnd: 1, Thresh: 5, Most: 7}, api.Cubic{Cwnd: floor, Thresh: 5, Most: 7})
	for _, c := range windows() {
		checkCollapse(t, c, collapsed(c))
		checkCollapse(t, Collapse(c), collapsed(c))
	}
}

// P12.3: behind a Collapse a packet of any time counts again, and the window grows fast up to Thresh.
func TestBehindCollapse(t *testing.T) {
	c := Collapse(api.Cubic{Cwnd: 8400, Thresh: 8400, Since: 1000, Has: true, Epoch: 50, Most: 12000, K: 1957, Est: 9035})
	checkAck(t, c, 1200, 0, 5, 6, false, api.Cubic{Cwnd: 3600, Thresh: 8400, Most: 12000})
	checkLoss(t, c, 0, 5, api.Cubic{Cwnd: floor, Thresh: floor, Since: 6, Most: 2040})
}

// within tells whether a window is within Floor and Cap.
func within(c api.Cubic) bool { return c.Cwnd >= floor && c.Cwnd <= most }

// P12.4: from any window within Floor and Cap on, with any other numbers, it stays there; acks never let it fall, losses never let it rise.
func TestWithin(t *testing.T) {
	for _, c := range windows() {
		if !within(c) {
			continue
		}
		for _, n := range fewEdges() {
			for _, at := range []uint64{c.Since - 1, c.Since, top} {
				for _, now := range []uint64{0, c.Epoch, c.Epoch + 2000, top} {
					if got := Ack(c, n, at, now, n, false); !within(got) || got.Cwnd < c.Cwnd {
						t.Errorf("Ack(%+v, %d, %d, %d, %d, false) = %+v", c, n, at, now, n, got)
					}
				}
				if got := Loss(c, at, n); !within(got) || got.Cwnd > c.Cwnd {
					t.Errorf("Loss(%+v, %d, %d) = %+v", c, at, n, got)
				}
			}
		}
		if got := Collapse(c); !within(got) || got.Cwnd > c.Cwnd {
			t.Errorf("Collapse(%+v) = %+v", c, got)
		}
	}
}

// P12.4: of no window does a target fall as time goes by.
func TestTargetsRise(t *testing.T) {
	for _, c := range windows() {
		last, lastTime := uint64(0), uint64(0)
		for _, time := range []uint64{0, 1, 128, 1957, far - 1, far, far + 1, 1 << 32, 1 << 63, top - far, top - 128, top - 1, top} {
			got := Target(c, time)
			if got < last {
				t.Errorf("Target(%+v, %d) = %d, but of %d it is %d", c, time, got, lastTime, last)
			}
			last, lastTime = got, time
		}
	}
	for _, k := range []uint64{0, 1, 1957, far, far + 1, 1 << 40, top - 1000, top} {
		c := api.Cubic{Cwnd: farCube, Most: farCube + farCube/4, K: k}
		from := less(k, far+500)
		last := uint64(0)
		for time, steps := from, 0; steps < 12000 && time >= from; time, steps = time+350, steps+1 {
			got := Target(c, time)
			if got < last {
				t.Fatalf("Target(%+v, %d) = %d, but ahead of it %d", c, time, got, last)
			}
			last = got
		}
	}
}

// P12.4: the same by many calls, each on what the one before it gave.
func TestManyCalls(t *testing.T) {
	q := sequence(12)
	for range 40 {
		c, now := New(), q.below(1000)
		for range 500 {
			now += q.below(200)
			at := now - min(now, q.below(600))
			next, want := c, c
			switch q.below(40) {
			case 0, 1:
				next, want = Loss(c, at, now), lost(c, at, now)
				if next.Cwnd > c.Cwnd {
					t.Fatalf("Loss(%+v, %d, %d) = %+v", c, at, now, next)
				}
			case 2:
				if q.below(8) == 0 {
					next, want = Collapse(c), collapsed(c)
				}
			default:
				bytes, took, limited := q.below(1<<q.below(18)+1), q.below(300), q.below(5) == 0
				next, want = Ack(c, bytes, at, now, took, limited), acked(c, bytes, at, now, took, limited)
				if next.Cwnd < c.Cwnd {
					t.Fatalf("Ack(%+v, %d, %d, %d, %d, %v) = %+v", c, bytes, at, now, took, limited, next)
				}
			}
			if next != want || !within(next) {
				t.Fatalf("behind %+v: %+v, want %+v", c, next, want)
			}
			c = next
		}
	}
}

// P12.2: a window that lost is back where it was about at K, grows slowly around it, and faster behind it.
func TestGrowth(t *testing.T) {
	c := Loss(api.Cubic{Cwnd: 1 << 20, Most: 1 << 20, Thresh: 1 << 20}, 0, 0)
	begin := c.Cwnd
	var near, behind uint64
	for now := uint64(1); now < 20000; now += 100 {
		before := c.Cwnd
		c = Ack(c, c.Cwnd, 1, now, 0, false)
		switch away := now - c.Epoch; {
		case away < c.K/2 && c.Cwnd < begin+(1<<20-begin)/2:
			continue
		case away > c.K*9/10 && away < c.K*11/10:
			near = max(near, c.Cwnd-before)
		case away > c.K*3/2:
			behind = max(behind, c.Cwnd-before)
		}
	}
	if c.K != 8686 || near == 0 || near*4 > behind {
		t.Errorf("K %d, a round's growth near it %d, behind it %d", c.K, near, behind)
	}
}
