package span

import (
	"math"
	"math/rand"
	"slices"
	"testing"

	"wigwag/api"
)

const top = 1<<64 - 1

// of are spans of pairs of edges.
func of(edges ...uint64) []api.Span {
	var l []api.Span
	for i := 0; i+1 < len(edges); i += 2 {
		l = append(l, api.Span{From: edges[i], To: edges[i+1]})
	}
	return l
}

// one is a span of two edges.
func one(from, to uint64) api.Span { return api.Span{From: from, To: to} }

// is asks that an answer is just these spans.
func is(t *testing.T, got, want []api.Span, call string, args ...any) {
	t.Helper()
	if !slices.Equal(got, want) {
		t.Errorf("%s of %v: %v, want %v", call, args, got, want)
	}
}

// scale is how the numbers 0 to n of a small world are told apart by greater ones: by these the edges of 64 bits are met too.
type scale func(v uint64) uint64

// scales are small worlds of the edges 0 to n: from 0 on, in the middle, up to the greatest number, and across all.
func scales(n uint64) []scale {
	return []scale{
		func(v uint64) uint64 { return v },
		func(v uint64) uint64 { return 1<<63 - n/2 + v },
		func(v uint64) uint64 { return top - n + v },
		func(v uint64) uint64 { return top / n * v },
		func(v uint64) uint64 { return []uint64{v, top - n + v}[v*2/(n+1)] },
	}
}

// spans are the own spans of the small world's numbers whose bits are 1, of n ones.
func spans(bits uint64, n uint64, at scale) []api.Span {
	var l []api.Span
	for v := uint64(0); v < n; v++ {
		if bits>>v&1 == 0 {
			continue
		}
		if v > 0 && bits>>(v-1)&1 == 1 {
			l[len(l)-1].To = at(v + 1)
		} else {
			l = append(l, one(at(v), at(v+1)))
		}
	}
	return l
}

// ones are the bits from one on, up to another one; none, if they are turned about.
func ones(from, to uint64) uint64 {
	bits := uint64(0)
	for v := from; v < to; v++ {
		bits |= 1 << v
	}
	return bits
}

// P7.1, P7.2: the chapter's examples, and their neighbours.
func TestExamples(t *testing.T) {
	l := of(2, 5, 7, 9)
	is(t, Add(l, one(5, 7)), of(2, 9), "Add", l, 5, 7)
	is(t, Add(l, one(5, 6)), of(2, 6, 7, 9), "Add", l, 5, 6)
	is(t, Cut(l, one(3, 8)), of(2, 3, 8, 9), "Cut", l, 3, 8)
	is(t, Cut(l, one(3, 7)), of(2, 3, 7, 9), "Cut", l, 3, 7)
	if !Has(l, 4) || Has(l, 5) || Size(l) != 5 {
		t.Errorf("Has 4, 5; Size: %v, %v; %d", Has(l, 4), Has(l, 5), Size(l))
	}
}

// P7.1: Check of spans that are their own, and of those beside them that are not.
func TestCheck(t *testing.T) {
	for _, c := range []struct {
		name string
		l    []api.Span
		want bool
	}{
		{"nil", nil, true},
		{"none", []api.Span{}, true},
		{"one number", of(0, 1), true},
		{"one span", of(2, 5), true},
		{"all numbers", of(0, top), true},
		{"the greatest one", of(top-1, top), true},
		{"an empty one", of(2, 2), false},
		{"an empty one of 0", of(0, 0), false},
		{"an empty one of the greatest", of(top, top), false},
		{"one turned about", of(5, 2), false},
		{"one turned about, of all", of(top, 0), false},
		{"a number between", of(2, 5, 6, 7), true},
		{"many between", of(2, 5, 1<<40, top), true},
		{"that touch", of(2, 5, 5, 7), false},
		{"that meet", of(2, 5, 4, 7), false},
		{"that are the same", of(2, 5, 2, 5), false},
		{"one within another", of(2, 9, 4, 5), false},
		{"that fall", of(6, 7, 2, 5), false},
		{"that fall, and touch", of(5, 7, 2, 5), false},
		{"three", of(0, 1, 2, 3, 4, 5), true},
		{"the first two touch", of(0, 2, 2, 3, 4, 5), false},
		{"the last two touch", of(0, 1, 2, 4, 4, 5), false},
		{"the first is empty", of(0, 0, 2, 3, 4, 5), false},
		{"the middle is empty", of(0, 1, 2, 2, 4, 5), false},
		{"the last is empty", of(0, 1, 2, 3, 4, 4), false},
		{"the last is turned about", of(0, 1, 2, 3, 5, 4), false},
		{"the middle is turned about", of(0, 1, 3, 2, 5, 6), false},
		{"the last falls", of(4, 5, 8, 9, 0, 1), false},
		{"from 0 to the greatest", of(0, 1, 2, top-1), true},
		{"up to the greatest", of(0, top-1, top, top), false},
	} {
		if got := Check(c.l); got != c.want {
			t.Errorf("%s: Check(%v) is %v", c.name, c.l, got)
		}
	}
}

// own tells whether a list are its own spans, by asking of each number of a small world where it lies.
func own(l []api.Span, n uint64) bool {
	bits := uint64(0)
	for _, s := range l {
		bits |= ones(s.From, s.To)
	}
	return slices.Equal(l, spans(bits, n, func(v uint64) uint64 { return v }))
}

// P7.1: Check of all lists of up to three spans whose edges are 0 to 4.
func TestCheckOfAll(t *testing.T) {
	var all []api.Span
	for i := range uint64(25) {
		all = append(all, one(i/5, i%5))
	}
	ask := func(l ...api.Span) {
		if Check(l) != own(l, 4) {
			t.Errorf("Check(%v) is %v", l, Check(l))
		}
	}
	for _, a := range all {
		ask(a)
		for _, b := range all {
			ask(a, b)
			for _, c := range all {
				ask(a, b, c)
			}
		}
	}
}

// P7.1: Check of many spans, one of which touches the one ahead.
func TestCheckOfMany(t *testing.T) {
	var l []api.Span
	for i := range uint64(1000) {
		l = append(l, one(3*i, 3*i+2))
	}
	if !Check(l) {
		t.Error("Check of many spans is false")
	}
	for i := 1; i < len(l); i++ {
		wrong := slices.Clone(l)
		wrong[i].From--
		if Check(wrong) {
			t.Errorf("Check is true, though the span %d touches the one ahead", i)
		}
	}
}

// P7.1: Has of any list, at each span's edges and beside them, asked of each span by the chapter's words.
func TestHas(t *testing.T) {
	for _, l := range [][]api.Span{
		nil, {}, of(2, 5), of(2, 5, 7, 9), of(0, 1), of(0, top), of(top-1, top), of(0, 1, top-1, top), of(1, 2, 4, 1<<63, 1<<63+1, top-2),
		of(2, 2), of(5, 2), of(top, 0), of(0, 0), of(top, top), of(2, 5, 5, 7), of(2, 5, 4, 7), of(2, 9, 4, 5), of(7, 9, 2, 5), of(9, 7, 2, 5), of(5, 5, 2, 3, 9, 1, 4, 6), of(0, 0, 0, 0, 0, 1), of(20, 30, 2, 5, 10, 12, 0, 1),
	} {
		ask := []uint64{0, 1, 3, 6, 1 << 32, 1 << 63, top - 1, top}
		for _, s := range l {
			ask = append(ask, s.From-1, s.From, s.From+1, s.To-1, s.To, s.To+1, s.From/2+s.To/2)
		}
		for _, n := range ask {
			want := false
			for _, s := range l {
				want = want || s.From <= n && s.To > n
			}
			if got := Has(l, n); got != want {
				t.Errorf("Has(%v, %d) is %v", l, n, got)
			}
		}
	}
}

// P7.1: Has, number by number, as plainly told.
func TestHasOfNumbers(t *testing.T) {
	for _, c := range []struct {
		l    []api.Span
		in   []uint64
		out  []uint64
		name string
	}{
		{of(2, 5, 7, 9), []uint64{2, 3, 4, 7, 8}, []uint64{0, 1, 5, 6, 9, 10, top}, "two"},
		{nil, nil, []uint64{0, 1, top}, "nil"},
		{of(3, 3), nil, []uint64{2, 3, 4}, "an empty one"},
		{of(6, 3), nil, []uint64{2, 3, 4, 5, 6, 7}, "one turned about"},
		{of(0, top), []uint64{0, 1, 1 << 63, top - 1}, []uint64{top}, "all"},
		{of(7, 9, 2, 5), []uint64{2, 4, 7, 8}, []uint64{1, 5, 6, 9}, "that fall"},
		{of(2, 8, 3, 4), []uint64{2, 3, 4, 7}, []uint64{1, 8}, "one within another"},
		{of(6, 3, 4, 5), []uint64{4}, []uint64{3, 5, 6}, "one behind one turned about"},
	} {
		for _, n := range c.in {
			if !Has(c.l, n) {
				t.Errorf("%s: %d is not in %v", c.name, n, c.l)
			}
		}
		for _, n := range c.out {
			if Has(c.l, n) {
				t.Errorf("%s: %d is in %v", c.name, n, c.l)
			}
		}
	}
}

// P7.2: Size of no span, of one, of many.
func TestSize(t *testing.T) {
	many := []api.Span{}
	for i := range uint64(1000) {
		many = append(many, one(1<<40*i, 1<<40*i+i+1))
	}
	for _, c := range []struct {
		l    []api.Span
		want uint64
	}{
		{nil, 0}, {[]api.Span{}, 0}, {of(0, 1), 1}, {of(2, 5), 3}, {of(2, 5, 7, 9), 5}, {of(0, top), top}, {of(1, top), top - 1}, {of(0, 1, 2, top), top - 1}, {of(top-1, top), 1}, {of(0, 1, top-1, top), 2}, {of(0, 1<<63, 1<<63+1, top), top - 1}, {many, 500500},
	} {
		if got := Size(c.l); got != c.want {
			t.Errorf("Size(%v): %d, want %d", c.l, got, c.want)
		}
	}
}

// changed is a call on a set and a span, and what it should answer.
type changed struct {
	name string
	l    []api.Span
	s    api.Span
	want []api.Span
}

// P7.2: Add at each edge that a set has.
func TestAdd(t *testing.T) {
	l := of(10, 20, 30, 40, 50, 60)
	for _, c := range []changed{
		{"to nil", nil, one(3, 5), of(3, 5)},
		{"to none", []api.Span{}, one(3, 5), of(3, 5)},
		{"none to none", nil, one(3, 3), nil},
		{"all to none", nil, one(0, top), of(0, top)},
		{"an empty one between", l, one(25, 25), l},
		{"an empty one of 0", l, one(0, 0), l},
		{"an empty one of the greatest", l, one(top, top), l},
		{"an empty one within", l, one(15, 15), l},
		{"an empty one that touches", l, one(20, 20), l},
		{"one turned about", l, one(26, 24), l},
		{"one turned about, over several", l, one(55, 15), l},
		{"one turned about, over all", l, one(top, 0), l},
		{"one turned about, to none", nil, one(5, 3), nil},
		{"ahead of all", l, one(3, 5), of(3, 5, 10, 20, 30, 40, 50, 60)},
		{"ahead of all, a number between", l, one(3, 9), of(3, 9, 10, 20, 30, 40, 50, 60)},
		{"from 0", l, one(0, 1), of(0, 1, 10, 20, 30, 40, 50, 60)},
		{"ahead, that touches", l, one(3, 10), of(3, 20, 30, 40, 50, 60)},
		{"ahead, that meets", l, one(3, 11), of(3, 20, 30, 40, 50, 60)},
		{"behind all", l, one(70, 80), of(10, 20, 30, 40, 50, 60, 70, 80)},
		{"behind all, a number between", l, one(61, 80), of(10, 20, 30, 40, 50, 60, 61, 80)},
		{"up to the greatest", l, one(top-1, top), of(10, 20, 30, 40, 50, 60, top-1, top)},
		{"behind, that touches", l, one(60, 80), of(10, 20, 30, 40, 50, 80)},
		{"behind, that meets", l, one(59, 80), of(10, 20, 30, 40, 50, 80)},
		{"between two", l, one(24, 26), of(10, 20, 24, 26, 30, 40, 50, 60)},
		{"between two, a number at each side", l, one(21, 29), of(10, 20, 21, 29, 30, 40, 50, 60)},
		{"that touches the one ahead", l, one(20, 29), of(10, 29, 30, 40, 50, 60)},
		{"that touches the one behind", l, one(21, 30), of(10, 20, 21, 40, 50, 60)},
		{"that touches two", l, one(20, 30), of(10, 40, 50, 60)},
		{"that meets two", l, one(19, 31), of(10, 40, 50, 60)},
		{"that touches one, and meets one", l, one(20, 31), of(10, 40, 50, 60)},
		{"over one", l, one(29, 41), of(10, 20, 29, 41, 50, 60)},
		{"over one, and touches its neighbours", l, one(20, 50), of(10, 60)},
		{"several", l, one(15, 35), of(10, 40, 50, 60)},
		{"just all", l, one(10, 60), of(10, 60)},
		{"more than all", l, one(9, 61), of(9, 61)},
		{"all numbers", l, one(0, top), of(0, top)},
		{"that is one already", l, one(30, 40), l},
		{"that is in one already", l, one(33, 35), l},
		{"that is its beginning", l, one(30, 31), l},
		{"that is its end", l, one(39, 40), l},
		{"all is in already", of(0, top), one(5, 6), of(0, top)},
		{"the last number that was missing", of(0, top-1), one(top-1, top), of(0, top)},
		{"the first number that was missing", of(1, top), one(0, 1), of(0, top)},
		{"a number in the middle of all", of(0, 1<<63, 1<<63+1, top), one(1<<63, 1<<63+1), of(0, top)},
	} {
		is(t, Add(c.l, c.s), c.want, "Add, "+c.name+",", c.l, c.s)
	}
}

// P7.2: Cut at each edge that a set has.
func TestCut(t *testing.T) {
	l := of(10, 20, 30, 40, 50, 60)
	for _, c := range []changed{
		{"of nil", nil, one(3, 5), nil},
		{"of none", []api.Span{}, one(0, top), nil},
		{"an empty one between", l, one(25, 25), l},
		{"an empty one within", l, one(15, 15), l},
		{"an empty one at an edge", l, one(10, 10), l},
		{"an empty one of 0", of(0, 5), one(0, 0), of(0, 5)},
		{"an empty one of the greatest", of(5, top), one(top, top), of(5, top)},
		{"one turned about, within", l, one(16, 14), l},
		{"one turned about, over several", l, one(55, 15), l},
		{"one turned about, over all", l, one(top, 0), l},
		{"ahead of all", l, one(3, 5), l},
		{"ahead, that touches", l, one(3, 10), l},
		{"behind all", l, one(70, 80), l},
		{"behind, that touches", l, one(60, 80), l},
		{"between two", l, one(24, 26), l},
		{"all between two", l, one(20, 30), l},
		{"one number of a beginning", l, one(30, 31), of(10, 20, 31, 40, 50, 60)},
		{"a beginning, and what is ahead", l, one(21, 35), of(10, 20, 35, 40, 50, 60)},
		{"a beginning but for one number", l, one(30, 39), of(10, 20, 39, 40, 50, 60)},
		{"one number of an end", l, one(39, 40), of(10, 20, 30, 39, 50, 60)},
		{"an end, and what is behind", l, one(35, 49), of(10, 20, 30, 35, 50, 60)},
		{"an end but for one number", l, one(31, 40), of(10, 20, 30, 31, 50, 60)},
		{"a middle", l, one(33, 35), of(10, 20, 30, 33, 35, 40, 50, 60)},
		{"one number of a middle", l, one(33, 34), of(10, 20, 30, 33, 34, 40, 50, 60)},
		{"all but both edges", l, one(31, 39), of(10, 20, 30, 31, 39, 40, 50, 60)},
		{"just one", l, one(30, 40), of(10, 20, 50, 60)},
		{"more than one", l, one(25, 45), of(10, 20, 50, 60)},
		{"one, and all around it", l, one(20, 50), of(10, 20, 50, 60)},
		{"parts of two", l, one(15, 35), of(10, 15, 35, 40, 50, 60)},
		{"parts of three", l, one(15, 55), of(10, 15, 55, 60)},
		{"the first two", l, one(0, 45), of(50, 60)},
		{"the last two", l, one(25, top), of(10, 20)},
		{"just all", l, one(10, 60), nil},
		{"all but the first number", l, one(11, 60), of(10, 11)},
		{"all but the last number", l, one(10, 59), of(59, 60)},
		{"all numbers", l, one(0, top), nil},
		{"a number of all", of(0, top), one(7, 8), of(0, 7, 8, top)},
		{"the first number of all", of(0, top), one(0, 1), of(1, top)},
		{"the last number of all", of(0, top), one(top-1, top), of(0, top-1)},
		{"all of all", of(0, top), one(0, top), nil},
	} {
		is(t, Cut(c.l, c.s), c.want, "Cut, "+c.name+",", c.l, c.s)
	}
}

// P7.2: Both of sets, either way about.
func TestBoth(t *testing.T) {
	l := of(10, 20, 30, 40, 50, 60)
	for _, c := range []struct {
		name string
		a, b []api.Span
		want []api.Span
	}{
		{"of none", nil, nil, nil},
		{"of one and none", l, nil, nil},
		{"of one and an empty one", l, []api.Span{}, nil},
		{"of itself", l, l, l},
		{"of all", l, of(0, top), l},
		{"of all and all", of(0, top), of(0, top), of(0, top)},
		{"of others between", l, of(0, 5, 22, 28, 42, 48, 61, top), nil},
		{"of all others", l, of(0, 10, 20, 30, 40, 50, 60, top), nil},
		{"ahead of all", l, of(2, 9), nil},
		{"behind all", l, of(70, 80), nil},
		{"of a number at each edge", l, of(9, 11, 19, 21, 29, 31, 39, 41, 49, 51, 59, 61), of(10, 11, 19, 20, 30, 31, 39, 40, 50, 51, 59, 60)},
		{"of one over two", l, of(15, 35), of(15, 20, 30, 35)},
		{"of one over three", l, of(0, 55), of(10, 20, 30, 40, 50, 55)},
		{"of two in one", l, of(12, 14, 16, 18), of(12, 14, 16, 18)},
		{"of one that is over", l, of(25, 45), of(30, 40)},
		{"of one within", l, of(33, 35), of(33, 35)},
		{"of the first numbers", of(0, 1, 5, 6), of(0, 1, 6, 7), of(0, 1)},
		{"of the last numbers", of(3, 5, top-1, top), of(5, 6, top-3, top), of(top-1, top)},
		{"with one beginning", of(3, 9), of(3, 5), of(3, 5)},
		{"with one end", of(3, 9), of(7, 9), of(7, 9)},
	} {
		is(t, Both(c.a, c.b), c.want, "Both, "+c.name+",", c.a, c.b)
		is(t, Both(c.b, c.a), c.want, "Both, "+c.name+",", c.b, c.a)
	}
}

// P7.2: Last of all counts.
func TestLast(t *testing.T) {
	l := of(10, 20, 30, 40, 50, 60)
	for _, c := range []struct {
		l    []api.Span
		n    int
		want []api.Span
	}{
		{l, math.MinInt, nil}, {l, math.MinInt + 1, nil}, {l, -3, nil}, {l, -1, nil}, {l, 0, nil},
		{l, 1, of(50, 60)}, {l, 2, of(30, 40, 50, 60)}, {l, 3, l}, {l, 4, l}, {l, 1000, l}, {l, math.MaxInt - 1, l}, {l, math.MaxInt, l},
		{nil, -1, nil}, {nil, 0, nil}, {nil, 1, nil}, {nil, math.MaxInt, nil}, {nil, math.MinInt, nil}, {[]api.Span{}, 1, nil},
		{of(0, top), 0, nil}, {of(0, top), 1, of(0, top)}, {of(0, top), 2, of(0, top)},
	} {
		is(t, Last(c.l, c.n), c.want, "Last", c.l, c.n)
	}
}

// P7.1, P7.2: Size, Add, Cut and Last of all sets of a small world, with all spans of it, empty and turned about ones too.
func TestAllSets(t *testing.T) {
	const n = 7
	for i, at := range scales(n) {
		for bits := range uint64(1 << n) {
			l := spans(bits, n, at)
			if !Check(l) {
				t.Fatalf("scale %d: Check(%v) is false", i, l)
			}
			size := uint64(0)
			for v := range uint64(n) {
				size += bits >> v & 1 * (at(v+1) - at(v))
				if Has(l, at(v)) != (bits>>v&1 == 1) || Has(l, at(v+1)-1) != (bits>>v&1 == 1) {
					t.Fatalf("scale %d: Has(%v, %d), Has(.., %d): %v, %v", i, l, at(v), at(v+1)-1, Has(l, at(v)), Has(l, at(v+1)-1))
				}
			}
			if Size(l) != size {
				t.Fatalf("scale %d: Size(%v): %d, want %d", i, l, Size(l), size)
			}
			for from := range uint64(n + 1) {
				for to := range uint64(n + 1) {
					s := one(at(from), at(to))
					is(t, Add(l, s), spans(bits|ones(from, to), n, at), "Add", l, s)
					is(t, Cut(l, s), spans(bits&^ones(from, to), n, at), "Cut", l, s)
				}
			}
			for k := -1; k <= len(l)+1; k++ {
				is(t, Last(l, k), l[len(l)-max(0, min(k, len(l))):], "Last", l, k)
			}
		}
	}
}

// P7.2: Both of all sets of a small world.
func TestAllPairs(t *testing.T) {
	const n = 7
	for _, at := range scales(n) {
		for first := range uint64(1 << n) {
			for second := range uint64(1 << n) {
				a, b := spans(first, n, at), spans(second, n, at)
				is(t, Both(a, b), spans(first&second, n, at), "Both", a, b)
			}
		}
	}
}

// P7.3: what is added is in, what is cut is not, all others stay: by many steps, each number of which is asked.
func TestManySteps(t *testing.T) {
	r := rand.New(rand.NewSource(73))
	for _, at := range []scale{func(v uint64) uint64 { return v }, func(v uint64) uint64 { return top - 300 + v }} {
		var l []api.Span
		var in [300]bool
		for step := range 3000 {
			from := r.Intn(301)
			to := min(300, from+r.Intn(1+r.Intn(60)))
			s := one(at(uint64(from)), at(uint64(to)))
			added := r.Intn(5) < 2+step%2000/1000
			if added {
				l = Add(l, s)
			} else {
				l = Cut(l, s)
			}
			for v := from; v < to; v++ {
				in[v] = added
			}
			if !Check(l) {
				t.Fatalf("step %d: %v are not its own spans", step, l)
			}
			size := uint64(0)
			for v, want := range in {
				if want {
					size++
				}
				if Has(l, at(uint64(v))) != want {
					t.Fatalf("step %d: %d is in %v: %v", step, at(uint64(v)), l, !want)
				}
			}
			if Size(l) != size || Has(l, at(300)) {
				t.Fatalf("step %d: %v has %d numbers, want %d", step, l, Size(l), size)
			}
		}
	}
}

// P7.3: the order of what is added does not matter: all orders of a few, and many orders of many.
func TestOrders(t *testing.T) {
	few := of(4, 6, 6, 8, 10, 12, 7, 11, 0, 1, 20, 20)
	all := func(l []api.Span) []api.Span {
		var out []api.Span
		for _, s := range l {
			out = Add(out, s)
		}
		return out
	}
	var orders func(k int)
	orders = func(k int) {
		if k == len(few) {
			is(t, all(few), of(0, 1, 4, 12), "Add in turn", few)
			return
		}
		for i := k; i < len(few); i++ {
			few[k], few[i] = few[i], few[k]
			orders(k + 1)
			few[k], few[i] = few[i], few[k]
		}
	}
	orders(0)
	r := rand.New(rand.NewSource(7))
	var many []api.Span
	for range 300 {
		from := r.Uint64() >> r.Intn(10)
		many = append(many, one(from, from+min(r.Uint64()>>(6+r.Intn(40)), top-from)))
	}
	want := all(many)
	for range 50 {
		r.Shuffle(len(many), func(i, j int) { many[i], many[j] = many[j], many[i] })
		is(t, all(many), want, "Add in turn", many)
	}
	if len(want) < 2 || !Check(want) {
		t.Errorf("all of many are %v", want)
	}
}

// P7.3: single numbers, added in any order, become few spans, and are cut again in any order.
func TestNumbers(t *testing.T) {
	r := rand.New(rand.NewSource(70))
	for _, base := range []uint64{0, 1 << 62, top - 1000} {
		var l []api.Span
		for _, v := range r.Perm(1000) {
			l = Add(l, one(base+uint64(v), base+uint64(v)+1))
		}
		is(t, l, of(base, base+1000), "Add of all numbers", base)
		for i, v := range r.Perm(1000) {
			l = Cut(l, one(base+uint64(v), base+uint64(v)+1))
			if !Check(l) || Size(l) != uint64(999-i) {
				t.Fatalf("%d numbers were cut: %v", i+1, l)
			}
		}
		is(t, l, nil, "Cut of all numbers", base)
	}
}

// P7.2: sets of many spans, all of their numbers asked.
func TestManySpans(t *testing.T) {
	const n = 20000
	var even, odd []api.Span
	for i := range uint64(n) {
		even, odd = append(even, one(4*i, 4*i+1)), append(odd, one(4*i+2, 4*i+3))
	}
	is(t, Both(even, odd), nil, "Both of even and odd")
	is(t, Both(even, even), even, "Both of even and even")
	is(t, Both(even, of(0, top)), even, "Both of even and all")
	is(t, Both(of(4, 4*n), even), even[1:], "Both of most and even")
	is(t, Add(even, one(1, top)), of(0, top), "Add of the rest")
	is(t, Cut(even, one(1, 4*n-4)), []api.Span{even[0], even[n-1]}, "Cut of the middle")
	is(t, Last(even, n/2), even[n/2:], "Last of the half")
	if Size(even) != n || !Has(even, 4*n-4) || Has(even, 4*n-3) {
		t.Errorf("of %d spans: Size %d", n, Size(even))
	}
}

// answers are what all calls answer of two lists, a span, a number and a count.
func answers(a, b []api.Span, s api.Span, v uint64, n int) (lists [4][]api.Span, check, has bool, size uint64) {
	return [4][]api.Span{Add(a, s), Cut(a, s), Both(a, b), Last(a, n)}, Check(a), Has(a, v), Size(a)
}

// R1, R5: lists of all sorts, hand-made: all calls end, and tell the same again, whatever room the lists have.
func TestAnyLists(t *testing.T) {
	r := rand.New(rand.NewSource(71))
	edge := func() uint64 {
		switch r.Intn(3) {
		case 0:
			return uint64(r.Intn(8))
		case 1:
			return top - uint64(r.Intn(8))
		}
		return r.Uint64() >> r.Intn(64)
	}
	list := func() []api.Span {
		l := make([]api.Span, r.Intn(8))
		for i := range l {
			l[i] = one(edge(), edge())
		}
		return l
	}
	for range 50000 {
		a, b, s, v, n := list(), list(), one(edge(), edge()), edge(), r.Intn(12)-2
		lists, check, has, size := answers(a, b, s, v, n)
		roomyA, roomyB := append(make([]api.Span, 0, 50), a...), append(make([]api.Span, 0, 50), b...)
		again, checkAgain, hasAgain, sizeAgain := answers(roomyA, roomyB, s, v, n)
		if check != checkAgain || has != hasAgain || size != sizeAgain {
			t.Fatalf("%v, %d: told otherwise again", a, v)
		}
		for i := range lists {
			is(t, again[i], lists[i], "again", i, a, b, s, n)
		}
	}
}

// R1: long hand-made lists, of spans that are all alike, or turned about, end soon.
func TestLongLists(t *testing.T) {
	for _, s := range of(0, top, top, 0, 5, 5, 0, 1) {
		a := slices.Repeat([]api.Span{s}, 1<<17)
		b := slices.Clone(a)
		for _, by := range of(0, top, 3, 9, 9, 3) {
			answers(a, b, by, 7, 1<<16)
		}
	}
}

// roomy is a list with spare room behind it, and all of that memory.
func roomy(l []api.Span) (part, whole []api.Span) {
	whole = append(slices.Clone(l), of(1, 2, 4, 8, 16, 32, 64, 128, 256, 512)...)
	return whole[:len(l)], whole
}

// scribble changes all of a list, its spare room too.
func scribble(l []api.Span) {
	l = l[:cap(l)]
	for i := range l {
		l[i].From, l[i].To = ^l[i].From, ^l[i].To
	}
}

// R4: what is handed in stays, its spare room included, and shares no memory with what is answered, nor do two answers.
func TestMemory(t *testing.T) {
	for _, l := range [][]api.Span{nil, {}, of(10, 20), of(10, 20, 30, 40, 50, 60), of(0, top), of(5, 5), of(30, 40, 10, 20, 15, 3), of(10, 20, 10, 20)} {
		for _, by := range of(25, 25, 0, 5, 26, 24, 22, 28, 15, 35, 33, 35, 70, 80, 0, top, 20, 30, 10, 60) {
			calls := []func(l, b []api.Span) []api.Span{
				func(l, b []api.Span) []api.Span { return Add(l, by) },
				func(l, b []api.Span) []api.Span { return Cut(l, by) },
				func(l, b []api.Span) []api.Span { return Both(l, b) },
				func(l, b []api.Span) []api.Span { return Both(b, l) },
				func(l, b []api.Span) []api.Span { return Both(l, l) },
				func(l, b []api.Span) []api.Span { return Last(l, 1) },
				func(l, b []api.Span) []api.Span { return Last(l, 2) },
				func(l, b []api.Span) []api.Span { return Last(l, 9) },
				func(l, b []api.Span) []api.Span { return Last(l, 0) },
			}
			for i, call := range calls {
				part, whole := roomy(l)
				other, wholeOther := roomy([]api.Span{by})
				keep, keepOther := slices.Clone(whole), slices.Clone(wholeOther)
				Check(part)
				Has(part, 15)
				Size(part)
				first, second := call(part, other), call(part, other)
				want := slices.Clone(second)
				scribble(first)
				if !slices.Equal(whole, keep) || !slices.Equal(wholeOther, keepOther) {
					t.Errorf("call %d of %v, %v changed a list, or its answer shares memory with it", i, l, by)
				}
				scribble(whole)
				scribble(wholeOther)
				if !slices.Equal(second, want) {
					t.Errorf("call %d of %v, %v: an answer shares memory with another one, or with a list", i, l, by)
				}
			}
		}
	}
}
