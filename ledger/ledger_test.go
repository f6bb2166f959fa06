package ledger

import (
	"math/big"
	"slices"
	"testing"

	"wigwag/api"
	"wigwag/span"
)

const top = 1<<64 - 1

// sent is a packet of a number and a time; its other fields hang on these, so that packets that were mixed up are told apart.
func sent(number, at uint64) api.Sent {
	return api.Sent{Number: number, At: at, Size: 100 + number%7, Probe: number%3 == 0}
}

// of are packets of pairs of a number and a time.
func of(pairs ...uint64) []api.Sent {
	var l []api.Sent
	for i := 0; i+1 < len(pairs); i += 2 {
		l = append(l, sent(pairs[i], pairs[i+1]))
	}
	return l
}

// numbered are packets of these numbers, one millisecond behind the other.
func numbered(numbers ...uint64) []api.Sent {
	var l []api.Sent
	for i, n := range numbers {
		l = append(l, sent(n, uint64(i)))
	}
	return l
}

// spans are spans of pairs of edges.
func spans(edges ...uint64) []api.Span {
	var l []api.Span
	for i := 0; i+1 < len(edges); i += 2 {
		l = append(l, api.Span{From: edges[i], To: edges[i+1]})
	}
	return l
}

// sum is a sum of any size, or the greatest number.
func sum(of ...uint64) uint64 {
	all := new(big.Int)
	for _, n := range of {
		all.Add(all, new(big.Int).SetUint64(n))
	}
	if !all.IsUint64() {
		return top
	}
	return all.Uint64()
}

// sequence makes numbers out of numbers, the same ones each time.
type sequence uint64

func (q *sequence) below(n uint64) uint64 {
	*q = *q*6364136223846793005 + 1442695040888963407
	return uint64(*q) >> 16 % n
}

// edge is a number near 0, in the middle, or near the greatest one.
func (q *sequence) edge() uint64 {
	near := q.below(9)
	switch q.below(5) {
	case 0:
		return top - near
	case 1:
		return 1<<63 - 4 + near
	}
	return near
}

// packets are hand-made: their numbers follow one another for a while, and are any numbers then.
func (q *sequence) packets(most uint64) []api.Sent {
	l := make([]api.Sent, q.below(most+1))
	for i := range l {
		number := q.edge()
		if i > 0 && q.below(3) > 0 {
			number = sum(l[i-1].Number, 1)
		}
		l[i] = api.Sent{Number: number, At: q.edge(), Size: q.edge(), Probe: q.below(2) == 0}
		if i > 0 && q.below(9) == 0 {
			l[i] = l[i-1]
		}
	}
	return l
}

// parts asks that packets were parted into just these.
func parts(t *testing.T, these, others, want, rest []api.Sent, call string, args ...any) {
	t.Helper()
	if !slices.Equal(these, want) || !slices.Equal(others, rest) {
		t.Errorf("%s of %v: %v and %v, want %v and %v", call, args, these, others, want, rest)
	}
}

// P9.1 to P9.4: the chapter's examples, and their neighbours.
func TestExamples(t *testing.T) {
	l := []api.Sent{{Number: 1, At: 10, Size: 100}, {Number: 2, At: 20, Size: 100}, {Number: 5, At: 30, Size: 100}}
	these, others := Take(l, spans(1, 3))
	parts(t, these, others, l[:2], l[2:], "Take", 1, 3)
	for _, c := range []struct {
		next, now, late uint64
		lost            int
		when            uint64
	}{
		{6, 40, 100, 2, 0},
		{4, 40, 100, 0, 110},
		{5, 40, 100, 1, 120},
		{7, 40, 100, 2, 130},
		{9, 40, 100, 3, 0},
		{4, 110, 100, 1, 120},
		{4, 119, 100, 1, 120},
		{4, 120, 100, 2, 0},
	} {
		lost, left, when := Lost(l, c.next, c.now, c.late)
		parts(t, lost, left, l[:c.lost], l[c.lost:], "Lost", c)
		if when != c.when {
			t.Errorf("Lost of %v: %d, want %d", c, when, c.when)
		}
	}
	if !Check(l) || Flight(l) != 300 || !Long(l, 10) || Long(l, 11) || Long(l[1:], 10) {
		t.Errorf("%v: Check %v, Flight %d", l, Check(l), Flight(l))
	}
}

// P9.1: numbers that rise, stand still, and fall, at every place of a list.
func TestCheck(t *testing.T) {
	for _, c := range []struct {
		numbers []uint64
		want    bool
	}{
		{nil, true},
		{[]uint64{}, true},
		{[]uint64{0}, true},
		{[]uint64{7}, true},
		{[]uint64{top}, true},
		{[]uint64{0, 1}, true},
		{[]uint64{0, top}, true},
		{[]uint64{top - 1, top}, true},
		{[]uint64{0, 5, 6, 1 << 40, top}, true},
		{[]uint64{0, 0}, false},
		{[]uint64{5, 5}, false},
		{[]uint64{top, top}, false},
		{[]uint64{1, 0}, false},
		{[]uint64{top, 0}, false},
		{[]uint64{top, top - 1}, false},
		{[]uint64{1, 1, 2, 3}, false},
		{[]uint64{2, 1, 3, 4}, false},
		{[]uint64{1, 2, 2, 3}, false},
		{[]uint64{1, 3, 2, 4}, false},
		{[]uint64{1, 2, 3, 3}, false},
		{[]uint64{1, 2, 4, 3}, false},
		{[]uint64{3, 2, 1}, false},
	} {
		if got := Check(numbered(c.numbers...)); got != c.want {
			t.Errorf("Check of %v: %v", c.numbers, got)
		}
	}
}

// P9.1: it is the numbers alone that are to rise.
func TestCheckOfOtherFields(t *testing.T) {
	if !Check([]api.Sent{{Number: 1, At: 9, Size: 9, Probe: true}, {Number: 2, At: 8, Size: 8}, {Number: 3, At: 8, Size: 8}, {Number: 4}}) {
		t.Error("Check asks for more than numbers")
	}
	if Check([]api.Sent{{Number: 1, At: 1, Size: 1}, {Number: 1, At: 2, Size: 2, Probe: true}}) {
		t.Error("Check does not ask for numbers")
	}
}

// P9.1: Flight is a sum that does not wrap, of probes' sizes too, and of packets that are equal.
func TestFlight(t *testing.T) {
	for _, c := range []struct {
		sizes []uint64
		want  uint64
	}{
		{nil, 0},
		{[]uint64{}, 0},
		{[]uint64{0}, 0},
		{[]uint64{1200}, 1200},
		{[]uint64{top}, top},
		{[]uint64{1200, 1200, 60}, 2460},
		{[]uint64{0, 0, 5, 0}, 5},
		{[]uint64{top - 5, 5}, top},
		{[]uint64{top - 5, 4}, top - 1},
		{[]uint64{top - 5, 6}, top},
		{[]uint64{top - 5, 6, 7}, top},
		{[]uint64{top, 0, 0}, top},
		{[]uint64{top, 1}, top},
		{[]uint64{1, top}, top},
		{[]uint64{top, top, top}, top},
		{[]uint64{1 << 63, 1 << 63}, top},
		{[]uint64{1 << 63, 1<<63 - 1}, top},
		{[]uint64{1 << 63, 1<<63 - 2}, top - 1},
		{[]uint64{1 << 63, 1 << 63, 1 << 63, 1 << 63}, top},
	} {
		for _, number := range []uint64{0, 1, top} {
			for probes := range 3 {
				var l []api.Sent
				for i, size := range c.sizes {
					l = append(l, api.Sent{Number: number * uint64(i), At: top - uint64(i), Size: size, Probe: (i+probes)%3 > 0})
				}
				if got := Flight(l); got != c.want {
					t.Errorf("Flight of %v: %d, want %d", l, got, c.want)
				}
			}
		}
	}
}

// P9.2: spans of every sort, each with which places of a list's packets it holds.
func TestTake(t *testing.T) {
	l := of(1, 10, 2, 20, 5, 30, 6, 40, top-1, 50, top, 60)
	for _, c := range []struct {
		spans []api.Span
		want  []int
	}{
		{nil, nil},
		{[]api.Span{}, nil},
		{spans(0, 1), nil},
		{spans(3, 5), nil},
		{spans(7, top-1), nil},
		{spans(0, 1, 3, 5, 7, 100), nil},
		{spans(1, 2), []int{0}},
		{spans(1, 3), []int{0, 1}},
		{spans(0, 2), []int{0}},
		{spans(2, 6), []int{1, 2}},
		{spans(6, top), []int{3, 4}},
		{spans(top-1, top), []int{4}},
		{spans(0, top), []int{0, 1, 2, 3, 4}},
		{spans(1, 3, 5, 7), []int{0, 1, 2, 3}},
		// Empty spans, alone and among others.
		{spans(2, 2), nil},
		{spans(6, 1), nil},
		{spans(top, 0), nil},
		{spans(top, top), nil},
		{spans(5, 2, 2, 3, 6, 6), []int{1}},
		// In any order, one across the other, one in the other, and twice.
		{spans(6, 7, 1, 2), []int{0, 3}},
		{spans(5, 7, 2, 3, 1, 2), []int{0, 1, 2, 3}},
		{spans(1, 6, 2, 7), []int{0, 1, 2, 3}},
		{spans(0, 100, 2, 3), []int{0, 1, 2, 3}},
		{spans(2, 3, 0, 100), []int{0, 1, 2, 3}},
		{spans(2, 3, 2, 3), []int{1}},
	} {
		var want, rest []api.Sent
		for i, p := range l {
			if slices.Contains(c.want, i) {
				want = append(want, p)
			} else {
				rest = append(rest, p)
			}
		}
		these, others := Take(l, c.spans)
		parts(t, these, others, want, rest, "Take", c.spans)
	}
}

// P9.2: of lists of none and of one packet, and of lists that are no ledger: packets stay in the list's order, and equal ones stay as many.
func TestTakeOfAnyLists(t *testing.T) {
	for _, c := range []struct {
		l, want, rest []api.Sent
	}{
		{nil, nil, nil},
		{[]api.Sent{}, nil, nil},
		{of(2, 9), of(2, 9), nil},
		{of(1, 9), nil, of(1, 9)},
		{of(4, 9), nil, of(4, 9)},
		{of(5, 1, 3, 2, 2, 3, 1, 4), of(3, 2, 2, 3), of(5, 1, 1, 4)},
		{of(3, 1, 7, 1, 2, 1, 7, 1, 3, 1), of(3, 1, 2, 1, 3, 1), of(7, 1, 7, 1)},
		{of(2, 5, 2, 5, 2, 4, 9, 9, 9, 9), of(2, 5, 2, 5, 2, 4), of(9, 9, 9, 9)},
	} {
		these, others := Take(c.l, spans(2, 4))
		parts(t, these, others, c.want, c.rest, "Take", c.l)
		these, others = Take(c.l, nil)
		parts(t, these, others, nil, c.l, "Take of no span", c.l)
	}
}

// alone is how a single packet stands: lost, or not and told a time, or not behind.
type alone struct {
	lost bool
	when uint64
}

func checkAlone(t *testing.T, number, at, next, now, late uint64, want alone) {
	t.Helper()
	l := of(number, at)
	lost, left, when := Lost(l, next, now, late)
	if want.lost {
		parts(t, lost, left, l, nil, "Lost", l, next, now, late)
	} else {
		parts(t, lost, left, nil, l, "Lost", l, next, now, late)
	}
	if when != want.when {
		t.Errorf("Lost of %v, next %d, now %d, late %d: %d, want %d", l, next, now, late, when, want.when)
	}
}

// P9.3: a packet whose Number and 1 together are below, at and above next. It is old enough each time: only one that is behind is lost.
func TestLostBehind(t *testing.T) {
	for _, number := range []uint64{0, 1, 7, 1 << 32, 1 << 63, top - 9} {
		for _, c := range []struct {
			next uint64
			want alone
		}{
			{0, alone{}},
			{number, alone{}},
			{number + 1, alone{}},
			{number + 2, alone{lost: true}},
			{number + 3, alone{lost: true}},
			{number + 4, alone{lost: true}},
			{top, alone{lost: true}},
		} {
			checkAlone(t, number, 10, c.next, 15, 5, c.want)
		}
	}
}

// P9.3: a packet whose Number and 4 together are below, at and above next. No time made it lost yet.
func TestLostByNumbers(t *testing.T) {
	for _, number := range []uint64{0, 1, 7, 1 << 32, 1 << 63, top - 9} {
		for _, c := range []struct {
			next uint64
			want alone
		}{
			{number + 1, alone{}},
			{number + 2, alone{when: 15}},
			{number + 3, alone{when: 15}},
			{number + 4, alone{lost: true}},
			{number + 5, alone{lost: true}},
			{top, alone{lost: true}},
		} {
			checkAlone(t, number, 10, c.next, 14, 5, c.want)
		}
	}
}

// P9.3: a packet whose At and late together are below, at and above now.
func TestLostByTime(t *testing.T) {
	for _, c := range []struct {
		at, now, late uint64
		want          alone
	}{
		{10, 14, 5, alone{when: 15}},
		{10, 15, 5, alone{lost: true}},
		{10, 16, 5, alone{lost: true}},
		{10, 9, 0, alone{when: 10}},
		{10, 10, 0, alone{lost: true}},
		{10, 0, 0, alone{when: 10}},
		{10, 0, 5, alone{when: 15}},
		{0, 0, 0, alone{lost: true}},
		{0, 0, 1, alone{when: 1}},
		{1, 0, 0, alone{when: 1}},
		{10, top, 5, alone{lost: true}},
		{10, top, top, alone{lost: true}},
		{0, top - 1, top, alone{when: top}},
		{0, top, top, alone{lost: true}},
		{top, top - 1, 0, alone{when: top}},
		{top, top, 0, alone{lost: true}},
		{1 << 63, 1<<63 + 8, 9, alone{when: 1<<63 + 9}},
		{1 << 63, 1<<63 + 9, 9, alone{lost: true}},
	} {
		for _, number := range []uint64{0, 5, 1 << 63, top - 4} {
			checkAlone(t, number, c.at, number+2, c.now, c.late, c.want)
			checkAlone(t, number, c.at, number+3, c.now, c.late, c.want)
			checkAlone(t, number, c.at, number+1, c.now, c.late, alone{})
			checkAlone(t, number, c.at, number+4, c.now, c.late, alone{lost: true})
		}
	}
}

// P9.3: numbers whose sums would wrap: a sum that stops at the greatest number is not below any next, and is at most the greatest one.
func TestLostNumbersDoNotWrap(t *testing.T) {
	for _, c := range []struct {
		number, next uint64
		want         alone
	}{
		{top, top, alone{}},
		{top, 0, alone{}},
		{top, 4, alone{}},
		{top - 1, top, alone{}},
		{top - 1, 2, alone{}},
		{top - 1, 9, alone{}},
		{top - 2, top, alone{lost: true}},
		{top - 2, top - 1, alone{}},
		{top - 2, 5, alone{}},
		{top - 3, top, alone{lost: true}},
		{top - 3, top - 1, alone{when: 150}},
		{top - 3, top - 2, alone{}},
		{top - 4, top, alone{lost: true}},
		{top - 4, top - 1, alone{when: 150}},
		{top - 4, top - 2, alone{when: 150}},
		{top - 4, top - 3, alone{}},
		{top - 5, top, alone{lost: true}},
		{top - 5, top - 1, alone{lost: true}},
		{top - 5, top - 2, alone{when: 150}},
	} {
		checkAlone(t, c.number, 50, c.next, 149, 100, c.want)
		if c.want != (alone{}) {
			c.want = alone{lost: true}
		}
		checkAlone(t, c.number, 50, c.next, 150, 100, c.want)
		checkAlone(t, c.number, 50, c.next, top, 100, c.want)
	}
}

// P9.3: an At and a late whose sum would wrap: it is the greatest number.
func TestLostTimesDoNotWrap(t *testing.T) {
	for _, c := range []struct{ at, late uint64 }{
		{top, 1}, {1, top}, {top, top}, {top - 5, 5}, {top - 5, 6}, {5, top - 5}, {5, top - 4}, {1 << 63, 1 << 63}, {1 << 63, 1<<63 - 1},
	} {
		for _, now := range []uint64{0, 1, 5, 1 << 62, 1 << 63, top - 1} {
			checkAlone(t, 3, c.at, 5, now, c.late, alone{when: top})
			checkAlone(t, 3, c.at, 4, now, c.late, alone{})
			checkAlone(t, 3, c.at, 7, now, c.late, alone{lost: true})
		}
		checkAlone(t, 3, c.at, 5, top, c.late, alone{lost: true})
		checkAlone(t, 3, c.at, 4, top, c.late, alone{})
	}
	checkAlone(t, 3, 1<<63, 5, 0, 1<<63-2, alone{when: top - 1})
}

// P9.3: the time that is told is the least of all packets that are behind, and not lost, wherever it stands; of those that are lost, or not behind, it is not told.
func TestLostTold(t *testing.T) {
	for _, c := range []struct {
		l       []api.Sent
		lost    []uint64
		when    uint64
		comment string
	}{
		{nil, nil, 0, "of none"},
		{[]api.Sent{}, nil, 0, "of none"},
		{of(18, 110), nil, 210, "of one"},
		{of(17, 110, 18, 120), nil, 210, "the first one"},
		{of(17, 120, 18, 110), nil, 210, "the last one"},
		{of(17, 130, 17, 110, 18, 120), nil, 210, "the middle one"},
		{of(17, 120, 18, 120), nil, 220, "equal ones"},
		{of(17, 120, 17, 120), nil, 220, "one packet twice"},
		{of(16, 110, 17, 130, 18, 120), []uint64{16}, 220, "lost ones are not told, by numbers"},
		{of(17, 90, 18, 130, 17, 100), []uint64{17, 17}, 230, "lost ones are not told, by time"},
		{of(17, 130, 19, 110, 20, 111, 99, 112), nil, 230, "those that are not behind are not told"},
		{of(19, 10, 18, 130, 99, 0), nil, 230, "nor are they lost"},
		{of(19, 110, 20, 110), nil, 0, "none is behind"},
		{of(1, 150, 16, 150, 17, 100, 18, 0), []uint64{1, 16, 17, 18}, 0, "all are lost"},
		{of(1, 150, 20, 110, 16, 150), []uint64{1, 16}, 0, "all that are behind are lost"},
		{of(18, top, 17, 130), nil, 230, "beside a sum that would wrap"},
		{of(18, top), nil, top, "a sum that would wrap"},
	} {
		lost, left, when := Lost(c.l, 20, 200, 100)
		var want, rest []api.Sent
		for _, p := range c.l {
			if slices.Contains(c.lost, p.Number) {
				want = append(want, p)
			} else {
				rest = append(rest, p)
			}
		}
		parts(t, lost, left, want, rest, "Lost: "+c.comment, c.l)
		if when != c.when {
			t.Errorf("%s: %v: %d, want %d", c.comment, c.l, when, c.when)
		}
	}
}

// P9.3: lists that are no ledger keep their order too, and equal packets stay as many.
func TestLostOfAnyLists(t *testing.T) {
	l := of(18, 150, 3, 150, 17, 20, 30, 0, 3, 150, 18, 150, 2, 0, 19, 5, 30, 0, 17, 20)
	lost, left, when := Lost(l, 20, 200, 100)
	parts(t, lost, left, of(3, 150, 17, 20, 3, 150, 2, 0, 17, 20), of(18, 150, 30, 0, 18, 150, 19, 5, 30, 0), "Lost", l)
	if when != 250 {
		t.Errorf("Lost of %v: %d", l, when)
	}
}

// P9.3: a next, a now and a late of 0, and of the greatest number.
func TestLostAtTheEdges(t *testing.T) {
	l := of(0, 0, 1, 7, top-3, 9, top-2, top, top-1, 1, top, 0)
	for _, c := range []struct {
		next, now, late uint64
		lost            []int
		when            uint64
	}{
		{0, 0, 0, nil, 0},
		{0, top, 0, nil, 0},
		{0, top, top, nil, 0},
		{1, top, 0, nil, 0},
		{2, 0, 0, []int{0}, 0},
		{2, 0, top, nil, top},
		{3, 0, 0, []int{0}, 7},
		{3, 6, 0, []int{0}, 7},
		{3, 7, 0, []int{0, 1}, 0},
		{3, top - 1, top, nil, top},
		{3, top, top, []int{0, 1}, 0},
		{top - 1, 0, 0, []int{0, 1}, 9},
		{top - 1, 9, 0, []int{0, 1, 2}, 0},
		{top, 0, 0, []int{0, 1, 2, 3}, 0},
		{top, 0, top, []int{0, 1, 2, 3}, 0},
		{top, top, top, []int{0, 1, 2, 3}, 0},
	} {
		lost, left, when := Lost(l, c.next, c.now, c.late)
		var want, rest []api.Sent
		for i, p := range l {
			if slices.Contains(c.lost, i) {
				want = append(want, p)
			} else {
				rest = append(rest, p)
			}
		}
		parts(t, lost, left, want, rest, "Lost", c)
		if when != c.when {
			t.Errorf("Lost of %v: %d, want %d", c, when, c.when)
		}
	}
}

// P9.4: packets that follow one another, with gaps at every place, with times that rise and fall.
func TestLong(t *testing.T) {
	for _, c := range []struct {
		lost []api.Sent
		time uint64
		want bool
	}{
		// None, one, and a time of 0.
		{nil, 0, false},
		{[]api.Sent{}, 0, false},
		{of(1, 10), 0, false},
		{of(0, 0), 0, false},
		{of(top, top), 0, false},
		{of(1, 10, 2, 10), 0, true},
		{of(1, 10, 2, 11), 0, true},
		{of(1, 10, 2, 9), 0, false},
		{of(1, 10, 3, 10), 0, false},
		// The difference, one less, and one more.
		{of(1, 10, 2, 30), 19, true},
		{of(1, 10, 2, 30), 20, true},
		{of(1, 10, 2, 30), 21, false},
		{of(1, 10, 2, 10), 1, false},
		{of(1, 0, 2, 20), 20, true},
		{of(1, 0, 2, 20), 21, false},
		// Many in a row: the ends, and any two between.
		{of(1, 10, 2, 15, 3, 20, 4, 30), 20, true},
		{of(1, 10, 2, 15, 3, 20, 4, 30), 21, false},
		{of(1, 10, 2, 30, 3, 20, 4, 10), 20, true},
		{of(1, 10, 2, 30, 3, 20, 4, 10), 21, false},
		{of(1, 30, 2, 20, 3, 10, 4, 30), 20, true},
		{of(1, 30, 2, 20, 3, 10, 4, 30), 21, false},
		{of(1, 30, 2, 10, 3, 30, 4, 5, 5, 6), 20, true},
		{of(1, 30, 2, 10, 3, 29, 4, 9, 5, 28), 20, false},
		{of(1, 30, 2, 10, 3, 29, 4, 9, 5, 28), 19, true},
		{of(1, 50, 2, 40, 3, 30, 4, 20), 0, false},
		{of(1, 50, 2, 40, 3, 30, 4, 30), 0, true},
		{of(1, 50, 2, 40, 3, 30, 4, 30), 1, false},
		// Gaps: ahead of those that follow one another, between, and behind.
		{of(1, 0, 3, 10, 4, 30), 20, true},
		{of(1, 0, 3, 10, 4, 30), 21, false},
		{of(1, 10, 2, 30, 4, 90), 20, true},
		{of(1, 10, 2, 30, 4, 90), 21, false},
		{of(1, 10, 2, 20, 4, 90, 5, 95), 10, true},
		{of(1, 10, 2, 20, 4, 90, 5, 95), 11, false},
		{of(1, 10, 2, 15, 4, 90, 5, 99), 9, true},
		{of(1, 10, 2, 15, 4, 90, 5, 99), 10, false},
		{of(1, 0, 3, 100, 5, 200), 1, false},
		{of(1, 0, 3, 100, 5, 200), 0, false},
		{of(1, 0, 2, 5, 4, 6, 5, 10), 6, false},
		// Numbers that stand still, or fall, do not follow one another.
		{of(5, 0, 5, 100), 0, false},
		{of(5, 0, 4, 100), 0, false},
		{of(5, 0, 3, 100), 0, false},
		{of(5, 0, 6, 10, 6, 20, 7, 30), 10, true},
		{of(5, 0, 6, 10, 6, 20, 7, 30), 11, false},
		{of(5, 10, 6, 20, 5, 0, 6, 15), 15, true},
		{of(5, 10, 6, 20, 5, 0, 6, 15), 16, false},
		// Those that are far behind are not reached by way of others ahead.
		{of(1, 0, 3, 50, 2, 100), 50, false},
		{of(2, 0, 1, 50, 2, 60), 11, false},
		{of(1, 0, 9, 0, 2, 100), 0, false},
	} {
		if got := Long(c.lost, c.time); got != c.want {
			t.Errorf("Long of %v, %d: %v", c.lost, c.time, got)
		}
	}
}

// P9.4: times and numbers whose sums would wrap. Both stop at the greatest number: so what follows a packet of the greatest number is one of the same number.
func TestLongDoesNotWrap(t *testing.T) {
	for _, c := range []struct {
		lost []api.Sent
		time uint64
		want bool
	}{
		{of(1, 10, 2, 9), top, false},
		{of(1, 10, 2, top-1), top, false},
		{of(1, 10, 2, top), top, true},
		{of(1, 10, 2, top), top - 10, true},
		{of(1, 10, 2, top), top - 9, true},
		{of(1, 10, 2, top-1), top - 11, true},
		{of(1, 10, 2, top-1), top - 10, false},
		{of(1, 0, 2, top), top, true},
		{of(1, 0, 2, top-1), top, false},
		{of(1, top, 2, top), 0, true},
		{of(1, top, 2, top), 1, true},
		{of(1, top, 2, 0), 1, false},
		{of(1, top, 2, top-1), 1, false},
		{of(1, 1<<63, 2, 1<<62), 1 << 63, false},
		{of(1, 1<<63, 2, top), 1 << 63, true},
		{of(top-1, 10, top, 30), 20, true},
		{of(top-1, 10, top, 30), 21, false},
		{of(top, 10, 0, 30), 20, false},
		{of(top, 10, 0, 30, 1, 40), 20, false},
		{of(top, 10, 0, 30, 1, 50), 20, true},
		{of(top, 10, top, 30), 20, true},
		{of(top, 10, top, 30), 21, false},
		{of(top-1, 10, top, 20, top, 30), 20, true},
		{of(top-1, 10, top-1, 30), 20, false},
	} {
		if got := Long(c.lost, c.time); got != c.want {
			t.Errorf("Long of %v, %d: %v", c.lost, c.time, got)
		}
	}
}

// lostByWords are Lost's answers, by the chapter's words, packet by packet.
func lostByWords(l []api.Sent, next, now, late uint64) (lost, left []api.Sent, when uint64) {
	var times []uint64
	for _, p := range l {
		behind := sum(p.Number, 1) < next
		if behind && (sum(p.Number, 4) <= next || sum(p.At, late) <= now) {
			lost = append(lost, p)
			continue
		}
		left = append(left, p)
		if behind {
			times = append(times, sum(p.At, late))
		}
	}
	if len(times) > 0 {
		when = slices.Min(times)
	}
	return lost, left, when
}

// longByWords is Long's answer, by the chapter's words: any two packets are tried.
func longByWords(lost []api.Sent, time uint64) bool {
	for i := range lost {
		for j := i + 1; j < len(lost); j++ {
			follow := true
			for k := i + 1; k <= j; k++ {
				follow = follow && lost[k].Number == sum(lost[k-1].Number, 1)
			}
			if follow && lost[j].At >= sum(lost[i].At, time) {
				return true
			}
		}
	}
	return false
}

// takenByWords are Take's answers, by the chapter's words.
func takenByWords(l []api.Sent, s []api.Span) (these, others []api.Sent) {
	for _, p := range l {
		in := 0
		for _, one := range s {
			if one.From <= p.Number && p.Number < one.To {
				in++
			}
		}
		if in > 0 {
			these = append(these, p)
		} else {
			others = append(others, p)
		}
	}
	return these, others
}

// P9.1 to P9.4: hand-made lists of all sorts, against the chapter's words.
func TestAgainstTheWords(t *testing.T) {
	q := sequence(9)
	for range 100000 {
		l := q.packets(8)
		next, now, late := q.edge(), q.edge(), q.edge()
		lost, left, when := Lost(l, next, now, late)
		want, rest, then := lostByWords(l, next, now, late)
		parts(t, lost, left, want, rest, "Lost", l, next, now, late)
		if when != then {
			t.Errorf("Lost of %v, %d, %d, %d: %d, want %d", l, next, now, late, when, then)
		}
		if got := Long(l, late); got != longByWords(l, late) {
			t.Errorf("Long of %v, %d: %v", l, late, got)
		}
		var s []api.Span
		for range q.below(4) {
			s = append(s, api.Span{From: q.edge(), To: q.edge()})
		}
		these, others := Take(l, s)
		want, rest = takenByWords(l, s)
		parts(t, these, others, want, rest, "Take", l, s)
		rise, sizes := true, []uint64{}
		for i, p := range l {
			rise = rise && (i == 0 || l[i-1].Number < p.Number)
			sizes = append(sizes, p.Size)
		}
		if Check(l) != rise || Flight(l) != sum(sizes...) {
			t.Errorf("%v: Check %v, Flight %d", l, Check(l), Flight(l))
		}
	}
}

// merged tells whether two lists are all packets of one, each once, and each in its order.
func merged(l, a, b []api.Sent) bool {
	if len(l) != len(a)+len(b) {
		return false
	}
	count := map[api.Sent]int{}
	for _, p := range l {
		count[p]++
	}
	for _, p := range slices.Concat(a, b) {
		count[p]--
	}
	for _, n := range count {
		if n != 0 {
			return false
		}
	}
	return within(l, a) && within(l, b)
}

// within tells whether packets stand in a list in their order, others between.
func within(l, a []api.Sent) bool {
	for _, p := range l {
		if len(a) > 0 && a[0] == p {
			a = a[1:]
		}
	}
	return len(a) == 0
}

// P9.5: what is taken, or lost, and what is left are all packets, each once.
func TestEachOnce(t *testing.T) {
	q := sequence(95)
	for range 20000 {
		l := q.packets(12)
		s := spans(q.edge(), q.edge(), q.edge(), q.edge())
		if a, b := Take(l, s); !merged(l, a, b) {
			t.Fatalf("Take of %v, %v: %v and %v", l, s, a, b)
		}
		next, now, late := q.edge(), q.edge(), q.edge()
		if a, b, _ := Lost(l, next, now, late); !merged(l, a, b) {
			t.Fatalf("Lost of %v, %d, %d, %d: %v and %v", l, next, now, late, a, b)
		}
	}
}

// P9.5: till the time that is told no packet more is lost, and behind it one more is. So all that are behind are lost in as many steps at most as there are packets.
func TestBehindTheTimeOneMore(t *testing.T) {
	q := sequence(96)
	for range 20000 {
		l := q.packets(12)
		next, now, late := q.edge(), q.edge(), q.edge()
		_, left, when := Lost(l, next, now, late)
		for when > 0 {
			if when <= now {
				t.Fatalf("Lost of %v, %d, %d, %d: %d is not behind now", left, next, now, late, when)
			}
			for _, then := range []uint64{now, when - 1} {
				if lost, _, again := Lost(left, next, then, late); len(lost) > 0 || again != when {
					t.Fatalf("Lost of %v, %d, %d, %d: %v, %d", left, next, then, late, lost, again)
				}
			}
			now = when
			var lost []api.Sent
			lost, left, when = Lost(left, next, now, late)
			if len(lost) == 0 {
				t.Fatalf("Lost of %v, %d, %d, %d: none", left, next, now, late)
			}
		}
		if lost, _, _ := Lost(left, next, top, late); len(lost) > 0 {
			t.Fatalf("Lost of %v, %d, %d: %v, which no time told", left, next, late, lost)
		}
	}
}

// P9.5: a ledger's parts are ledgers, and their bytes are together all that were under way.
func TestPartsOfALedger(t *testing.T) {
	q := sequence(97)
	for range 5000 {
		var l []api.Sent
		number, at := q.below(50), q.below(50)
		for range q.below(30) {
			number, at = number+1+q.below(3), at+q.below(20)
			l = append(l, api.Sent{Number: number, At: at, Size: 1 + q.below(1200), Probe: q.below(5) == 0})
		}
		from, next := q.below(100), q.below(100)
		a, b := Take(l, spans(from, from+q.below(40), next, next+1))
		lost, left, _ := Lost(b, next, at+q.below(50), q.below(100))
		if !Check(a) || !Check(b) || !Check(lost) || !Check(left) {
			t.Fatalf("%v: parts %v, %v, %v, %v", l, a, b, lost, left)
		}
		if Flight(a)+Flight(lost)+Flight(left) != Flight(l) {
			t.Fatalf("%v: bytes of %v, %v, %v", l, a, lost, left)
		}
	}
}

// P9.2: whether a packet is taken is what span.Has tells of its number, of spans that are a set's own and of others.
func TestTakeIsHas(t *testing.T) {
	q := sequence(98)
	for range 20000 {
		p := sent(q.edge(), q.edge())
		var s []api.Span
		for range q.below(5) {
			s = append(s, api.Span{From: q.edge(), To: q.edge()})
		}
		if a, _ := Take([]api.Sent{p}, s); len(a) == 1 != span.Has(s, p.Number) {
			t.Fatalf("Take of %v, %v: %v", p, s, a)
		}
	}
}

// roomy is a list with spare room behind it, and all of that memory.
func roomy[T any](l []T, room T) (part, whole []T) {
	whole = append(slices.Clone(l), slices.Repeat([]T{room}, 10)...)
	return whole[:len(l)], whole
}

// scribble changes all of a list, its spare room too.
func scribble(l []api.Sent, by uint64) {
	for i := range l[:cap(l)] {
		l[:cap(l)][i] = api.Sent{Number: by, At: by, Size: by}
	}
}

// R4: what is handed in stays, its spare room included; no two lists of an answer, and none of an answer and an argument, share memory.
func TestMemory(t *testing.T) {
	s := spans(2, 4, 7, 9)
	calls := map[string]func(l []api.Sent, s []api.Span) [][]api.Sent{
		"Take": func(l []api.Sent, s []api.Span) [][]api.Sent {
			a, b := Take(l, s)
			return [][]api.Sent{a, b}
		},
		"Take of none": func(l []api.Sent, s []api.Span) [][]api.Sent {
			a, b := Take(l, nil)
			return [][]api.Sent{a, b}
		},
		"Lost": func(l []api.Sent, s []api.Span) [][]api.Sent {
			a, b, _ := Lost(l, 9, 120, 100)
			return [][]api.Sent{a, b}
		},
		"Lost of all": func(l []api.Sent, s []api.Span) [][]api.Sent {
			a, b, _ := Lost(l, top, top, 0)
			return [][]api.Sent{a, b}
		},
		"Lost of none": func(l []api.Sent, s []api.Span) [][]api.Sent {
			a, b, _ := Lost(l, 0, 0, 0)
			return [][]api.Sent{a, b}
		},
	}
	lists := [][]api.Sent{nil, {}, of(2, 10), of(6, 10), numbered(1, 2, 3, 4, 5, 6, 7, 8, 9), numbered(9, 8, 2, 2, 1), of(7, 10, 8, 20, 9, 30), of(2, 0, 3, 0)}
	for name, call := range calls {
		for _, l := range lists {
			part, whole := roomy(l, sent(2, 0))
			set, wholeSet := roomy(s, api.Span{From: 0, To: 100})
			keep, keepSet := slices.Clone(whole), slices.Clone(wholeSet)
			Check(part)
			Flight(part)
			Long(part, 0)
			first, second := call(part, set), call(part, set)
			want := [][]api.Sent{slices.Clone(second[0]), slices.Clone(second[1])}
			scribble(first[0], 77)
			scribble(first[1], 78)
			if !slices.Equal(whole, keep) || !slices.Equal(wholeSet, keepSet) {
				t.Errorf("%s of %v changed a list, or its answer shares memory with it", name, l)
			}
			for i, by := range []uint64{77, 78} {
				for _, p := range first[i][:cap(first[i])] {
					if p.Number != by {
						t.Errorf("%s of %v: two lists of an answer share memory", name, l)
					}
				}
			}
			scribble(whole, 79)
			if !slices.Equal(second[0], want[0]) || !slices.Equal(second[1], want[1]) {
				t.Errorf("%s of %v: an answer shares memory with another one, or with a list", name, l)
			}
		}
	}
}

// R5: what is answered hangs on the list's members alone, not on its room.
func TestRoomDoesNotMatter(t *testing.T) {
	l := numbered(1, 2, 3, 5, 6, 9)
	wide := append(make([]api.Sent, 0, 64), l...)
	s := spans(2, 6)
	a, b := Take(l, s)
	c, d := Take(wide, append(make([]api.Span, 0, 64), s...))
	parts(t, c, d, a, b, "Take", "of a list with room")
	a, b, when := Lost(l, 7, 101, 100)
	c, d, then := Lost(wide, 7, 101, 100)
	parts(t, c, d, a, b, "Lost", "of a list with room")
	if when != then || Check(l) != Check(wide) || Flight(l) != Flight(wide) || Long(l, 2) != Long(wide, 2) {
		t.Error("a list's room matters")
	}
}

// R1: long lists end soon, in whatever order their packets stand.
func TestLongLists(t *testing.T) {
	const n = 1 << 20
	rising, falling, still := make([]api.Sent, n), make([]api.Sent, n), make([]api.Sent, n)
	for i := range uint64(n) {
		rising[i], falling[i], still[i] = sent(i, i), sent(n-i, n-i), sent(5, 5)
	}
	for i, l := range [][]api.Sent{rising, falling, still} {
		these, others := Take(l, spans(0, n/2, n, top))
		lost, left, _ := Lost(l, n/2, n, n/4)
		if len(these)+len(others) != n || len(lost)+len(left) != n {
			t.Errorf("list %d: %d and %d, %d and %d", i, len(these), len(others), len(lost), len(left))
		}
		if Check(l) != (i == 0) || Long(l, n-1) != (i == 0) || Long(l, n) {
			t.Errorf("list %d: Check %v", i, Check(l))
		}
	}
}
