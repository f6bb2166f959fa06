package filt

import (
	"slices"
	"testing"

	"wigwag/api"
)

const top = 1<<64 - 1

// pusher is PushMax, or PushMin.
type pusher func(l []api.Sample, window uint64, s api.Sample) []api.Sample

// list makes samples of pairs: a time and a value.
func list(pairs ...[2]uint64) []api.Sample {
	var out []api.Sample
	for _, p := range pairs {
		out = append(out, api.Sample{At: p[0], Value: p[1]})
	}
	return out
}

// pushCase is a push, and what it should answer.
type pushCase struct {
	name   string
	l      []api.Sample
	window uint64
	s      api.Sample
	want   []api.Sample
}

func checkPushes(t *testing.T, push pusher, cases []pushCase) {
	t.Helper()
	for _, c := range cases {
		if got := push(c.l, c.window, c.s); !slices.Equal(got, c.want) {
			t.Errorf("%s: of %v, %d, %v: %v, want %v", c.name, c.l, c.window, c.s, got, c.want)
		}
	}
}

// P2.1, P2.2: the chapter's examples, step by step, and those of the least.
func TestExamples(t *testing.T) {
	steps := []struct {
		s           api.Sample
		most, least []api.Sample
		high, low   uint64
	}{
		{api.Sample{At: 0, Value: 5}, list([2]uint64{0, 5}), list([2]uint64{0, 5}), 5, 5},
		{api.Sample{At: 3, Value: 7}, list([2]uint64{3, 7}), list([2]uint64{0, 5}, [2]uint64{3, 7}), 7, 5},
		{api.Sample{At: 4, Value: 6}, list([2]uint64{3, 7}, [2]uint64{4, 6}), list([2]uint64{0, 5}, [2]uint64{4, 6}), 7, 5},
		{api.Sample{At: 14, Value: 1}, list([2]uint64{4, 6}, [2]uint64{14, 1}), list([2]uint64{14, 1}), 6, 1},
	}
	var most, least []api.Sample
	for _, c := range steps {
		most, least = PushMax(most, 10, c.s), PushMin(least, 10, c.s)
		if !slices.Equal(most, c.most) || Best(most) != c.high {
			t.Errorf("PushMax of %v: %v, best %d, want %v, %d", c.s, most, Best(most), c.most, c.high)
		}
		if !slices.Equal(least, c.least) || Best(least) != c.low {
			t.Errorf("PushMin of %v: %v, best %d, want %v, %d", c.s, least, Best(least), c.least, c.low)
		}
	}
}

// P2.1: what PushMax keeps, at the edges of time and of value.
func TestPushMax(t *testing.T) {
	checkPushes(t, PushMax, []pushCase{
		{"nil", nil, 10, api.Sample{At: 5, Value: 5}, list([2]uint64{5, 5})},
		{"none", []api.Sample{}, 10, api.Sample{At: 5, Value: 5}, list([2]uint64{5, 5})},
		{"nil of zeros", nil, 0, api.Sample{}, list([2]uint64{0, 0})},
		{"just in time", list([2]uint64{4, 9}), 10, api.Sample{At: 14, Value: 5}, list([2]uint64{4, 9}, [2]uint64{14, 5})},
		{"one too early", list([2]uint64{3, 9}), 10, api.Sample{At: 14, Value: 5}, list([2]uint64{14, 5})},
		{"one later", list([2]uint64{5, 9}), 10, api.Sample{At: 14, Value: 5}, list([2]uint64{5, 9}, [2]uint64{14, 5})},
		{"a value above", list([2]uint64{1, 6}), 10, api.Sample{At: 2, Value: 5}, list([2]uint64{1, 6}, [2]uint64{2, 5})},
		{"just the value", list([2]uint64{1, 5}), 10, api.Sample{At: 2, Value: 5}, list([2]uint64{2, 5})},
		{"a value below", list([2]uint64{1, 4}), 10, api.Sample{At: 2, Value: 5}, list([2]uint64{2, 5})},
		{"no window, one time", list([2]uint64{7, 9}), 0, api.Sample{At: 7, Value: 5}, list([2]uint64{7, 9}, [2]uint64{7, 5})},
		{"no window, a later time", list([2]uint64{7, 9}), 0, api.Sample{At: 8, Value: 5}, list([2]uint64{8, 5})},
		{"the greatest value of two", list([2]uint64{1, top}), 10, api.Sample{At: 2, Value: top - 1}, list([2]uint64{1, top}, [2]uint64{2, top - 1})},
		{"the greatest value twice", list([2]uint64{1, top}), 10, api.Sample{At: 2, Value: top}, list([2]uint64{2, top})},
		{"a value of 0", list([2]uint64{1, 1}, [2]uint64{2, 0}), 10, api.Sample{At: 3}, list([2]uint64{1, 1}, [2]uint64{3, 0})},
	})
}

// P2.1: what PushMin keeps, at the edges of time and of value.
func TestPushMin(t *testing.T) {
	checkPushes(t, PushMin, []pushCase{
		{"nil", nil, 10, api.Sample{At: 5, Value: 5}, list([2]uint64{5, 5})},
		{"none", []api.Sample{}, 10, api.Sample{At: 5, Value: 5}, list([2]uint64{5, 5})},
		{"nil of zeros", nil, 0, api.Sample{}, list([2]uint64{0, 0})},
		{"just in time", list([2]uint64{4, 1}), 10, api.Sample{At: 14, Value: 5}, list([2]uint64{4, 1}, [2]uint64{14, 5})},
		{"one too early", list([2]uint64{3, 1}), 10, api.Sample{At: 14, Value: 5}, list([2]uint64{14, 5})},
		{"one later", list([2]uint64{5, 1}), 10, api.Sample{At: 14, Value: 5}, list([2]uint64{5, 1}, [2]uint64{14, 5})},
		{"a value below", list([2]uint64{1, 4}), 10, api.Sample{At: 2, Value: 5}, list([2]uint64{1, 4}, [2]uint64{2, 5})},
		{"just the value", list([2]uint64{1, 5}), 10, api.Sample{At: 2, Value: 5}, list([2]uint64{2, 5})},
		{"a value above", list([2]uint64{1, 6}), 10, api.Sample{At: 2, Value: 5}, list([2]uint64{2, 5})},
		{"no window, one time", list([2]uint64{7, 1}), 0, api.Sample{At: 7, Value: 5}, list([2]uint64{7, 1}, [2]uint64{7, 5})},
		{"no window, a later time", list([2]uint64{7, 1}), 0, api.Sample{At: 8, Value: 5}, list([2]uint64{8, 5})},
		{"the greatest value", list([2]uint64{1, top - 1}, [2]uint64{1, top}), 10, api.Sample{At: 2, Value: top}, list([2]uint64{1, top - 1}, [2]uint64{2, top})},
		{"a value of 0 twice", list([2]uint64{1, 0}), 10, api.Sample{At: 2}, list([2]uint64{2, 0})},
		{"a value of 0", list([2]uint64{1, 0}), 10, api.Sample{At: 2, Value: 1}, list([2]uint64{1, 0}, [2]uint64{2, 1})},
	})
}

// P2.1: a sum of a time and a window that does not fit 64 bits is the greatest number, and no small one.
func TestSumsDoNotWrap(t *testing.T) {
	for _, c := range []struct {
		at, window, now uint64
		stays           bool
	}{
		{top, 1, top, true}, {top, top, top, true}, {top, 1, 0, true}, {5, top, top, true}, {0, top, top, true},
		{top - 5, 6, top, true}, {top - 5, 5, top, true}, {top - 5, 4, top, false}, {top - 5, 4, top - 1, true},
		{1 << 63, 1 << 63, top, true}, {1 << 63, 1<<63 - 1, top, true}, {1 << 63, 1<<63 - 2, top, false},
		{1 << 63, 1 << 63, 1, true}, {0, top - 1, top, false}, {top, 0, top, true}, {top - 1, 0, top, false},
	} {
		most := list([2]uint64{c.now, 5})
		least := list([2]uint64{c.now, 5})
		if c.stays {
			most, least = list([2]uint64{c.at, 9}, [2]uint64{c.now, 5}), list([2]uint64{c.at, 1}, [2]uint64{c.now, 5})
		}
		s := api.Sample{At: c.now, Value: 5}
		checkPushes(t, PushMax, []pushCase{{"max", list([2]uint64{c.at, 9}), c.window, s, most}})
		checkPushes(t, PushMin, []pushCase{{"min", list([2]uint64{c.at, 1}), c.window, s, least}})
	}
}

// P2.1: a list that is not in the order of time, nor of value, is gone through to its end; those that stay keep their order.
func TestListsOutOfOrder(t *testing.T) {
	mixed := list([2]uint64{30, 2}, [2]uint64{3, 9}, [2]uint64{20, 8}, [2]uint64{4, 8}, [2]uint64{50, 1}, [2]uint64{4, 9}, [2]uint64{14, 5}, [2]uint64{9, 7}, [2]uint64{20, 8})
	checkPushes(t, PushMax, []pushCase{
		{"mixed", mixed, 10, api.Sample{At: 14, Value: 5}, list([2]uint64{20, 8}, [2]uint64{4, 8}, [2]uint64{4, 9}, [2]uint64{9, 7}, [2]uint64{20, 8}, [2]uint64{14, 5})},
		{"a sample of before", mixed, 10, api.Sample{At: 1, Value: 8}, list([2]uint64{3, 9}, [2]uint64{4, 9}, [2]uint64{1, 8})},
		{"none stays", mixed, 10, api.Sample{At: 61, Value: 0}, list([2]uint64{61, 0})},
	})
	checkPushes(t, PushMin, []pushCase{
		{"mixed", mixed, 10, api.Sample{At: 14, Value: 8}, list([2]uint64{30, 2}, [2]uint64{50, 1}, [2]uint64{14, 5}, [2]uint64{9, 7}, [2]uint64{14, 8})},
		{"a sample of before", mixed, 10, api.Sample{At: 1, Value: 3}, list([2]uint64{30, 2}, [2]uint64{50, 1}, [2]uint64{1, 3})},
		{"none stays", mixed, 10, api.Sample{At: 61, Value: top}, list([2]uint64{61, top})},
	})
}

// P2.2: the first sample's value, whatever the others are.
func TestBest(t *testing.T) {
	for _, c := range []struct {
		l    []api.Sample
		want uint64
	}{
		{nil, 0}, {[]api.Sample{}, 0}, {make([]api.Sample, 0, 4), 0}, {list([2]uint64{7, 0}), 0}, {list([2]uint64{0, 7}), 7},
		{list([2]uint64{9, 3}, [2]uint64{1, 8}, [2]uint64{2, 1}), 3}, {list([2]uint64{0, 0}, [2]uint64{1, 8}), 0}, {list([2]uint64{top, top}, [2]uint64{1, 8}), top},
	} {
		if got := Best(c.l); got != c.want {
			t.Errorf("Best(%v) = %d, want %d", c.l, got, c.want)
		}
	}
	filled := list([2]uint64{1, 8})
	if got := Best(filled[:0]); got != 0 {
		t.Errorf("Best of none, with room that is filled: %d", got)
	}
}

// sequence makes numbers out of numbers, the same ones each time.
type sequence uint64

func (q *sequence) below(n uint64) uint64 {
	*q = *q*6364136223846793005 + 1442695040888963407
	return uint64(*q) >> 33 % n
}

// inWindow are the values of samples whose time and window together are at least the last one's time.
func inWindow(all []api.Sample, window uint64) []uint64 {
	var out []uint64
	last := all[len(all)-1]
	for _, s := range all {
		if s.At+window < s.At || s.At+window >= last.At {
			out = append(out, s.Value)
		}
	}
	return out
}

// P2.3: of samples that come by their time, the best is the greatest, or the least, of the window.
func TestBestOfWindow(t *testing.T) {
	q := sequence(2)
	for _, window := range []uint64{0, 1, 2, 5, 10, 100, 1 << 63, top - 3, top} {
		for _, start := range []uint64{0, 1000, top - 300, top - 40} {
			var all, most, least []api.Sample
			at := start
			for range 200 {
				if step := q.below(4); at+step >= at {
					at += step
				}
				s := api.Sample{At: at, Value: q.below(12)}
				all = append(all, s)
				most, least = PushMax(most, window, s), PushMin(least, window, s)
				values := inWindow(all, window)
				if got, want := Best(most), slices.Max(values); got != want {
					t.Fatalf("window %d, from %d: the greatest of %v: %d, want %d", window, start, values, got, want)
				}
				if got, want := Best(least), slices.Min(values); got != want {
					t.Fatalf("window %d, from %d: the least of %v: %d, want %d", window, start, values, got, want)
				}
			}
		}
	}
}

// P2.1, R4: the list that is handed in stays as it was, its spare room too, and the answer shares no memory with it.
func TestOwnMemory(t *testing.T) {
	for name, push := range map[string]pusher{"PushMax": PushMax, "PushMin": PushMin} {
		for used := range 5 {
			whole := list([2]uint64{1, 9}, [2]uint64{2, 1}, [2]uint64{3, 9}, [2]uint64{4, 1}, [2]uint64{5, 9}, [2]uint64{6, 1})
			before := slices.Clone(whole)
			got := push(whole[:used], 10, api.Sample{At: 6, Value: 5})
			if !slices.Equal(whole, before) {
				t.Errorf("%s of %d: the list became %v", name, used, whole)
			}
			answer := slices.Clone(got)
			room := got[:cap(got)]
			for i := range room {
				room[i] = api.Sample{At: 77, Value: 77}
			}
			if !slices.Equal(whole, before) {
				t.Errorf("%s of %d: the list shares memory with the answer", name, used)
			}
			again := push(whole[:used], 10, api.Sample{At: 6, Value: 5})
			clear(whole)
			if !slices.Equal(again, answer) {
				t.Errorf("%s of %d: the answer became %v with the list", name, used, again)
			}
		}
	}
}

// R4: two answers of one list share no memory with each other, nor with that list: what is put into one of them, into its spare room too, is not seen in the others.
func TestAnswersApart(t *testing.T) {
	for name, push := range map[string]pusher{"PushMax": PushMax, "PushMin": PushMin} {
		lists := [][]api.Sample{push(nil, 10, api.Sample{At: 1, Value: 5})}
		for _, value := range []uint64{4, 6, 5} {
			lists = append(lists, push(lists[0], 10, api.Sample{At: 2, Value: value}))
		}
		for i, l := range lists {
			for k := range l[:cap(l)] {
				l[:cap(l)][k] = api.Sample{At: 77, Value: uint64(i)}
			}
		}
		for i, l := range lists {
			for _, s := range l[:cap(l)] {
				if s != (api.Sample{At: 77, Value: uint64(i)}) {
					t.Errorf("%s: the list %d shares memory with another: %v", name, i, s)
				}
			}
		}
	}
}

// R5: what is answered hangs on the list's members alone, not on its room.
func TestRoomDoesNotMatter(t *testing.T) {
	l := list([2]uint64{1, 9}, [2]uint64{2, 1}, [2]uint64{3, 8}, [2]uint64{4, 2})
	wide := append(make([]api.Sample, 0, 64), l...)
	s := api.Sample{At: 6, Value: 5}
	if !slices.Equal(PushMax(l, 4, s), PushMax(wide, 4, s)) || !slices.Equal(PushMin(l, 4, s), PushMin(wide, 4, s)) || Best(l) != Best(wide) {
		t.Error("a list's room matters")
	}
}
