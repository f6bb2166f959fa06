package frame

import (
	"bytes"
	"math/big"
	"math/rand"
	"reflect"
	"slices"
	"strconv"
	"testing"

	"wigwag/api"
	"wigwag/varint"
)

// table is P5.1's: each Kind's fields, as the chapter writes them.
var table = map[int][]string{
	0: {}, 1: {}, 30: {},
	2:  {"Spans", "Delay"},
	3:  {"Spans", "Delay", "CE"},
	4:  {"ID", "Code", "Max"},
	5:  {"ID", "Code"},
	6:  {"Max", "Offset", "ID"},
	14: {"ID", "Offset", "Data"},
	16: {"Max"}, 18: {"Max"}, 20: {"Max"},
	17: {"ID", "Max"}, 21: {"ID", "Max"},
	28: {"Code"},
}

// plain are the names of the fields that are a number each.
var plain = []string{"ID", "Offset", "Max", "Code", "Delay", "CE"}

const most = 1<<62 - 1

// set sets a frame's number by its name.
func set(f *api.Frame, name string, v uint64) {
	reflect.ValueOf(f).Elem().FieldByName(name).SetUint(v)
}

// get is a frame's number by its name.
func get(f api.Frame, name string) uint64 {
	return reflect.ValueOf(f).FieldByName(name).Uint()
}

// least is the least frame of a Kind that may be.
func least(kind int) api.Frame {
	f := api.Frame{Kind: kind}
	if slices.Contains(table[kind], "Spans") {
		f.Spans = []api.Span{{From: 0, To: 1}}
	}
	return f
}

// kinds are the Kinds that there are, rising.
func kinds() []int {
	var out []int
	for k := range table {
		out = append(out, k)
	}
	slices.Sort(out)
	return out
}

// put is a number's bytes, of so many; 0: as few as there can be.
func put(v uint64, size int) []byte {
	if size == 0 {
		switch {
		case v < 1<<6:
			size = 1
		case v < 1<<14:
			size = 2
		case v < 1<<30:
			size = 4
		default:
			size = 8
		}
	}
	out := make([]byte, size)
	for i := range out {
		out[i] = byte(v >> (8 * (size - 1 - i)))
	}
	out[0] |= map[int]byte{1: 0, 2: 64, 4: 128, 8: 192}[size]
	return out
}

// join are numbers' bytes, as few as there can be.
func join(values ...uint64) []byte {
	var out []byte
	for _, v := range values {
		out = append(out, put(v, 0)...)
	}
	return out
}

// written are the bytes of a frame that may be, reckoned by the chapter's words; each number is written by the function that is handed in.
func written(f api.Frame, number func(uint64) []byte) []byte {
	kind := uint64(f.Kind)
	if f.Fin {
		kind = 15
	}
	out := number(kind)
	for _, name := range table[f.Kind] {
		switch name {
		case "Spans":
			n := len(f.Spans)
			out = append(out, number(uint64(n))...)
			out = append(out, number(f.Spans[n-1].To-1)...)
			out = append(out, number(f.Spans[n-1].To-f.Spans[n-1].From-1)...)
			for i := n - 1; i > 0; i-- {
				out = append(out, number(f.Spans[i].From-f.Spans[i-1].To-1)...)
				out = append(out, number(f.Spans[i-1].To-f.Spans[i-1].From-1)...)
			}
		case "Data":
			out = append(out, number(uint64(len(f.Data)))...)
			out = append(out, f.Data...)
		default:
			out = append(out, number(get(f, name))...)
		}
	}
	return out
}

// short writes a number by as few bytes as there can be.
func short(v uint64) []byte { return put(v, 0) }

// same tells whether two frames are the same; lists without elements are.
func same(f, g api.Frame) bool {
	if !bytes.Equal(f.Data, g.Data) || !slices.Equal(f.Spans, g.Spans) {
		return false
	}
	f.Data, g.Data, f.Spans, g.Spans = nil, nil, nil, nil
	return reflect.DeepEqual(f, g)
}

// zero tells whether a frame is the zero value, its lists nil or without elements.
func zero(f api.Frame) bool { return same(f, api.Frame{}) }

// good asks that a frame may be, is written as these bytes, and parsed as itself.
func good(t *testing.T, f api.Frame, want []byte) {
	t.Helper()
	if e := Check(f); e != api.OK {
		t.Errorf("Check(%v): %v", f, e)
		return
	}
	b, e := Encode(f)
	if e != api.OK || !bytes.Equal(b, want) {
		t.Errorf("Encode(%v): %v, %v; not %v", f, b, e, want)
	}
	parsed(t, want, f, len(want))
	parsed(t, append(slices.Clone(want), 7, 255, 14), f, len(want))
	l, e := All(want)
	if e != api.OK || len(l) != 1 || !same(l[0], f) {
		t.Errorf("All(%v): %v, %v", want, l, e)
	}
}

// bad asks that a frame may not be.
func bad(t *testing.T, f api.Frame) {
	t.Helper()
	if e := Check(f); e != api.ErrFrame {
		t.Errorf("Check(%v): %v", f, e)
	}
	if b, e := Encode(f); e != api.ErrFrame || len(b) != 0 {
		t.Errorf("Encode(%v): %v, %v", f, b, e)
	}
}

// parsed asks that bytes begin with a frame, of so many bytes.
func parsed(t *testing.T, b []byte, want api.Frame, size int) {
	t.Helper()
	f, n, e := Parse(b)
	if e != api.OK || n != size || !same(f, want) {
		t.Errorf("Parse(%v): %v, %d, %v; not %v, %d", b, f, n, e, want, size)
	}
}

// unparsed asks that bytes begin with no frame.
func unparsed(t *testing.T, b []byte) {
	t.Helper()
	if f, n, e := Parse(b); e != api.ErrFrame || n != 0 || !zero(f) {
		t.Errorf("Parse(%v): %v, %d, %v", b, f, n, e)
	}
	if l, e := All(b); e != api.ErrFrame || len(l) != 0 {
		t.Errorf("All(%v): %v, %v", b, l, e)
	}
}

// The chapter's examples.
func TestExamples(t *testing.T) {
	good(t, api.Frame{Kind: api.FPing}, []byte{1})
	good(t, api.Frame{Kind: api.FMaxStream, ID: 4, Max: 100}, []byte{17, 4, 64, 100})
	good(t, api.Frame{Kind: api.FAck, Spans: []api.Span{{From: 2, To: 4}, {From: 7, To: 8}}, Delay: 3}, []byte{2, 2, 7, 0, 2, 1, 3})
	good(t, api.Frame{Kind: api.FStream, Offset: 5, Data: []byte("hi"), Fin: true}, []byte{15, 0, 5, 2, 104, 105})
	unparsed(t, []byte{7})
	unparsed(t, nil)
	unparsed(t, []byte{})
}

// P5.1: the fields of each Kind, in their order, by numbers that all differ.
func TestFields(t *testing.T) {
	for _, c := range []struct {
		f    api.Frame
		want []byte
	}{
		{api.Frame{Kind: api.FPadding}, join(0)},
		{api.Frame{Kind: api.FPing}, join(1)},
		{api.Frame{Kind: api.FDone}, join(30)},
		{api.Frame{Kind: api.FAck, Spans: []api.Span{{From: 4, To: 10}}, Delay: 70}, join(2, 1, 9, 5, 70)},
		{api.Frame{Kind: api.FAckCE, Spans: []api.Span{{From: 4, To: 10}}, Delay: 70, CE: 80}, join(3, 1, 9, 5, 70, 80)},
		{api.Frame{Kind: api.FReset, ID: 100, Code: 200, Max: 300}, join(4, 100, 200, 300)},
		{api.Frame{Kind: api.FStop, ID: 100, Code: 200}, join(5, 100, 200)},
		{api.Frame{Kind: api.FHello, Max: 100, Offset: 200, ID: 300}, join(6, 100, 200, 300)},
		{api.Frame{Kind: api.FStream, ID: 100, Offset: 200, Data: []byte("abc")}, append(join(14, 100, 200, 3), 'a', 'b', 'c')},
		{api.Frame{Kind: api.FStream, ID: 100, Offset: 200, Data: []byte("abc"), Fin: true}, append(join(15, 100, 200, 3), 'a', 'b', 'c')},
		{api.Frame{Kind: api.FStream, ID: 100, Offset: 200}, join(14, 100, 200, 0)},
		{api.Frame{Kind: api.FStream, ID: 100, Offset: 200, Data: []byte{}, Fin: true}, join(15, 100, 200, 0)},
		{api.Frame{Kind: api.FMaxData, Max: 100}, join(16, 100)},
		{api.Frame{Kind: api.FMaxStream, ID: 100, Max: 200}, join(17, 100, 200)},
		{api.Frame{Kind: api.FMaxStreams, Max: 100}, join(18, 100)},
		{api.Frame{Kind: api.FBlocked, Max: 100}, join(20, 100)},
		{api.Frame{Kind: api.FStreamBlocked, ID: 100, Max: 200}, join(21, 100, 200)},
		{api.Frame{Kind: api.FClose, Code: 100}, join(28, 100)},
	} {
		good(t, c.f, c.want)
	}
}

// P5.1, P5.3: each Kind of the table, the least frame of it; numbers that are none.
func TestKinds(t *testing.T) {
	for _, k := range kinds() {
		good(t, least(k), written(least(k), short))
	}
	for k := -40; k < 400; k++ {
		if _, known := table[k]; known {
			continue
		}
		f := api.Frame{Kind: k}
		bad(t, f)
		f.Spans = []api.Span{{From: 0, To: 1}}
		bad(t, f)
		f = api.Frame{Kind: k, Fin: true, Data: []byte{1}}
		bad(t, f)
		if k >= 0 && k != 15 {
			unparsed(t, append(join(uint64(k)), make([]byte, 20)...))
			unparsed(t, append(join(uint64(k)), 1, 1, 0, 1, 1, 1))
		}
	}
	for _, k := range []int{-1 << 63, -1<<63 + 1, -1<<32 + 1, -1 << 31, 256, 256 + 1, 1<<16 + 1, 1<<31 - 1, 1 << 32, 1<<32 + 1, 1<<62 - 1, 1 << 62, 1<<62 + 1, 1<<63 - 1} {
		bad(t, api.Frame{Kind: k})
		bad(t, api.Frame{Kind: k, Fin: true})
	}
	for _, k := range []uint64{31, 63, 64, 256, 256 + 1, 1<<14 - 1, 1 << 14, 1<<16 + 14, 1<<30 - 1, 1<<32 + 1, 1<<32 + 14, 1<<32 + 15, most} {
		unparsed(t, append(join(k), make([]byte, 20)...))
	}
}

// P5.3: each field at 2^62 - 1, and one above it, and at the greatest number.
func TestGreatest(t *testing.T) {
	for _, k := range kinds() {
		for _, name := range table[k] {
			if name == "Spans" || name == "Data" {
				continue
			}
			for _, v := range []uint64{0, 1, 63, 64, 1<<14 - 1, 1 << 14, 1<<30 - 1, 1 << 30, most - 1, most} {
				f := least(k)
				set(&f, name, v)
				good(t, f, written(f, short))
			}
			for _, v := range []uint64{most + 1, most + 2, 1 << 63, 1<<64 - 1} {
				f := least(k)
				set(&f, name, v)
				bad(t, f)
			}
		}
	}
}

// P5.3: each field that a Kind has not, one at a time, not 0, not false, not empty.
func TestStrangeFields(t *testing.T) {
	for _, k := range kinds() {
		for _, name := range plain {
			if slices.Contains(table[k], name) {
				continue
			}
			for _, v := range []uint64{1, 63, most, most + 1, 1<<64 - 1} {
				f := least(k)
				set(&f, name, v)
				bad(t, f)
			}
		}
		if !slices.Contains(table[k], "Data") {
			f := least(k)
			f.Fin = true
			bad(t, f)
			f = least(k)
			f.Data = []byte{0}
			bad(t, f)
			f.Data = []byte{}
			good(t, f, written(f, short))
		}
		if !slices.Contains(table[k], "Spans") {
			f := least(k)
			f.Spans = []api.Span{{From: 0, To: 1}}
			bad(t, f)
			f.Spans = []api.Span{{}}
			bad(t, f)
			f.Spans = []api.Span{}
			good(t, f, written(f, short))
		}
	}
}

// ack is a frame of these Spans.
func ack(l ...api.Span) api.Frame { return api.Frame{Kind: api.FAck, Spans: l} }

// apart are so many Spans of a number each, with a number between any two.
func apart(n int) []api.Span {
	var out []api.Span
	for i := range n {
		out = append(out, api.Span{From: uint64(2 * i), To: uint64(2*i + 1)})
	}
	return out
}

// P5.2: the Spans, the last one first.
func TestSpans(t *testing.T) {
	for _, c := range []struct {
		l    []api.Span
		want []byte
	}{
		{[]api.Span{{From: 0, To: 1}}, join(1, 0, 0)},
		{[]api.Span{{From: 0, To: 3}}, join(1, 2, 2)},
		{[]api.Span{{From: 5, To: 6}}, join(1, 5, 0)},
		{[]api.Span{{From: 0, To: 1}, {From: 2, To: 3}}, join(2, 2, 0, 0, 0)},
		{[]api.Span{{From: 0, To: 2}, {From: 5, To: 9}}, join(2, 8, 3, 2, 1)},
		{[]api.Span{{From: 1, To: 3}, {From: 5, To: 9}}, join(2, 8, 3, 1, 1)},
		{[]api.Span{{From: 0, To: 100}, {From: 300, To: 1000}, {From: 1001, To: 1003}}, join(3, 1002, 1, 0, 699, 199, 99)},
		{[]api.Span{{From: 0, To: 1 << 62}}, join(1, most, most)},
		{[]api.Span{{From: most, To: 1 << 62}}, join(1, most, 0)},
		{[]api.Span{{From: 0, To: 1}, {From: most, To: 1 << 62}}, join(2, most, 0, most-2, 0)},
		{[]api.Span{{From: 0, To: 1}, {From: 2, To: 1 << 62}}, join(2, most, most-2, 0, 0)},
	} {
		for _, kind := range []int{api.FAck, api.FAckCE} {
			f := api.Frame{Kind: kind, Spans: c.l, Delay: 300}
			want := append(join(uint64(kind)), c.want...)
			want = append(want, join(300)...)
			if kind == api.FAckCE {
				f.CE = 9
				want = append(want, 9)
			}
			good(t, f, want)
		}
	}
}

// P5.3: how many Spans there may be.
func TestManySpans(t *testing.T) {
	for n := range 40 {
		for _, kind := range []int{api.FAck, api.FAckCE} {
			f := api.Frame{Kind: kind, Spans: apart(n)}
			if n < 1 || n > 32 {
				bad(t, f)
			} else {
				good(t, f, written(f, short))
			}
			if n > 32 {
				unparsed(t, written(f, short))
			}
		}
	}
	bad(t, api.Frame{Kind: api.FAck, Spans: []api.Span{}})
	bad(t, api.Frame{Kind: api.FAckCE})
}

// P5.3: Spans that may not be, and the ones beside them that may.
func TestWrongSpans(t *testing.T) {
	for _, l := range [][]api.Span{
		{{From: 0, To: 0}},
		{{From: 5, To: 5}},
		{{From: 6, To: 5}},
		{{From: 1<<64 - 1, To: 0}},
		{{From: 0, To: 1<<62 + 1}},
		{{From: 1 << 62, To: 1<<62 + 1}},
		{{From: 1 << 62, To: 1 << 62}},
		{{From: 5, To: 1<<64 - 1}},
		{{From: 0, To: 1<<64 - 1}},
		{{From: 7, To: 8}, {From: 2, To: 4}},
		{{From: 2, To: 4}, {From: 2, To: 4}},
		{{From: 2, To: 4}, {From: 3, To: 8}},
		{{From: 2, To: 4}, {From: 4, To: 8}},
		{{From: 2, To: 4}, {From: 5, To: 5}},
		{{From: 2, To: 2}, {From: 5, To: 6}},
		{{From: 2, To: 1<<62 + 1}, {From: 5, To: 6}},
		{{From: 2, To: 9}, {From: 5, To: 6}},
		{{From: 0, To: 1}, {From: 2, To: 3}, {From: 3, To: 4}},
		{{From: 0, To: 1}, {From: 1, To: 3}, {From: 4, To: 5}},
		{{From: 4, To: 5}, {From: 2, To: 3}, {From: 6, To: 7}},
		{{From: 0, To: 1}, {From: 2, To: 1<<64 - 1}},
	} {
		bad(t, api.Frame{Kind: api.FAck, Spans: l})
		bad(t, api.Frame{Kind: api.FAckCE, Spans: l})
	}
	good(t, ack(api.Span{From: 2, To: 4}, api.Span{From: 5, To: 8}), join(2, 2, 7, 2, 0, 1, 0))
	good(t, ack(api.Span{From: 2, To: 1<<62 - 2}, api.Span{From: most, To: 1 << 62}), join(2, 2, most, 0, 0, most-4, 0))
}

// stream is a stream's frame of so many bytes.
func stream(offset uint64, n int) api.Frame {
	f := api.Frame{Kind: api.FStream, Offset: offset, Data: make([]byte, n)}
	for i := range f.Data {
		f.Data[i] = byte(i*7 + 1)
	}
	return f
}

// P5.3: how many bytes Data may have, and up to where.
func TestData(t *testing.T) {
	for _, fin := range []bool{false, true} {
		for _, n := range []int{0, 1, 2, 63, 64, 1199, 1200} {
			for _, offset := range []uint64{0, 1, most - 1200, uint64(most - n)} {
				f := stream(offset, n)
				f.Fin = fin
				good(t, f, written(f, short))
			}
			for _, offset := range []uint64{uint64(most - n + 1), most + 1, 1<<64 - 1200, 1<<64 - 1} {
				f := stream(offset, n)
				f.Fin = fin
				bad(t, f)
				if offset <= most {
					unparsed(t, written(f, short))
				}
			}
		}
		for _, n := range []int{1201, 1202, 5000, 70000} {
			f := stream(0, n)
			f.Fin = fin
			bad(t, f)
			unparsed(t, written(f, short))
		}
	}
}

// samples are frames of all Kinds, with ordinary numbers.
func samples() []api.Frame {
	out := []api.Frame{stream(70000, 100), {Kind: api.FStream, ID: 8, Offset: 500, Data: []byte("end"), Fin: true}}
	for _, k := range kinds() {
		f := api.Frame{Kind: k}
		for i, name := range table[k] {
			switch name {
			case "Spans":
				f.Spans = []api.Span{{From: 3, To: 5}, {From: 90, To: 300}, {From: 1000, To: 100000}}
			case "Data":
				f.Data = []byte("some bytes")
			default:
				set(&f, name, []uint64{70, 20000, 1 << 40}[i])
			}
		}
		out = append(out, f)
	}
	return out
}

// P5.4: bytes of a frame that are cut at each place are none.
func TestCut(t *testing.T) {
	for _, f := range samples() {
		b := written(f, short)
		good(t, f, b)
		for n := range b {
			unparsed(t, b[:n])
			unparsed(t, b[:n:n])
			if n > 0 {
				unparsed(t, append([]byte{1, 0}, b[:n]...)[2:])
			}
		}
	}
}

// P5.4: numbers that take more bytes than they need, the Kind's own among them.
func TestLongNumbers(t *testing.T) {
	for _, size := range []int{2, 4, 8} {
		long := func(v uint64) []byte { return put(v, max(size, len(put(v, 0)))) }
		for _, f := range samples() {
			b := written(f, long)
			parsed(t, b, f, len(b))
			parsed(t, append(slices.Clone(b), 7), f, len(b))
			for n := range b {
				unparsed(t, b[:n])
			}
		}
		for _, k := range []uint64{7, 8, 13, 19, 22, 27, 29, 31} {
			unparsed(t, append(put(k, size), 0, 0, 0, 0, 0))
		}
	}
	parsed(t, []byte{64, 15, 128, 0, 0, 0, 192, 0, 0, 0, 0, 0, 0, 5, 64, 2, 'h', 'i', 9}, api.Frame{Kind: api.FStream, Offset: 5, Data: []byte("hi"), Fin: true}, 18)
}

// P5.4: Spans that are told so that they would go below 0, or be none, or more than 32.
func TestToldSpans(t *testing.T) {
	for _, kind := range []uint64{2, 3} {
		for _, told := range [][]uint64{
			{0, 0, 0}, {0, 5, 0}, {0, 5}, {0},
			{1, 0, 1}, {1, 2, 3}, {1, 0, most}, {1, most - 1, most},
			{2, 5, 0, 4, 0}, {2, 5, 0, 5, 0}, {2, 5, 0, 0, 4}, {2, 5, 0, most, 0}, {2, 5, 0, 0, most}, {2, 5, 5, 0, 0}, {2, 5, 4, 0, 0},
			{2, most, most, 0, 0}, {2, most, 0, most, 0}, {2, most, 0, most - 1, 0}, {2, most, 0, 0, most - 1},
			{3, 5, 0, 0, 0, 1, 1},
			{most}, {most, 0}, {most, most, 0, 0, 0, 0, 0}, {33, 100, 0, 0, 0},
		} {
			b := append(join(kind), join(told...)...)
			unparsed(t, append(b, make([]byte, 100)...))
		}
		full := append(join(kind, 33, 64, 0), make([]byte, 64)...)
		unparsed(t, append(full, 0, 0, 0))
		full = append(join(kind, 32, 62, 0), make([]byte, 62)...)
		if f, n, e := Parse(append(full, 0, 0)); e != api.OK || n != len(full)+int(kind)-1 || len(f.Spans) != 32 || !slices.Equal(f.Spans, apart(32)) {
			t.Errorf("%v, %d, %v", f, n, e)
		}
	}
	parsed(t, join(2, 2, 5, 0, 3, 0, 0), ack(api.Span{From: 0, To: 1}, api.Span{From: 5, To: 6}), 7)
	parsed(t, join(2, 2, 5, 0, 0, 3, 0), ack(api.Span{From: 0, To: 4}, api.Span{From: 5, To: 6}), 7)
	parsed(t, join(2, 2, 5, 3, 0, 0, 0), ack(api.Span{From: 0, To: 1}, api.Span{From: 2, To: 6}), 7)
}

// P5.4: Data that is told longer than the bytes that follow.
func TestToldData(t *testing.T) {
	for _, kind := range []uint64{14, 15} {
		for _, told := range []uint64{4, 5, 63, 64, 1200, 1201, 1 << 32, 1<<32 + 3, most} {
			unparsed(t, append(join(kind, 1, 2, told), 'a', 'b', 'c'))
		}
		f := api.Frame{Kind: 14, ID: 1, Offset: 2, Fin: kind == 15}
		for n := range 4 {
			f.Data = []byte("abc")[:n]
			parsed(t, append(join(kind, 1, 2, uint64(n)), 'a', 'b', 'c'), f, 4+n)
		}
		unparsed(t, append(join(kind, 0, most, 1), 'a'))
		unparsed(t, append(join(kind, 0, 0, 1201), make([]byte, 1201)...))
		f = api.Frame{Kind: 14, Fin: kind == 15, Data: make([]byte, 1200)}
		parsed(t, append(join(kind, 0, 0, 1200), make([]byte, 1201)...), f, 1205)
	}
}

// P5.4: All of many frames, and of frames with an end that is none.
func TestAll(t *testing.T) {
	var b []byte
	var want []api.Frame
	for range 3 {
		for _, f := range samples() {
			b = append(b, written(f, short)...)
			want = append(want, f)
			l, e := All(b)
			if e != api.OK || !slices.EqualFunc(l, want, same) {
				t.Fatalf("%v, %v", l, e)
			}
		}
	}
	for _, end := range [][]byte{{7}, {15}, {64}, {17, 4}, {14, 0, 0, 2, 1}, {2, 0, 0, 0}, {192, 0, 0, 0, 0, 0, 0}, {0, 0, 0, 31}} {
		if l, e := All(append(slices.Clone(b), end...)); e != api.ErrFrame || len(l) != 0 {
			t.Errorf("%v: %v, %v", end, l, e)
		}
	}
	for _, n := range []int{1, 2, 1190, 100000} {
		l, e := All(make([]byte, n))
		if e != api.OK || len(l) != n {
			t.Errorf("%d: %d, %v", n, len(l), e)
		}
		for _, f := range l {
			if !zero(f) {
				t.Fatalf("%v", f)
			}
		}
	}
}

// random is a number whose sizes are all about as frequent.
func random(r *rand.Rand, up uint64) uint64 {
	v := r.Uint64() >> r.Intn(64)
	if r.Intn(4) == 0 {
		v = up - v%8
	}
	return v % (up + 1)
}

// randomFrame is a frame that may be.
func randomFrame(r *rand.Rand) api.Frame {
	f := api.Frame{Kind: kinds()[r.Intn(len(table))]}
	for _, name := range table[f.Kind] {
		switch name {
		case "Spans":
			cuts := map[uint64]bool{}
			for range 2 + r.Intn(63) {
				cuts[random(r, 1<<62)] = true
			}
			var l []uint64
			for v := range cuts {
				l = append(l, v)
			}
			slices.Sort(l)
			for i := 0; i+1 < len(l); i += 2 {
				f.Spans = append(f.Spans, api.Span{From: l[i], To: l[i+1]})
			}
			if len(f.Spans) == 0 {
				f.Spans = []api.Span{{From: 0, To: 1}}
			}
		case "Data":
			f.Data = make([]byte, r.Intn(1201))
			r.Read(f.Data)
			f.Fin = r.Intn(2) == 0
			f.Offset = min(f.Offset, uint64(most-len(f.Data)))
		default:
			set(&f, name, random(r, most))
		}
	}
	return f
}

// P5.5: frames that may be are parsed as themselves, whatever stands behind them.
func TestThereAndBack(t *testing.T) {
	r := rand.New(rand.NewSource(5))
	for range 20000 {
		f := randomFrame(r)
		b, e := Encode(f)
		if e != api.OK || !bytes.Equal(b, written(f, short)) {
			t.Fatalf("Encode(%v): %v, %v", f, b, e)
		}
		behind := make([]byte, r.Intn(20))
		r.Read(behind)
		parsed(t, append(slices.Clone(b), behind...), f, len(b))
		mixed := written(f, func(v uint64) []byte {
			return put(v, max(1<<r.Intn(4), len(put(v, 0))))
		})
		parsed(t, append(slices.Clone(mixed), behind...), f, len(mixed))
	}
}

// wants is what Parse must answer, reckoned from the chapter with numbers of any size.
func wants(b []byte) (f api.Frame, n int, ok bool) {
	at, short := 0, false
	next := func() uint64 {
		v, size, e := varint.Get(b[min(at, len(b)):])
		at, short = at+size, short || e != api.OK
		return v
	}
	kind := next()
	if kind == 15 {
		kind, f.Fin = 14, true
	}
	names, known := table[int(kind)]
	f.Kind = int(kind)
	for _, name := range names {
		switch name {
		case "Spans":
			many := next()
			known = known && many >= 1 && many <= 32
			to := new(big.Int).SetUint64(next() + 1)
			for i := 0; known && i < int(many); i++ {
				if i > 0 {
					to.Sub(to, new(big.Int).SetUint64(next()+1))
				}
				from := new(big.Int).Sub(to, new(big.Int).SetUint64(next()+1))
				known = known && from.Sign() >= 0
				f.Spans = append([]api.Span{{From: from.Uint64(), To: to.Uint64()}}, f.Spans...)
				to = from
			}
		case "Data":
			size := next()
			if size > 1200 || at+int(size) > len(b) || f.Offset+size > most {
				return api.Frame{}, 0, false
			}
			f.Data = b[at : at+int(size)]
			at += int(size)
		default:
			set(&f, name, next())
		}
	}
	if !known || short {
		return api.Frame{}, 0, false
	}
	return f, at, true
}

// P5.4, R1: bytes of all sorts.
func TestAnyBytes(t *testing.T) {
	r := rand.New(rand.NewSource(55))
	for i := range 200000 {
		b := make([]byte, r.Intn(40))
		for j := range b {
			b[j] = byte(r.Intn(4))
			if r.Intn(4) == 0 {
				b[j] = byte(r.Intn(256))
			}
		}
		if i%2 == 0 {
			b = written(randomFrame(r), short)
			b[r.Intn(min(len(b), 8))] ^= byte(1 << r.Intn(8))
		} else if len(b) > 0 && r.Intn(2) == 0 {
			b[0] = []byte{2, 3, 14, 15}[r.Intn(4)]
		}
		f, n, ok := wants(b)
		if ok {
			parsed(t, b, f, n)
			if Check(f) != api.OK {
				t.Fatalf("Check(%v)", f)
			}
		} else {
			f, n, e := Parse(b)
			if e != api.ErrFrame || n != 0 || !zero(f) {
				t.Fatalf("Parse(%v): %v, %d, %v", b, f, n, e)
			}
		}
	}
}

// may tells whether a frame may be, by the words of P5.3.
func may(f api.Frame) bool {
	names, known := table[f.Kind]
	if !known {
		return false
	}
	for _, name := range plain {
		if v := get(f, name); v > most || v != 0 && !slices.Contains(names, name) {
			return false
		}
	}
	if !slices.Contains(names, "Data") && (f.Fin || len(f.Data) > 0) || len(f.Data) > 1200 {
		return false
	}
	end := new(big.Int).SetUint64(f.Offset)
	if end.Add(end, big.NewInt(int64(len(f.Data)))).Cmp(big.NewInt(most)) > 0 {
		return false
	}
	if !slices.Contains(names, "Spans") {
		return len(f.Spans) == 0
	}
	for i, s := range f.Spans {
		if s.From >= s.To || s.To > 1<<62 || i > 0 && (s.From < f.Spans[i-1].To || s.From-f.Spans[i-1].To == 0) {
			return false
		}
	}
	return len(f.Spans) >= 1 && len(f.Spans) <= 32
}

// P5.3, R1: hand-made frames of all sorts.
func TestAnyFrames(t *testing.T) {
	r := rand.New(rand.NewSource(53))
	goods := 0
	for range 100000 {
		f := randomFrame(r)
		if r.Intn(3) == 0 {
			f.Kind = r.Intn(34) - 2
		}
		if r.Intn(3) == 0 {
			set(&f, plain[r.Intn(6)], random(r, 1<<64-2))
		}
		if r.Intn(10) == 0 {
			f.Fin = !f.Fin
		}
		if r.Intn(10) == 0 {
			f.Data = make([]byte, r.Intn(2)*r.Intn(1300))
		}
		for range r.Intn(3) {
			s := api.Span{From: random(r, 1<<62), To: random(r, 1<<64-2)}
			f.Spans = slices.Insert(f.Spans, r.Intn(len(f.Spans)+1), s)
		}
		if may(f) {
			goods++
			if b, e := Encode(f); Check(f) != api.OK || e != api.OK || !bytes.Equal(b, written(f, short)) {
				t.Fatalf("%v: %v, %v", f, b, e)
			}
		} else {
			bad(t, f)
		}
	}
	if goods < 10000 {
		t.Errorf("only %d of them may be", goods)
	}
}

// R4: what is handed in stays, its spare room included, and what is answered shares no memory with it.
func TestMemory(t *testing.T) {
	for _, f := range samples() {
		data := append(append(make([]byte, 0, 300), f.Data...), "spare room"...)
		spans := append(append(make([]api.Span, 0, 30), f.Spans...), api.Span{From: 77, To: 78})
		keepData, keepSpans := slices.Clone(data), slices.Clone(spans)
		f.Data, f.Spans = data[:len(f.Data)], spans[:len(f.Spans)]
		keep := f
		Check(f)
		b, _ := Encode(f)
		twice, _ := Encode(f)
		want := slices.Clone(b)
		scribble(b)
		if !bytes.Equal(twice, want) {
			t.Errorf("two answers of Encode(%v) share memory", f)
		}
		if !bytes.Equal(data, keepData) || !slices.Equal(spans, keepSpans) || !same(f, keep) {
			t.Errorf("Encode(%v) changed it, or shares memory", f)
		}
		sharesNothing(t, want, keep)
	}
}

// scribble changes all of a list of bytes, its spare room too.
func scribble(b []byte) {
	b = b[:cap(b)]
	for i := range b {
		b[i] ^= 255
	}
}

// sharesNothing asks that what Parse and All answer of bytes shares nothing with these, nor with another answer.
func sharesNothing(t *testing.T, frames []byte, want api.Frame) {
	t.Helper()
	whole := append(slices.Clone(frames), frames...)
	whole = append(whole, "spare room"...)
	keep := slices.Clone(whole)
	b := whole[: 2*len(frames) : len(whole)]
	one, _, _ := Parse(b)
	two, _, _ := Parse(b)
	l, _ := All(b)
	scribble(one.Data)
	scribbleSpans(one.Spans)
	scribble(l[0].Data)
	scribbleSpans(l[0].Spans)
	if !bytes.Equal(whole, keep) {
		t.Errorf("an answer of %v shares memory with it", b)
	}
	scribble(whole)
	if !same(two, want) || !same(l[1], want) {
		t.Errorf("two answers of %v share memory, or one shares it with the argument: %v, %v", b, two, l[1])
	}
}

// scribbleSpans changes all of a list of Spans, its spare room too.
func scribbleSpans(l []api.Span) {
	l = l[:cap(l)]
	for i := range l {
		l[i] = api.Span{From: 9, To: 9}
	}
}

// R5: what is answered hangs on the bytes alone, not on a list's spare room, nor on which memory it is.
func TestSameAgain(t *testing.T) {
	for i, f := range samples() {
		b, _ := Encode(f)
		roomy := append(make([]byte, 0, 4096), b...)
		for range 3 {
			g, n, e := Parse(roomy)
			again, _ := Encode(g)
			if n != len(b) || e != api.OK || !bytes.Equal(again, b) {
				t.Error(strconv.Itoa(i), g, n, e)
			}
		}
	}
}
