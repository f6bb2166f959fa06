package varint

import (
	"bytes"
	"math/rand"
	"slices"
	"testing"

	"wigwag/api"
)

const top = 1<<64 - 1

// number is a number, and the bytes that it is put as.
type number struct {
	v uint64
	b []byte
}

// numbers are the chapter's, RFC 9000's, and those at the edges of each size.
func numbers() []number {
	return []number{
		{37, []byte{37}},
		{15293, []byte{123, 189}},
		{494878333, []byte{157, 127, 62, 125}},
		{151288809941952652, []byte{194, 25, 124, 94, 255, 20, 232, 140}},
		{0, []byte{0}},
		{1, []byte{1}},
		{1<<6 - 2, []byte{62}},
		{1<<6 - 1, []byte{63}},
		{1 << 6, []byte{64, 64}},
		{1<<6 + 1, []byte{64, 65}},
		{255, []byte{64, 255}},
		{256, []byte{65, 0}},
		{1<<14 - 2, []byte{127, 254}},
		{1<<14 - 1, []byte{127, 255}},
		{1 << 14, []byte{128, 0, 64, 0}},
		{1<<14 + 1, []byte{128, 0, 64, 1}},
		{1 << 16, []byte{128, 1, 0, 0}},
		{0x010203, []byte{128, 1, 2, 3}},
		{1<<30 - 2, []byte{191, 255, 255, 254}},
		{1<<30 - 1, []byte{191, 255, 255, 255}},
		{1 << 30, []byte{192, 0, 0, 0, 64, 0, 0, 0}},
		{1<<30 + 1, []byte{192, 0, 0, 0, 64, 0, 0, 1}},
		{1 << 32, []byte{192, 0, 0, 1, 0, 0, 0, 0}},
		{0x0102030405060708, []byte{193, 2, 3, 4, 5, 6, 7, 8}},
		{1<<62 - 2, []byte{255, 255, 255, 255, 255, 255, 255, 254}},
		{1<<62 - 1, []byte{255, 255, 255, 255, 255, 255, 255, 255}},
	}
}

// tooGreat are numbers that no bytes tell.
func tooGreat() []uint64 {
	return []uint64{1 << 62, 1<<62 + 1, 1 << 63, 1<<63 - 1, 1<<63 + 37, 3 << 62, top - 1, top}
}

// anyNumber is a number of any count of bits.
func anyNumber(r *rand.Rand) uint64 {
	return r.Uint64() >> r.Intn(64)
}

// P3.1: a number's size, at every edge and around it.
func TestSize(t *testing.T) {
	for _, c := range numbers() {
		if got := Size(c.v); got != len(c.b) {
			t.Errorf("Size(%d): %d, want %d", c.v, got, len(c.b))
		}
	}
	for _, v := range tooGreat() {
		if got := Size(v); got != 0 {
			t.Errorf("Size(%d): %d, want 0", v, got)
		}
	}
	if Size(64) != 2 || Size(api.MaxVar) != 8 || Size(api.MaxVar+1) != 0 {
		t.Errorf("%d, %d, %d", Size(64), Size(api.MaxVar), Size(api.MaxVar+1))
	}
}

// P3.1: each size begins just at its edge, whatever the number.
func TestSizeOfMany(t *testing.T) {
	r := rand.New(rand.NewSource(3))
	for range 20000 {
		v := anyNumber(r)
		want := 0
		switch {
		case v < 64:
			want = 1
		case v < 16384:
			want = 2
		case v < 1073741824:
			want = 4
		case v < 4611686018427387904:
			want = 8
		}
		if got := Size(v); got != want {
			t.Fatalf("Size(%d): %d, want %d", v, got, want)
		}
	}
}

// P3.2: a number's bytes.
func TestPut(t *testing.T) {
	for _, c := range numbers() {
		if b, e := Put(c.v); !bytes.Equal(b, c.b) || e != api.OK {
			t.Errorf("Put(%d): %v, %v, want %v", c.v, b, e, c.b)
		}
	}
}

// P3.2, R2: a number that is too great has an error, and no bytes.
func TestPutTooGreat(t *testing.T) {
	for _, v := range tooGreat() {
		if b, e := Put(v); len(b) != 0 || int(e) != 31 {
			t.Errorf("Put(%d): %v, %d, want none, 31", v, b, int(e))
		}
	}
}

// P3.2: the two highest bits tell the size, the others are the number.
func TestPutOfMany(t *testing.T) {
	r := rand.New(rand.NewSource(4))
	for range 20000 {
		v := anyNumber(r)
		b, e := Put(v)
		if v > api.MaxVar {
			if len(b) != 0 || e != api.ErrRange {
				t.Fatalf("Put(%d): %v, %v", v, b, e)
			}
			continue
		}
		if e != api.OK || len(b) != Size(v) || len(b) != 1<<(b[0]>>6) {
			t.Fatalf("Put(%d): %v, %v", v, b, e)
		}
		sum, worth := uint64(b[0]%64), uint64(1)
		for range len(b) - 1 {
			sum *= 256
		}
		for _, c := range slices.Backward(b[1:]) {
			sum += uint64(c) * worth
			worth *= 256
		}
		if sum != v {
			t.Fatalf("Put(%d): %v, which are %d", v, b, sum)
		}
	}
}

// checkGet holds what Get answers against a number, and a size.
func checkGet(t *testing.T, b []byte, v uint64, n int) {
	t.Helper()
	if gotV, gotN, e := Get(b); gotV != v || gotN != n || e != api.OK {
		t.Errorf("Get(%v): %d, %d, %v, want %d, %d", b, gotV, gotN, e, v, n)
	}
}

// P3.3: bytes of a number, alone and with others behind them.
func TestGet(t *testing.T) {
	for _, c := range numbers() {
		checkGet(t, c.b, c.v, len(c.b))
		for _, behind := range [][]byte{{0}, {9}, {255}, {64, 37}, {255, 255, 255, 255, 255, 255, 255, 255, 255}} {
			checkGet(t, append(slices.Clone(c.b), behind...), c.v, len(c.b))
		}
	}
}

// P3.3: a number may take more bytes than Size tells.
func TestGetOfMoreBytes(t *testing.T) {
	for _, c := range []number{
		{37, []byte{64, 37}},
		{37, []byte{128, 0, 0, 37}},
		{37, []byte{192, 0, 0, 0, 0, 0, 0, 37}},
		{0, []byte{64, 0}},
		{0, []byte{128, 0, 0, 0}},
		{0, []byte{192, 0, 0, 0, 0, 0, 0, 0}},
		{63, []byte{64, 63}},
		{15293, []byte{128, 0, 59, 189}},
		{1<<14 - 1, []byte{128, 0, 63, 255}},
		{1<<14 - 1, []byte{192, 0, 0, 0, 0, 0, 63, 255}},
		{1<<30 - 1, []byte{192, 0, 0, 0, 63, 255, 255, 255}},
	} {
		checkGet(t, c.b, c.v, len(c.b))
		checkGet(t, append(slices.Clone(c.b), 7), c.v, len(c.b))
	}
}

// P3.3, R2: bytes that are too few, or none, have an error, no number and no size.
func TestGetTooShort(t *testing.T) {
	for _, b := range [][]byte{
		nil,
		{},
		{64}, {127},
		{128}, {157, 127}, {157, 127, 0}, {191, 255, 255},
		{192}, {192, 0}, {255, 255, 255}, {192, 0, 0, 0}, {255, 255, 255, 255, 255}, {192, 0, 0, 0, 0, 0},
		{192, 0, 0, 0, 0, 0, 0}, {255, 255, 255, 255, 255, 255, 255},
	} {
		if v, n, e := Get(b); v != 0 || n != 0 || int(e) != 30 {
			t.Errorf("Get(%v): %d, %d, %d, want 0, 0, 30", b, v, n, int(e))
		}
	}
}

// P3.3: of each first byte, just the bytes that it tells are enough, and one fewer is too few.
func TestGetOfEachFirstByte(t *testing.T) {
	for first := range 256 {
		size := []int{1, 2, 4, 8}[first/64]
		b := make([]byte, size)
		b[0] = byte(first)
		checkGet(t, b, uint64(first%64)<<(8*(size-1)), size)
		if v, n, e := Get(b[:size-1]); v != 0 || n != 0 || e != api.ErrShort {
			t.Errorf("Get(%v): %d, %d, %v, want ErrShort", b[:size-1], v, n, e)
		}
	}
}

// R5: what lies in the room behind bytes is none of them.
func TestGetLooksAtNoRoom(t *testing.T) {
	room := []byte{192, 0, 0, 0, 0, 0, 0, 9}
	for n := range len(room) {
		if v, size, e := Get(room[:n]); v != 0 || size != 0 || e != api.ErrShort {
			t.Errorf("Get of %d bytes, with room: %d, %d, %v, want ErrShort", n, v, size, e)
		}
	}
	checkGet(t, room[:8:8], 9, 8)
}

// P3.4: what is put is got, whatever stands behind it.
func TestPutIsGot(t *testing.T) {
	r := rand.New(rand.NewSource(5))
	for range 20000 {
		v := anyNumber(r) % (api.MaxVar + 1)
		b, e := Put(v)
		if e != api.OK {
			t.Fatalf("Put(%d): %v", v, e)
		}
		behind := make([]byte, r.Intn(12))
		r.Read(behind)
		checkGet(t, append(slices.Clone(b), behind...), v, len(b))
	}
}

// P3.4: numbers that are put one behind another are got one by one.
func TestManyInARow(t *testing.T) {
	var row []byte
	for _, c := range numbers() {
		b, _ := Put(c.v)
		row = append(row, b...)
	}
	for _, c := range numbers() {
		v, n, e := Get(row)
		if v != c.v || n != len(c.b) || e != api.OK {
			t.Fatalf("%d, %d, %v, want %d, %d", v, n, e, c.v, len(c.b))
		}
		row = row[n:]
	}
	if len(row) != 0 {
		t.Errorf("bytes are left: %v", row)
	}
}

// R4: the bytes that are handed in stay as they were, and their room too.
func TestGetChangesNothing(t *testing.T) {
	for _, c := range numbers() {
		for n := range len(c.b) + 1 {
			room := append(slices.Clone(c.b), 1, 2, 3)
			was := slices.Clone(room)
			Get(room[:n])
			if !bytes.Equal(room, was) {
				t.Errorf("Get(%v) made %v of %v", c.b[:n], room, was)
			}
		}
	}
}

// R4: an answer's bytes, and their room, are nobody else's.
func TestPutAnswersNewMemory(t *testing.T) {
	for _, c := range numbers() {
		first, _ := Put(c.v)
		whole := first[:cap(first)]
		for i := range whole {
			whole[i] ^= 255
		}
		second, e := Put(c.v)
		if !bytes.Equal(second, c.b) || e != api.OK {
			t.Fatalf("Put(%d): %v, %v, once the first answer was changed", c.v, second, e)
		}
		held := slices.Clone(whole)
		for _, d := range numbers() {
			Put(d.v)
		}
		if !bytes.Equal(whole, held) {
			t.Errorf("an answer of %d was changed by later calls: %v, was %v", c.v, whole, held)
		}
		if cap(second) > 0 && &second[:cap(second)][0] == &whole[0] {
			t.Errorf("Put(%d): two answers share memory", c.v)
		}
	}
}
