package seal

import (
	"bytes"
	"hash/crc32"
	"math/rand"
	"slices"
	"testing"

	"wigwag/api"
	"wigwag/pnum"
)

const (
	top  = 1<<64 - 1
	last = 1<<62 - 1
)

// sum is P6.1, reckoned elsewhere.
func sum(b []byte) uint32 {
	return crc32.Checksum(b, crc32.MakeTable(crc32.Castagnoli))
}

// summed are parts joined, and their sum behind them.
func summed(parts ...[]byte) []byte {
	b := slices.Concat(parts...)
	s := sum(b)
	return append(b, byte(s), byte(s>>8), byte(s>>16), byte(s>>24))
}

// filled are so many bytes, none like the one beside it.
func filled(n int) []byte {
	b := make([]byte, n)
	for i := range b {
		b[i] = byte(7*i + 3)
	}
	return b
}

// numberOfSize are a number and a next of which the number takes so many bytes.
func numberOfSize(size int) (number, next uint64) {
	return 0xA1B2C3D4, 0xA1B2C3D4 - []uint64{0, 1000, 1 << 20, 1 << 30}[size-1]
}

// written is the datagram of P6.2, reckoned by the chapter's words.
func written(number, next uint64, payload []byte) []byte {
	size := pnum.Size(number, next)
	head := make([]byte, 1+size)
	head[0] = byte(63 + size)
	part := pnum.Cut(number, size)
	for i := size; i > 0; i-- {
		head[i] = byte(part % 256)
		part /= 256
	}
	return summed(head, payload)
}

// packed asks that a packet is packed as P6.2 says.
func packed(t *testing.T, number, next uint64, payload []byte) []byte {
	t.Helper()
	b, e := Pack(number, next, payload)
	if want := written(number, next, payload); e != api.OK || !bytes.Equal(b, want) {
		t.Fatalf("Pack(%d, %d, %v): %v, %v, want %v", number, next, payload, b, e, want)
	}
	return b
}

// unpacked asks that a packet is refused.
func unpacked(t *testing.T, number, next uint64, payload []byte) {
	t.Helper()
	if b, e := Pack(number, next, payload); e != api.ErrArg || len(b) != 0 {
		t.Fatalf("Pack(%d, %d, %d bytes): %v, %v", number, next, len(payload), b, e)
	}
}

// opened asks that bytes are a datagram of a number and a payload.
func opened(t *testing.T, b []byte, next, number uint64, payload []byte) {
	t.Helper()
	n, p, e := Open(b, next)
	if n != number || !bytes.Equal(p, payload) || e != api.OK {
		t.Fatalf("Open(%v, %d): %d, %v, %v, want %d, %v", b, next, n, p, e, number, payload)
	}
}

// unopened asks that bytes are no datagram.
func unopened(t *testing.T, b []byte, next uint64) {
	t.Helper()
	if n, p, e := Open(b, next); n != 0 || len(p) != 0 || e != api.ErrSeal {
		t.Fatalf("Open(%v, %d): %d, %v, %v", b, next, n, p, e)
	}
}

// P6.1: the chapter's example, sums that RFC 3720 tells, no bytes, and one.
func TestSum(t *testing.T) {
	rising, falling := make([]byte, 32), make([]byte, 32)
	for i := range 32 {
		rising[i], falling[31-i] = byte(i), byte(i)
	}
	for _, c := range []struct {
		b    []byte
		want uint32
	}{
		{[]byte("123456789"), 0xE3069283},
		{nil, 0}, {[]byte{}, 0},
		{[]byte{0}, 0x527D5351}, {[]byte{1}, 0xA016D052}, {[]byte{97}, 0xC1D04330}, {[]byte{128}, 0xD08B6829}, {[]byte{255}, 0xFF000000},
		{make([]byte, 32), 0x8A9136AA}, {bytes.Repeat([]byte{255}, 32), 0x62A8AB43}, {rising, 0x46DD794E}, {falling, 0x113FDB5C},
	} {
		if got := Sum(c.b); got != c.want {
			t.Errorf("Sum(%v): %X, want %X", c.b, got, c.want)
		}
	}
}

// P6.1: each single byte, alone and behind another one.
func TestSumOfEachByte(t *testing.T) {
	for i := range 256 {
		for _, b := range [][]byte{{byte(i)}, {0, byte(i)}, {byte(i), 0}, {200, byte(i)}} {
			if got := Sum(b); got != sum(b) {
				t.Errorf("Sum(%v): %X, want %X", b, got, sum(b))
			}
		}
	}
}

// P6.1, R7: many bytes, any ones.
func TestSumOfMany(t *testing.T) {
	r := rand.New(rand.NewSource(61))
	for n := range 1300 {
		b := make([]byte, n)
		r.Read(b)
		if got := Sum(b); got != sum(b) {
			t.Fatalf("Sum(%v): %X, want %X", b, got, sum(b))
		}
	}
	b := make([]byte, 1<<20+3)
	r.Read(b)
	if got := Sum(b); got != sum(b) {
		t.Errorf("Sum of %d bytes: %X, want %X", len(b), got, sum(b))
	}
}

// P6.2, P6.3: datagrams, byte by byte: the chapter's example, and one of each size.
func TestDatagrams(t *testing.T) {
	for _, c := range []struct {
		number, next uint64
		payload      []byte
		want         []byte
	}{
		{5, 5, []byte("a"), []byte{64, 5, 97, 105, 202, 132, 105}},
		{11298, 10000, []byte("ab"), []byte{65, 44, 34, 97, 98, 84, 194, 153, 173}},
		{70000, 0, []byte("xyz"), []byte{66, 1, 17, 112, 120, 121, 122, 79, 96, 44, 153}},
		{4, 5, []byte{0}, []byte{67, 0, 0, 0, 4, 0, 103, 141, 24, 35}},
		{last, 0, []byte{1}, []byte{67, 255, 255, 255, 255, 1, 114, 230, 116, 37}},
		{last, last, []byte{0}, []byte{64, 255, 0, 32, 7, 226, 4}},
	} {
		b, e := Pack(c.number, c.next, c.payload)
		if e != api.OK || !bytes.Equal(b, c.want) {
			t.Errorf("Pack(%d, %d, %v): %v, %v, want %v", c.number, c.next, c.payload, b, e, c.want)
		}
		opened(t, c.want, c.number, c.number, c.payload)
		opened(t, c.want, c.number+1, c.number, c.payload)
	}
}

// P6.2, P6.3: number and next that are equal, near, far apart either way, and great.
func TestNumbers(t *testing.T) {
	numbers := []uint64{0, 1, 5, 127, 128, 255, 256, 32767, 32768, 65535, 65536, 8388607, 8388608, 1<<24 - 1, 1 << 24, 1 << 31, 1<<32 - 1, 1 << 32, 0x0123456789ABCDEF, 1 << 61, last - 1, last}
	sizes := [5]int{}
	for _, number := range numbers {
		for _, next := range append(numbers, last+1, 1<<63, top-1, top) {
			b := packed(t, number, next, []byte("xy"))
			sizes[len(b)-7]++
			opened(t, b, number, number, []byte("xy"))
		}
	}
	if sizes[0] != 0 || slices.Contains(sizes[1:], 0) {
		t.Errorf("datagrams of each size: %v", sizes)
	}
}

// P6.3: a number of 2^62 - 1 is packed, one above it is not, whatever next is.
func TestTooGreatNumber(t *testing.T) {
	for _, next := range []uint64{0, 5, last - 1, last, last + 1, last + 2, 1 << 63, top} {
		packed(t, last, next, []byte("a"))
		for _, number := range []uint64{last + 1, last + 2, 1<<62 + 5, 1 << 63, top - 1, top} {
			unpacked(t, number, next, []byte("a"))
			unpacked(t, number, number, []byte("a"))
			unpacked(t, number, next, nil)
			unpacked(t, number, next, make([]byte, 1200))
		}
	}
}

// P6.3: at each size: payloads of no byte, of one, and those with which the datagram has just 1200 bytes, and more.
func TestPayloads(t *testing.T) {
	for size := 1; size <= 4; size++ {
		number, next := numberOfSize(size)
		unpacked(t, number, next, nil)
		unpacked(t, number, next, []byte{})
		unpacked(t, number, next, make([]byte, 0, 9))
		room := 1200 - 1 - size - 4
		for _, n := range []int{1, 2, 3, 1000, 1190, room - 1, room} {
			b := packed(t, number, next, filled(n))
			if int(b[0]) != 63+size || len(b) != n+5+size {
				t.Errorf("size %d, %d bytes: %d, of the first byte %d", size, n, len(b), b[0])
			}
			opened(t, b, number, number, filled(n))
		}
		for _, n := range []int{room + 1, room + 2, 1196, 1200, 1201, 65536, 1 << 20} {
			unpacked(t, number, next, filled(n))
		}
	}
}

// P6.3: no bytes, fewer than the least datagram has, and just so many.
func TestFewBytes(t *testing.T) {
	unopened(t, nil, 5)
	unopened(t, []byte{}, 5)
	for first := range 256 {
		for n := range 10 {
			b := make([]byte, n)
			if n > 0 {
				b[0] = byte(first)
			}
			unopened(t, b, 5)
		}
		unopened(t, summed([]byte{byte(first)}), 5)
		unopened(t, summed([]byte{byte(first), 1}), 5)
	}
	unopened(t, summed(), 5)
	opened(t, summed([]byte{64, 1, 2}), 5, 1, []byte{2})
}

// P6.3: first bytes that tell no size, with the Sum that is theirs.
func TestFirstBytes(t *testing.T) {
	for first := range 256 {
		for _, n := range []int{0, 1, 2, 3, 4, 5, 6, 7, 60, 1194, 1195} {
			rest := filled(n)
			b := summed([]byte{byte(first)}, rest)
			if size := first - 63; size >= 1 && size <= 4 && n > size {
				opened(t, b, 0, pnum.Whole(partOf(rest[:size]), size, 0), rest[size:])
			} else {
				unopened(t, b, 0)
			}
		}
	}
}

// partOf is a number's part, the highest byte first.
func partOf(b []byte) uint64 {
	v := uint64(0)
	for _, c := range b {
		v = 256*v + uint64(c)
	}
	return v
}

// P6.3: a size with fewer bytes than it tells, and one with no payload, with the Sum that is theirs.
func TestNoPayload(t *testing.T) {
	for size := 1; size <= 4; size++ {
		for n := range size + 1 {
			unopened(t, summed([]byte{byte(63 + size)}, filled(n)), 5)
		}
		opened(t, summed([]byte{byte(63 + size)}, make([]byte, size), []byte{9}), 0, 0, []byte{9})
	}
}

// P6.3: a datagram that is cut at each place, either end, and bytes behind one, and ahead of it.
func TestCutDatagrams(t *testing.T) {
	for size := 1; size <= 4; size++ {
		for _, payload := range [][]byte{{0}, {1}, []byte("hello"), make([]byte, 20), bytes.Repeat([]byte{64}, 9)} {
			number, next := numberOfSize(size)
			b := packed(t, number, next, payload)
			for i := range b {
				unopened(t, b[:i], number)
				unopened(t, b[:i:i], number)
				unopened(t, b[i+1:], number)
			}
			for _, more := range []int{0, 1, 64, 255} {
				unopened(t, append(slices.Clone(b), byte(more)), number)
				unopened(t, append(slices.Clone(b), byte(more), 0), number)
				unopened(t, append([]byte{byte(more)}, b...), number)
			}
			unopened(t, slices.Concat(b, b), number)
			opened(t, append(slices.Clone(b), 1, 2, 3)[:len(b)], number, number, payload)
		}
	}
}

// P6.3: Sums that are not the datagram's: of other bytes, the highest byte first, not inverted, none.
func TestOtherSums(t *testing.T) {
	body := []byte{65, 1, 2, 'h', 'i'}
	lay := func(s uint32) []byte {
		return append(slices.Clone(body), byte(s), byte(s>>8), byte(s>>16), byte(s>>24))
	}
	s := sum(body)
	opened(t, lay(s), 0, 258, []byte("hi"))
	for _, other := range []uint32{0, 1, ^s, s + 1, s - 1, s<<8 | s>>24, s<<24 | s>>8, s<<24 | s&0xFF00<<8 | s>>8&0xFF00 | s>>24, sum(nil), sum(body[1:]), sum(body[3:]), sum(body[:4]), sum(lay(s)), sum(lay(0)), crc32.ChecksumIEEE(body)} {
		unopened(t, lay(other), 0)
	}
	for bit := range 32 {
		unopened(t, lay(s^1<<bit), 0)
	}
}

// P6.3: 1200 bytes with a Sum that is theirs are one, 1201 and more are none.
func TestManyBytes(t *testing.T) {
	for size := 1; size <= 4; size++ {
		first := []byte{byte(63 + size)}
		for _, n := range []int{1000, 1199, 1200} {
			rest := filled(n - 5)
			opened(t, summed(first, rest), 0, pnum.Whole(partOf(rest[:size]), size, 0), rest[size:])
		}
		for _, n := range []int{1201, 1202, 1204, 1205, 2400, 65536, 1 << 20} {
			unopened(t, summed(first, filled(n-5)), 0)
		}
	}
}

// P6.3: the number that is told is near the next one, as pnum.Whole says.
func TestNextNumbers(t *testing.T) {
	b := packed(t, 1000, 1000, []byte("a"))
	for _, c := range [][2]uint64{{1000, 1000}, {1001, 1000}, {1127, 1000}, {1128, 1256}, {873, 1000}, {872, 1000}, {871, 744}, {0, 232}, {top, last - 23}} {
		opened(t, b, c[0], c[1], []byte("a"))
	}
	opened(t, summed([]byte{65, 0x9B, 0x32, 7}), 0xA82F30EB, 0xA82F9B32, []byte{7})
	parts := []uint64{0, 1, 0x7F, 0x80, 0xFF, 0x7FFF, 0x8000, 0xFFFF, 0x7FFFFF, 0x800000, 0xFFFFFF, 0x7FFFFFFF, 0x80000000, 0xFFFFFFFF, 0x01020304}
	for size := 1; size <= 4; size++ {
		for _, part := range parts {
			head := []byte{byte(63 + size), byte(part >> 24), byte(part >> 16), byte(part >> 8), byte(part)}
			b := summed(head[:1], head[5-size:], []byte("pay"))
			for _, next := range append(parts, 1000, 1<<32, 1<<40+77, last-1<<31, last-128, last-1, last, last+1, 1<<63, top) {
				opened(t, b, next, pnum.Whole(part%(1<<(8*size)), size, next), []byte("pay"))
			}
		}
	}
}

// P6.4: each byte of a datagram turned into each other one.
func TestTurnedBytes(t *testing.T) {
	for size := 1; size <= 4; size++ {
		for _, n := range []int{1, 2, 17, 1195 - size} {
			number, next := numberOfSize(size)
			b := packed(t, number, next, filled(n))
			for i := range b {
				for by := 1; by < 256; by++ {
					if n > 100 && i > 10 && by&(by-1) != 0 { // of the longest ones each bit alone
						continue
					}
					b[i] ^= byte(by)
					unopened(t, b, number)
					b[i] ^= byte(by)
				}
			}
			opened(t, b, number, number, filled(n))
		}
	}
}

// anyNumber is a number of any count of bits.
func anyNumber(r *rand.Rand) uint64 {
	return r.Uint64() >> r.Intn(64)
}

// P6.4: what is packed is opened, for each next that pnum's promise speaks of.
func TestThereAndBack(t *testing.T) {
	r := rand.New(rand.NewSource(64))
	for range 20000 {
		number := anyNumber(r) % (last + 1)
		if r.Intn(4) == 0 {
			number = last - anyNumber(r)%(1<<34)
		}
		off := min(anyNumber(r)%(1<<31+1), number)
		payload := make([]byte, 1+r.Intn(1<<r.Intn(11))%1190)
		r.Read(payload)
		b := packed(t, number, number-off, payload)
		opened(t, b, number-off, number, payload)
		opened(t, b, number-anyNumber(r)%(off+1), number, payload)
		opened(t, b, number+1, number, payload)
		i, by := r.Intn(len(b)), byte(1+r.Intn(255))
		b[i] ^= by
		unopened(t, b, number)
	}
}

// may tells whether bytes are a datagram, by the words of P6.3.
func may(b []byte) bool {
	if len(b) < 7 || len(b) > 1200 || b[0] < 64 || b[0] > 67 || len(b) < 1+int(b[0])-63+1+4 {
		return false
	}
	return bytes.Equal(summed(b[:len(b)-4]), b)
}

// P6.3, R1: bytes of all sorts, many of them with a Sum that is theirs.
func TestAnyBytes(t *testing.T) {
	r := rand.New(rand.NewSource(63))
	goods := 0
	for range 100000 {
		b := make([]byte, r.Intn(20))
		if r.Intn(50) == 0 {
			b = make([]byte, 1180+r.Intn(30))
		}
		r.Read(b)
		if len(b) > 0 && r.Intn(4) > 0 {
			b[0] = byte(62 + r.Intn(7))
		}
		if r.Intn(4) > 0 {
			b = summed(b)
		}
		next := anyNumber(r)
		if may(b) {
			goods++
			size := int(b[0]) - 63
			opened(t, b, next, pnum.Whole(partOf(b[1:1+size]), size, next), b[1+size:len(b)-4])
		} else {
			unopened(t, b, next)
		}
	}
	if goods < 10000 {
		t.Errorf("only %d of them are datagrams", goods)
	}
}

// scribble changes all of a list of bytes, its spare room too.
func scribble(b []byte) {
	b = b[:cap(b)]
	for i := range b {
		b[i] ^= 255
	}
}

// roomy are bytes with spare room behind them, and all of that memory.
func roomy(b []byte) (part, whole []byte) {
	whole = append(slices.Clone(b), "spare room, of which nothing may be taken"...)
	return whole[:len(b)], whole
}

// R4: Pack's payload stays, its spare room included, and shares no memory with what is answered, nor do two answers.
func TestPackMemory(t *testing.T) {
	for size := 1; size <= 4; size++ {
		for _, n := range []int{1, 30, 1195 - size, 1196 - size, 0} {
			number, next := numberOfSize(size)
			payload, whole := roomy(filled(n))
			keep := slices.Clone(whole)
			Sum(payload)
			one, _ := Pack(number, next, payload)
			two, _ := Pack(number, next, payload)
			want := slices.Clone(two)
			scribble(one)
			if !bytes.Equal(whole, keep) {
				t.Errorf("size %d, %d bytes: Pack changed its payload, or its answer shares memory with it", size, n)
			}
			scribble(whole)
			if !bytes.Equal(two, want) {
				t.Errorf("size %d, %d bytes: an answer of Pack shares memory with another one, or with the payload", size, n)
			}
		}
	}
}

// R4: Open's bytes stay, their spare room included, and share no memory with what is answered, nor do two answers.
func TestOpenMemory(t *testing.T) {
	for size := 1; size <= 4; size++ {
		for _, n := range []int{1, 30, 1195 - size} {
			number, next := numberOfSize(size)
			b, whole := roomy(packed(t, number, next, filled(n)))
			keep := slices.Clone(whole)
			_, one, _ := Open(b, number)
			_, two, _ := Open(b, number)
			scribble(one)
			if !bytes.Equal(whole, keep) {
				t.Errorf("size %d, %d bytes: Open changed its bytes, or its answer shares memory with them", size, n)
			}
			hurt, wholeHurt := roomy(b)
			hurt[len(hurt)-1] ^= 1
			keepHurt := slices.Clone(wholeHurt)
			unopened(t, hurt, number)
			unopened(t, hurt[:len(hurt)-1], number)
			if !bytes.Equal(wholeHurt, keepHurt) {
				t.Errorf("size %d, %d bytes: Open changed bytes that are no datagram", size, n)
			}
			scribble(whole)
			if !bytes.Equal(two, filled(n)) {
				t.Errorf("size %d, %d bytes: an answer of Open shares memory with another one, or with the bytes", size, n)
			}
		}
	}
}

// R5: what is answered hangs on the bytes alone, not on their spare room, nor on what was asked before.
func TestSameAgain(t *testing.T) {
	for size := 1; size <= 4; size++ {
		number, next := numberOfSize(size)
		want := written(number, next, filled(40))
		tight := slices.Clip(filled(40))
		loose := append(make([]byte, 0, 4096), tight...)
		for _, payload := range [][]byte{tight, loose, tight} {
			b, e := Pack(number, next, payload)
			if e != api.OK || !bytes.Equal(b, want) || Sum(payload) != sum(tight) {
				t.Errorf("size %d: %v, %v", size, b, e)
			}
			opened(t, slices.Clip(slices.Clone(b)), number, number, tight)
			opened(t, append(make([]byte, 0, 4096), b...), number, number, tight)
			unopened(t, nil, number)
		}
	}
}
