package crc

import (
	"bytes"
	"hash/crc32"
	"math/bits"
	"math/rand"
	"slices"
	"strings"
	"testing"

	"pilaster/api"
)

// slowEntry is the chapter's words: eight times a shift right by one, and an
// XOR if the lowest bit was 1.
func slowEntry(i, poly uint32) uint32 {
	x := i
	for time := 0; time < 8; time++ {
		if x%2 == 1 {
			x = x/2 ^ poly
		} else {
			x = x / 2
		}
	}
	return x
}

// slowSum is a sum by New's table reckoned without a table: a bit at a time,
// by the polynomial with its highest power first.
func slowSum(b []byte) uint32 {
	const highestFirst = 0x1edc6f41
	r := uint32(0xffffffff)
	for _, c := range b {
		for bit := range 8 {
			over := r>>31 ^ uint32(c>>bit&1)
			r <<= 1
			if over == 1 {
				r ^= highestFirst
			}
		}
	}
	return bits.Reverse32(^r)
}

// slowSumBy is the chapter's words for a sum by any table.
func slowSumBy(t *Table, b []byte) uint32 {
	r := uint64(1<<32 - 1)
	for _, c := range b {
		at := r%256 ^ uint64(c)
		r = r/256 ^ uint64(t[at])
	}
	return uint32(1<<32 - 1 - r)
}

// slowSeal lays a sum behind b, the lowest byte first.
func slowSeal(b []byte, sum uint32) []byte {
	out := bytes.Clone(b)
	return append(out, byte(sum), byte(sum/256), byte(sum/65536), byte(sum/16777216))
}

// tableOf is what New would be with another polynomial.
func tableOf(poly uint32) Table {
	var t Table
	for i := range t {
		t[i] = slowEntry(uint32(i), poly)
	}
	return t
}

// otherTables are some that are not New's.
func otherTables() map[string]Table {
	var ones, count, mixed Table
	from := rand.New(rand.NewSource(1))
	for i := range ones {
		ones[i], count[i], mixed[i] = 0xffffffff, uint32(i), from.Uint32()
	}
	near := tableOf(0x82f63b78)
	near[255] ^= 1 << 31
	return map[string]Table{"noughts": {}, "ones": ones, "count": count, "mixed": mixed, "near": near, "ieee": tableOf(0xedb88320)}
}

// samples are rows of bytes: none, short, with noughts and with all bits, and
// of the lengths at which something may turn.
func samples() [][]byte {
	out := [][]byte{nil, {}, []byte("a"), []byte("123456789"), []byte("\x00"), []byte("\xff"), []byte("\x00\x00\x00\x00"), []byte("\xff\xff\xff\xff")}
	from := rand.New(rand.NewSource(2))
	for _, n := range []int{1, 2, 3, 4, 5, 7, 8, 9, 31, 32, 33, 255, 256, 257, 1000, 4096, 65537} {
		b := make([]byte, n)
		from.Read(b)
		out = append(out, make([]byte, n), bytes.Repeat([]byte{0xff}, n), b)
	}
	return out
}

// short are those samples that have at most so many bytes.
func short(most int) [][]byte {
	return slices.DeleteFunc(samples(), func(b []byte) bool { return len(b) > most })
}

// wantOpen asks that b opens as want.
func wantOpen(t *testing.T, x *Table, b, want []byte) {
	t.Helper()
	if got, e := x.Open(b); e != api.OK || !bytes.Equal(got, want) {
		t.Fatalf("Open of %d bytes = %d bytes, %d; want %d bytes", len(b), len(got), e, len(want))
	}
}

// wantNoOpen asks that b is refused, with nothing beside the error.
func wantNoOpen(t *testing.T, x *Table, b []byte) {
	t.Helper()
	if got, e := x.Open(b); e != api.ErrCorrupt || len(got) != 0 {
		t.Fatalf("Open(%x) = %x, %d; want ErrCorrupt", b, got, e)
	}
}

func TestNew(t *testing.T) { // P4.1
	x := New()
	for i, got := range x {
		if want := slowEntry(uint32(i), 0x82f63b78); got != want {
			t.Errorf("entry %d = %08x, want %08x", i, got, want)
		}
	}
	for i, want := range map[int]uint32{0: 0, 1: 0xf26b8303, 2: 0xe13b70f7, 128: 0x82f63b78, 255: 0xad7d5351} {
		if x[i] != want {
			t.Errorf("entry %d = %08x, want %08x", i, x[i], want)
		}
	}
	if library := Table(*crc32.MakeTable(crc32.Castagnoli)); x != library {
		t.Errorf("New is not the library's table")
	}
}

func TestNewIsTheCallersOwn(t *testing.T) { // P4.1, R6, R7
	one, two := New(), New()
	clear(one[:])
	if three := New(); two != three || one == two {
		t.Errorf("what is done of one table is seen by another")
	}
}

func TestSum(t *testing.T) { // P4.1
	x := New()
	for s, want := range map[string]uint32{
		"":          0, // the chapter's
		"123456789": 0xe3069283,
		"a":         0xc1d04330,
		"\x00":      0x527d5351,
		"\xff":      0xff000000,

		strings.Repeat("\x00", 32): 0x8a9136aa, // RFC 3720, B.4
		strings.Repeat("\xff", 32): 0x62a8ab43,
	} {
		if got := x.Sum([]byte(s)); got != want {
			t.Errorf("Sum(%q) = %08x, want %08x", s, got, want)
		}
	}
	if got := x.Sum(nil); got != 0 {
		t.Errorf("Sum(nil) = %08x", got)
	}
}

func TestSumOfEachByte(t *testing.T) { // P4.1: alone, and behind another
	x := New()
	for c := range 256 {
		for _, b := range [][]byte{{byte(c)}, {0, byte(c)}, {byte(c), 0}, {0xa5, byte(c), 0xff}} {
			if got, want := x.Sum(b), slowSum(b); got != want {
				t.Errorf("Sum(%x) = %08x, want %08x", b, got, want)
			}
		}
	}
}

func TestSumOfLong(t *testing.T) { // P4.1: of each length to 300, and of long ones
	x := New()
	b := make([]byte, api.MaxFile+1)
	rand.New(rand.NewSource(3)).Read(b)
	for n := range 300 {
		if got, want := x.Sum(b[:n]), slowSum(b[:n]); got != want {
			t.Errorf("Sum of %d bytes = %08x, want %08x", n, got, want)
		}
	}
	for _, b := range append(samples(), b[:api.MaxFile-1], b[:api.MaxFile], b) {
		want := slowSum(b)
		if got := x.Sum(b); got != want || want != crc32.Checksum(b, crc32.MakeTable(crc32.Castagnoli)) {
			t.Errorf("Sum of %d bytes = %08x, want %08x", len(b), got, want)
		}
	}
}

func TestSumByOtherTables(t *testing.T) { // P4.1: by the table that it is asked of, not by New's
	for name, x := range otherTables() {
		for _, b := range samples() {
			if got, want := x.Sum(b), slowSumBy(&x, b); got != want {
				t.Errorf("%s: Sum of %d bytes = %08x, want %08x", name, len(b), got, want)
			}
		}
		for c := range 256 {
			if got, want := x.Sum([]byte{byte(c)}), ^(0x00ffffff ^ x[255-c]); got != want {
				t.Errorf("%s: Sum(%02x) = %08x, want %08x", name, c, got, want)
			}
		}
	}
	noughts, ieee := Table{}, tableOf(crc32.IEEE)
	for n, want := range []uint32{0, 0xff000000, 0xffff0000, 0xffffff00, 0xffffffff, 0xffffffff} {
		if got := noughts.Sum([]byte("abcde")[:n]); got != want {
			t.Errorf("by noughts %d bytes come to %08x, want %08x", n, got, want)
		}
	}
	if got := ieee.Sum([]byte("123456789")); got != 0xcbf43926 {
		t.Errorf("by another polynomial: %08x", got)
	}
}

func TestSeal(t *testing.T) { // P4.2
	x := New()
	for s, want := range map[string]string{
		"":          "\x00\x00\x00\x00", // the chapter's
		"123456789": "123456789\x83\x92\x06\xe3",
		"a":         "a\x30\x43\xd0\xc1",
		"\xff":      "\xff\x00\x00\x00\xff",
	} {
		if got := x.Seal([]byte(s)); string(got) != want {
			t.Errorf("Seal(%q) = %q, want %q", s, got, want)
		}
	}
	if got := x.Seal(nil); string(got) != "\x00\x00\x00\x00" {
		t.Errorf("Seal(nil) = %x", got)
	}
	for _, b := range samples() {
		if got := x.Seal(b); !bytes.Equal(got, slowSeal(b, slowSum(b))) {
			t.Errorf("Seal of %d bytes = %x", len(b), got)
		}
	}
}

func TestOpenOfSeal(t *testing.T) { // P4.2, P4.3: once, and sealed twice
	x := New()
	for _, b := range samples() {
		one := slowSeal(b, slowSum(b))
		two := slowSeal(one, slowSum(one))
		wantOpen(t, &x, one, b)
		wantOpen(t, &x, two, one)
		wantOpen(t, &x, x.Seal(b), b)
	}
}

func TestSealAndOpenByOtherTables(t *testing.T) { // P4.2
	ours := New()
	for name, x := range otherTables() {
		for _, b := range samples() {
			want := slowSeal(b, slowSumBy(&x, b))
			if got := x.Seal(b); !bytes.Equal(got, want) {
				t.Errorf("%s: Seal of %d bytes = %x", name, len(b), got)
			}
			wantOpen(t, &x, want, b)
			for at := len(b); at < len(want); at++ {
				want[at] ^= 0x10 // the sum alone is turned: never a seal
				wantNoOpen(t, &x, want)
				want[at] ^= 0x10
			}
		}
		for cut := range 4 {
			wantNoOpen(t, &x, []byte{0, 0, 0, 0}[:cut])
		}
		wantOpen(t, &x, []byte{0, 0, 0, 0}, nil)
	}
	count := otherTables()["count"]
	wantNoOpen(t, &count, ours.Seal([]byte("123456789")))
	wantNoOpen(t, &ours, count.Seal([]byte("123456789")))
	noughts := Table{} // by which all that is long comes to the same: bytes behind a seal may make another
	wantOpen(t, &noughts, []byte("abcdef\xff\xff\xff\xff"), []byte("abcdef"))
	wantOpen(t, &noughts, []byte("abcdef\xff\xff\xff\xff\xff"), []byte("abcdef\xff"))
}

func TestOpenOfFewBytes(t *testing.T) { // P4.2: no bytes, and one to three
	x := New()
	wantNoOpen(t, &x, nil)
	wantNoOpen(t, &x, []byte{})
	room := make([]byte, 8) // with noughts behind the end, where Seal of no bytes might be seen
	for n := range 4 {
		wantNoOpen(t, &x, room[:n])
	}
	for first := range 256 {
		wantNoOpen(t, &x, []byte{byte(first)})
		for second := range 256 {
			wantNoOpen(t, &x, []byte{byte(first), byte(second)})
			wantNoOpen(t, &x, []byte{byte(first), byte(second), byte(first ^ second)})
			wantNoOpen(t, &x, []byte{0, byte(first), byte(second)})
		}
	}
}

func TestOpenOfFourBytes(t *testing.T) { // P4.2: noughts are Seal of no bytes, others are none
	x := New()
	wantOpen(t, &x, []byte{0, 0, 0, 0}, nil)
	for at := range 4 {
		for c := 1; c < 256; c++ {
			b := []byte{0, 0, 0, 0}
			b[at] = byte(c)
			wantNoOpen(t, &x, b)
		}
	}
	from := rand.New(rand.NewSource(4))
	for range 10000 {
		if n := from.Uint32(); n != 0 {
			wantNoOpen(t, &x, slowSeal(nil, n))
		}
	}
	wantNoOpen(t, &x, []byte("\xff\xff\xff\xff"))
}

func TestOpenCutOrLonger(t *testing.T) { // P4.2: bytes missing, ahead or behind; a byte more
	x := New()
	for _, b := range short(300) {
		seal := slowSeal(b, slowSum(b))
		for n := range seal {
			if !isSeal(seal[:n]) {
				wantNoOpen(t, &x, seal[:n])
			}
			if rest := seal[n+1:]; !isSeal(rest) {
				wantNoOpen(t, &x, rest)
			}
		}
		wantNoOpen(t, &x, seal[:len(seal)-1])
		for c := range 256 {
			wantNoOpen(t, &x, append(bytes.Clone(seal), byte(c)))
			if more := append([]byte{byte(c)}, seal...); !isSeal(more) {
				wantNoOpen(t, &x, more)
			}
		}
	}
}

// isSeal tells by the slower reckoning whether b is a seal by New's table.
func isSeal(b []byte) bool {
	end := len(b) - 4
	return end >= 0 && bytes.Equal(b, slowSeal(b[:end], slowSum(b[:end])))
}

func TestOpenOfOtherOrder(t *testing.T) { // P4.2: the highest byte first, bits not turned, the sum ahead
	x := New()
	for _, s := range []string{"123456789\xe3\x06\x92\x83", "123456789\x7c\x6d\xf9\x1c", "\x83\x92\x06\xe3123456789", "123456789\x00\x00\x00\x00", "\xff\xff\xff\xff", "123456789"} {
		wantNoOpen(t, &x, []byte(s))
	}
}

// turn turns the bits of a pattern in b, its lowest at the bit from; bits
// stand byte by byte, in each the lowest first.
func turn(b []byte, from int, pattern uint64) {
	for i := range 64 {
		if pattern>>i&1 == 1 {
			b[(from+i)/8] ^= 1 << ((from + i) % 8)
		}
	}
}

// wantTold asks that a seal with a pattern turned in it is none.
func wantTold(t *testing.T, x *Table, seal []byte, from int, pattern uint64) {
	t.Helper()
	turn(seal, from, pattern)
	wantNoOpen(t, x, seal)
	turn(seal, from, pattern)
}

func TestEachBitTurned(t *testing.T) { // P4.3
	x := New()
	for _, b := range short(4096) {
		seal := slowSeal(b, slowSum(b))
		step := 1 + len(seal)/200 // of long ones some, and all at the end
		for from := range len(seal) * 8 {
			if from%step == 0 || len(seal)*8-from <= 64 {
				wantTold(t, &x, seal, from, 1)
			}
		}
		wantOpen(t, &x, seal, b)
	}
}

func TestBurstsTurned(t *testing.T) { // P4.3: of each length to 32, wherever they stand
	x := New()
	from := rand.New(rand.NewSource(5))
	for _, b := range short(40) {
		seal := slowSeal(b, slowSum(b))
		many := len(seal) * 8
		for at := range many {
			for length := 1; length <= min(32, many-at); length++ {
				all := uint64(1)<<length - 1
				ends := uint64(1) | 1<<(length-1)
				wantTold(t, &x, seal, at, all)
				wantTold(t, &x, seal, at, ends)
				for range 4 {
					wantTold(t, &x, seal, at, ends|from.Uint64()&all)
				}
			}
		}
		wantOpen(t, &x, seal, b)
	}
}

func TestShortBurstsTurned(t *testing.T) { // P4.3: each pattern of up to 12 bits, also across the end of what is sealed
	x := New()
	seal := slowSeal([]byte("123456789"), slowSum([]byte("123456789")))
	for from := range len(seal)*8 - 11 {
		for pattern := uint64(1); pattern < 1<<12; pattern += 2 {
			wantTold(t, &x, seal, from, pattern)
		}
	}
	wantOpen(t, &x, seal, []byte("123456789"))
}

func TestBurstsInLong(t *testing.T) { // P4.3: at the front, in the midst and at the end of the greatest file
	x := New()
	b := make([]byte, api.MaxFile)
	rand.New(rand.NewSource(6)).Read(b)
	seal := slowSeal(b, slowSum(b))
	for _, from := range []int{0, 1, 8*len(b)/2 + 3, 8*len(b) - 31, 8*len(b) - 16, 8*len(b) - 1, 8 * len(b)} {
		for _, pattern := range []uint64{1, 1<<31 | 1, 1<<32 - 1, 0x82f63b78 | 1} {
			wantTold(t, &x, seal, from, pattern)
		}
	}
}

// TestBurstOf33: a burst of 32 is the longest that is always told: the table's
// own polynomial, 33 bits, makes another seal wherever it stands. It holds the
// order of the bits, in a byte and in the sum, against the chapter's words.
func TestBurstOf33(t *testing.T) { // P4.1, P4.2
	const own = 0x82f63b78<<1 | 1
	x := New()
	for _, b := range short(40) {
		seal := slowSeal(b, slowSum(b))
		for from := range len(seal)*8 - 32 {
			turn(seal, from, own)
			wantOpen(t, &x, seal, seal[:len(b)])
			turn(seal, from, own)
			wantTold(t, &x, seal, from, own^1)
			wantTold(t, &x, seal, from, own^1<<32)
		}
	}
}

// TestHandedInIsLeft: what is handed in, and the spare room behind it, stays
// as it was, with the table, and what is answered is the caller's own.
func TestHandedInIsLeft(t *testing.T) { // R7
	x := New()
	room := []byte("123456789\x83\x92\x06\xe3 and room")
	b := bytes.Clone(room)

	x.Sum(b[:9])
	first, second := x.Seal(b[:9]), x.Seal(b[:9])
	opened, _ := x.Open(b[:13])
	other, _ := x.Open(b[:13])
	none, _ := x.Open(x.Seal(nil))
	for _, answer := range [][]byte{first, opened, none} {
		clear(answer[:cap(answer)])
	}
	if !bytes.Equal(b, room) {
		t.Errorf("handed in is now %q", b)
	}
	clear(b)
	if string(second) != "123456789\x83\x92\x06\xe3" || string(other) != "123456789" {
		t.Errorf("an answer went with another, or with what was handed in: %q, %q", second, other)
	}
	if x != New() {
		t.Errorf("the table is not as it was")
	}
}

// TestRoomIsNotRead: what stands behind the end is not the list's.
func TestRoomIsNotRead(t *testing.T) { // R6
	x := New()
	for _, b := range short(40) {
		for _, behind := range []byte{0, 0xff, 0x31} {
			room := append(bytes.Clone(b), bytes.Repeat([]byte{behind}, 16)...)[:len(b)]
			if got := x.Seal(room); x.Sum(room) != slowSum(b) || !bytes.Equal(got, slowSeal(b, slowSum(b))) {
				t.Errorf("with room behind %x: %x", b, got)
			}
		}
		seal := slowSeal(b, slowSum(b))
		wantNoOpen(t, &x, seal[:len(seal)-1])
		wantOpen(t, &x, append(seal, "behind"...)[:len(seal)], b)
	}
}

func FuzzSeal(f *testing.F) { // P4.1 to P4.3
	f.Add([]byte(nil), uint16(0), uint32(1))
	f.Add([]byte("123456789"), uint16(60), uint32(0xffffffff))
	x := New()
	f.Fuzz(func(t *testing.T, b []byte, from uint16, pattern uint32) {
		seal := x.Seal(b)
		if !bytes.Equal(seal, slowSeal(b, slowSum(b))) {
			t.Fatalf("Seal(%x) = %x", b, seal)
		}
		wantOpen(t, &x, seal, b)
		if at := int(from) % (len(b)*8 + 1); pattern != 0 {
			wantTold(t, &x, seal, at, uint64(pattern))
		}
	})
}

func FuzzOpen(f *testing.F) { // P4.2
	f.Add([]byte(nil))
	f.Add([]byte("\x00\x00\x00\x00"))
	f.Add([]byte("123456789\x83\x92\x06\xe3"))
	f.Add([]byte("123456789\x83\x92\x06"))
	x := New()
	f.Fuzz(func(t *testing.T, b []byte) {
		if isSeal(b) {
			wantOpen(t, &x, b, b[:len(b)-4])
		} else {
			wantNoOpen(t, &x, b)
		}
	})
}
