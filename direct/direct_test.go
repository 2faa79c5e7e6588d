package direct

import (
	"bytes"
	"fmt"
	"math"
	"math/big"
	"math/rand"
	"slices"
	"strconv"
	"strings"
	"testing"

	"pilaster/api"
)

// allWidths are the widths at the places of their codes, as chapter 2 has them.
var allWidths = []int{
	1, 2, 3, 4, 5, 6, 7, 8, 9, 10, 11, 12, 13, 14, 15, 16,
	17, 18, 19, 20, 21, 22, 23, 24, 26, 28, 30, 32, 40, 48, 56, 64,
}

// rests: what may stand behind.
var rests = []string{"", "\x00", "\xff", "\x00\x00", "\x40\x00\x80", "\x5e\x03 and more"}

// far: numbers at the ends of what an int may be, and about powers of two.
var far = []int{
	math.MinInt, math.MinInt + 1, -1 << 62, -1 << 32, -1<<32 + 1, -65536, -513, -512, -256, -32, -4, -1,
	1 << 16, 1<<16 + 1, 1 << 32, 1<<32 + 1, 1<<32 + 31, 1 << 62, math.MaxInt - 1, math.MaxInt,
}

// edges are the numbers about each power of two, of both signs.
func edges() []int {
	l := []int{math.MinInt, math.MinInt + 1, math.MaxInt - 1, math.MaxInt}
	for i := range 63 {
		for d := -2; d <= 2; d++ {
			l = append(l, 1<<i+d, -1<<i+d)
		}
	}
	return l
}

// octets are the bytes of bits that are written out, eight in a byte, the
// highest first, noughts behind the last one.
func octets(bits string) []byte {
	out := []byte{}
	for len(bits) > 0 {
		n := min(8, len(bits))
		c, _ := strconv.ParseUint(bits[:n]+strings.Repeat("0", 8-n), 2, 8)
		out, bits = append(out, byte(c)), bits[n:]
	}
	return out
}

// written are the bits of bytes, written out.
func written(b []byte) string {
	var s strings.Builder
	for _, c := range b {
		fmt.Fprintf(&s, "%08b", c)
	}
	return s.String()
}

// said is the number that bits say that are written out.
func said(bits string) uint64 {
	u, _ := strconv.ParseUint("0"+bits, 2, 64)
	return u
}

// slowHead is a head, field by field; nothing, if one of them is none.
func slowHead(kind, code, many int) []byte {
	if !slices.Contains([]int{0, 1, 2, 3}, kind) || code < 0 || code > 31 || many < 1 || many > 512 {
		return nil
	}
	return octets(fmt.Sprintf("%02b%05b%09b", kind, code, many-1))
}

// slowPlain is how a number stands: itself, or 2 x, or -2 x - 1.
func slowPlain(x int, signed bool) *big.Int {
	u := big.NewInt(int64(x))
	if signed {
		u.Mul(u, big.NewInt(2))
		if x < 0 {
			u.Neg(u)
			u.Sub(u, big.NewInt(1))
		}
	}
	return u
}

// slowMade is the number that stands as u, and whether it is one.
func slowMade(u uint64, signed bool) (int, bool) {
	x := new(big.Int).SetUint64(u)
	if signed {
		odd := x.Bit(0) == 1
		if x.Div(x, big.NewInt(2)); odd {
			x.Add(x, big.NewInt(1))
			x.Neg(x)
		}
	}
	return int(x.Int64()), x.IsInt64()
}

// closest is the code of the least width with room for all numbers, which are
// not below 0.
func closest(plain []*big.Int) int {
	for code, w := range allWidths {
		if !slices.ContainsFunc(plain, func(u *big.Int) bool { return u.BitLen() > w }) {
			return code
		}
	}
	return -1
}

// slowPutAt is the chapter's words, bit by bit, with the width of any code;
// whether numbers may be laid down so.
func slowPutAt(l []int, signed bool, code int) ([]byte, bool) {
	if len(l) < 1 || len(l) > 512 {
		return nil, false
	}
	var bits strings.Builder
	for _, x := range l {
		u := slowPlain(x, signed)
		if u.Sign() < 0 || u.BitLen() > allWidths[code] {
			return nil, false
		}
		fmt.Fprintf(&bits, "%0*s", allWidths[code], u.Text(2))
	}
	return append(slowHead(1, code, len(l)), octets(bits.String())...), true
}

// slowPut is the same with the least width that has room.
func slowPut(l []int, signed bool) ([]byte, bool) {
	plain := []*big.Int{}
	for _, x := range l {
		u := slowPlain(x, signed)
		if u.Sign() < 0 {
			return nil, false
		}
		plain = append(plain, u)
	}
	return slowPutAt(l, signed, closest(plain))
}

// slowTake is what b begins with, bit by bit, and whether that is such a run.
func slowTake(b []byte, signed bool) (l []int, rest []byte, ok bool) {
	bits := written(b)
	if len(bits) < 16 || bits[:2] != "01" {
		return nil, nil, false
	}
	w, many := allWidths[said(bits[2:7])], int(said(bits[7:16]))+1
	bits = bits[16:]
	for range many {
		if len(bits) < w {
			return nil, nil, false
		}
		x, ok := slowMade(said(bits[:w]), signed)
		if !ok {
			return nil, nil, false
		}
		l, bits = append(l, x), bits[w:]
	}
	spare := len(bits) % 8
	if strings.Contains(bits[:spare], "1") {
		return nil, nil, false
	}
	return l, b[len(b)-len(bits)/8:], true
}

// wantLook asks that b is read as this, whatever stands behind.
func wantLook(t *testing.T, b []byte, kind, code, many int) {
	t.Helper()
	for _, rest := range rests {
		k, c, n, behind, e := Look(append(bytes.Clone(b), rest...))
		if k != kind || c != code || n != many || string(behind) != rest || e != api.OK {
			t.Fatalf("Look(%x) with %x behind = %d, %d, %d, %x, %d; want %d, %d, %d", b, rest, k, c, n, behind, e, kind, code, many)
		}
	}
}

// wantNoLook asks that Look refuses b, with nothing beside the error.
func wantNoLook(t *testing.T, b []byte) {
	t.Helper()
	if k, c, n, rest, e := Look(b); k != 0 || c != 0 || n != 0 || len(rest) != 0 || e != api.ErrCorrupt {
		t.Fatalf("Look(%x) = %d, %d, %d, %x, %d; want ErrCorrupt", b, k, c, n, rest, e)
	}
}

// checkHead holds Head against the slower reckoning, and Look against Head.
func checkHead(t *testing.T, kind, code, many int) {
	t.Helper()
	want := slowHead(kind, code, many)
	if got := Head(kind, code, many); !bytes.Equal(got, want) {
		t.Fatalf("Head(%d, %d, %d) = %x, want %x", kind, code, many, got, want)
	}
	if len(want) > 0 {
		wantLook(t, want, kind, code, many)
	}
}

// wantPlain asks that l stands as want, and is made of it.
func wantPlain(t *testing.T, l []int, signed bool, want []uint64) {
	t.Helper()
	if got, e := Plain(l, signed); !slices.Equal(got, want) || e != api.OK {
		t.Fatalf("Plain(%d, %v) = %d, %d; want %d", l, signed, got, e, want)
	}
	if got, e := Made(want, signed); !slices.Equal(got, l) || e != api.OK {
		t.Fatalf("Made(%d, %v) = %d, %d; want %d", want, signed, got, e, l)
	}
}

// wantNoPlain asks that Plain refuses l, with nothing beside the error.
func wantNoPlain(t *testing.T, l []int, signed bool) {
	t.Helper()
	if got, e := Plain(l, signed); len(got) != 0 || e != api.ErrArg {
		t.Fatalf("Plain(%d, %v) = %d, %d; want ErrArg", l, signed, got, e)
	}
}

// wantNoMade asks that Made refuses l, with nothing beside the error.
func wantNoMade(t *testing.T, l []uint64, signed bool) {
	t.Helper()
	if got, e := Made(l, signed); len(got) != 0 || e != api.ErrCorrupt {
		t.Fatalf("Made(%d, %v) = %d, %d; want ErrCorrupt", l, signed, got, e)
	}
}

// wantTake asks that b is taken as l, whatever stands behind.
func wantTake(t *testing.T, b []byte, signed bool, l []int) {
	t.Helper()
	for _, rest := range rests {
		got, behind, e := Take(append(bytes.Clone(b), rest...), signed)
		if !slices.Equal(got, l) || string(behind) != rest || e != api.OK {
			t.Fatalf("Take(%x, %v) with %x behind = %d, %x, %d; want %d", b, signed, rest, got, behind, e, l)
		}
	}
}

// wantNoTake asks that Take refuses b, with nothing beside the error.
func wantNoTake(t *testing.T, b []byte, signed bool) {
	t.Helper()
	if l, rest, e := Take(b, signed); len(l) != 0 || len(rest) != 0 || e != api.ErrCorrupt {
		t.Fatalf("Take(%x, %v) = %d, %x, %d; want ErrCorrupt", b, signed, l, rest, e)
	}
}

// wantPut asks that l is laid down as want, and taken back from it.
func wantPut(t *testing.T, l []int, signed bool, want []byte) {
	t.Helper()
	if got, e := Put(l, signed); !bytes.Equal(got, want) || e != api.OK {
		t.Fatalf("Put(%d, %v) = %x, %d; want %x", l, signed, got, e, want)
	}
	wantTake(t, want, signed, l)
}

// wantNoPut asks that Put refuses l, with nothing beside the error.
func wantNoPut(t *testing.T, l []int, signed bool) {
	t.Helper()
	if got, e := Put(l, signed); len(got) != 0 || e != api.ErrArg {
		t.Fatalf("Put(%d, %v) = %x, %d; want ErrArg", l, signed, got, e)
	}
}

// checkPut holds Put against the slower reckoning, whatever is handed in.
func checkPut(t *testing.T, l []int, signed bool) {
	t.Helper()
	if want, ok := slowPut(l, signed); ok {
		wantPut(t, l, signed, want)
	} else {
		wantNoPut(t, l, signed)
	}
}

// checkTake holds Take against the slower reckoning, whatever b is.
func checkTake(t *testing.T, b []byte) {
	t.Helper()
	for _, signed := range []bool{false, true} {
		l, behind, ok := slowTake(b, signed)
		if !ok {
			wantNoTake(t, b, signed)
			continue
		}
		if got, rest, e := Take(b, signed); !slices.Equal(got, l) || !bytes.Equal(rest, behind) || e != api.OK {
			t.Fatalf("Take(%x, %v) = %d, %x, %d; want %d, %x", b, signed, got, rest, e, l, behind)
		}
	}
}

// alike are so many of the same number.
func alike(many, x int) []int { return slices.Repeat([]int{x}, many) }

// with is l, with x at place i.
func with(l []int, i, x int) []int {
	l = slices.Clone(l)
	l[i] = x
	return l
}

// someNumber is one of at most so many bits, of both signs.
func someNumber(from *rand.Rand, bits int, signed bool) int {
	x := int(from.Uint64() >> (64 - bits) >> from.Intn(bits))
	if signed && from.Intn(2) == 0 {
		return ^x
	}
	return x
}

func TestHead(t *testing.T) { // P8.1: by hand
	for _, c := range []struct {
		kind, code, many int
		want             string
	}{
		{1, 15, 4, "\x5e\x03"}, // of the chapter's
		{0, 0, 1, "\x00\x00"},
		{0, 0, 2, "\x00\x01"},
		{0, 0, 256, "\x00\xff"},
		{0, 0, 257, "\x01\x00"},
		{0, 0, 512, "\x01\xff"},
		{0, 1, 1, "\x02\x00"},
		{0, 31, 1, "\x3e\x00"},
		{1, 0, 1, "\x40\x00"},
		{2, 0, 1, "\x80\x00"},
		{3, 0, 1, "\xc0\x00"},
		{2, 7, 10, "\x8e\x09"}, // of chapter 10's
		{3, 1, 10, "\xc2\x09"},
		{3, 31, 512, "\xff\xff"},
	} {
		if got := Head(c.kind, c.code, c.many); string(got) != c.want {
			t.Errorf("Head(%d, %d, %d) = %x, want %x", c.kind, c.code, c.many, got, c.want)
		}
		wantLook(t, []byte(c.want), c.kind, c.code, c.many)
	}
}

func TestHeadEdges(t *testing.T) { // P8.1: each edge of each number, with each of the others
	kinds := append([]int{-1, 0, 1, 2, 3, 4, 5}, far...)
	codes := append([]int{-1, 0, 1, 15, 30, 31, 32, 33, 63, 64}, far...)
	counts := append([]int{-511, 0, 1, 2, 256, 257, 511, 512, 513, 514, 1024, 1025}, far...)
	for _, kind := range kinds {
		for _, code := range codes {
			for _, many := range counts {
				checkHead(t, kind, code, many)
			}
		}
	}
	for _, h := range [][]byte{Head(-1, 0, 1), Head(4, 0, 1), Head(0, -1, 1), Head(0, 32, 1), Head(0, 0, 0), Head(0, 0, 513)} {
		if len(h) != 0 {
			t.Errorf("a head that is none: %x", h)
		}
	}
}

func TestLookOfHeads(t *testing.T) { // P8.1: of all kinds, codes and counts; each has its own head
	seen := map[string]bool{}
	for kind := range 4 {
		for code := range 32 {
			for many := 1; many <= 512; many++ {
				h := Head(kind, code, many)
				if k, c, n, rest, e := Look(h); k != kind || c != code || n != many || len(rest) != 0 || e != api.OK {
					t.Fatalf("Look(Head(%d, %d, %d)) = %d, %d, %d, %x, %d", kind, code, many, k, c, n, rest, e)
				}
				seen[string(h)] = true
			}
		}
	}
	if len(seen) != 1<<16 {
		t.Errorf("%d heads, want all of two bytes", len(seen))
	}
}

func TestLookOfTwoBytes(t *testing.T) { // P8.1: all two bytes are a head, and no fewer
	wantNoLook(t, nil)
	wantNoLook(t, []byte{})
	wantNoLook(t, []byte("\x5e\x03")[:0])
	for c := range 256 {
		wantNoLook(t, []byte{byte(c)})
		wantNoLook(t, []byte{byte(c), 3}[:1])
		for d := range 256 {
			b := []byte{byte(c), byte(d)}
			kind, code, many, rest, e := Look(b)
			if want := slowHead(kind, code, many); !bytes.Equal(b, want) || len(rest) != 0 || e != api.OK {
				t.Fatalf("Look(%x) = %d, %d, %d, %x, %d: its head is %x", b, kind, code, many, rest, e, want)
			}
		}
	}
	wantLook(t, []byte("\x5e\x03"), 1, 15, 4)
	wantLook(t, []byte("\x00\x00"), 0, 0, 1)
	wantLook(t, []byte("\xff\xff"), 3, 31, 512)
}

func TestPlainAndMade(t *testing.T) { // P8.2: by hand
	wantPlain(t, nil, false, nil)
	wantPlain(t, nil, true, nil)
	wantPlain(t, []int{}, true, []uint64{})
	wantPlain(t, []int{0}, false, []uint64{0})
	wantPlain(t, []int{0}, true, []uint64{0})
	wantPlain(t, []int{7}, false, []uint64{7})
	wantPlain(t, []int{7}, true, []uint64{14})
	wantPlain(t, []int{-7}, true, []uint64{13})
	wantPlain(t, []int{-2, 2}, true, []uint64{3, 4})
	wantPlain(t, []int{-1, 1, 0}, true, []uint64{1, 2, 0})
	wantPlain(t, []int{3, 0, 2, 1}, false, []uint64{3, 0, 2, 1})
	wantPlain(t, []int{math.MaxInt}, false, []uint64{1<<63 - 1})
	wantPlain(t, []int{math.MaxInt, 0, math.MaxInt}, false, []uint64{1<<63 - 1, 0, 1<<63 - 1})
	wantPlain(t, []int{math.MaxInt, math.MinInt}, true, []uint64{1<<64 - 2, 1<<64 - 1})
	wantPlain(t, []int{1 << 62, -1 << 62, -1<<62 - 1, 1<<62 - 1}, true, []uint64{1 << 63, 1<<63 - 1, 1<<63 + 1, 1<<63 - 2})
}

func TestPlainOfEdges(t *testing.T) { // P8.2: one by one, and all together, held against the slower reckoning
	var all, positive []int
	var signed, unsigned []uint64
	for _, x := range edges() {
		u := slowPlain(x, true).Uint64()
		wantPlain(t, []int{x}, true, []uint64{u})
		all, signed = append(all, x), append(signed, u)
		if x < 0 {
			wantNoPlain(t, []int{x}, false)
			continue
		}
		wantPlain(t, []int{x}, false, []uint64{uint64(x)})
		positive, unsigned = append(positive, x), append(unsigned, uint64(x))
	}
	wantPlain(t, all, true, signed)
	wantPlain(t, positive, false, unsigned)
	wantNoPlain(t, all, false)
}

func TestPlainOfMany(t *testing.T) { // P8.2: there is no bound
	for _, many := range []int{511, 512, 513, 4096, 4097, 10000} {
		l, want, zigs := make([]int, many), make([]uint64, many), make([]uint64, many)
		for i := range many {
			l[i], want[i], zigs[i] = i, uint64(i), uint64(2*i)
		}
		wantPlain(t, l, false, want)
		wantPlain(t, l, true, zigs)
	}
}

func TestPlainOfNumbersBelowZero(t *testing.T) { // P8.2: the wrong one first, in the middle, last
	for _, many := range []int{1, 2, 3, 9, 512, 600} {
		for _, x := range []int{-1, -2, -1 << 62, math.MinInt + 1, math.MinInt} {
			for _, i := range []int{0, many / 2, many - 1} {
				l := with(alike(many, 5), i, x)
				wantNoPlain(t, l, false)
				if got, e := Plain(l, true); len(got) != many || got[i] != slowPlain(x, true).Uint64() || e != api.OK {
					t.Errorf("Plain(%d, true) = %d, %d", l, got, e)
				}
			}
			wantNoPlain(t, alike(many, x), false)
		}
	}
}

func TestMadeOfGreatNumbers(t *testing.T) { // P8.2: 2^63 and above, first, in the middle, last
	for _, many := range []int{1, 2, 3, 9, 512, 600} {
		for _, u := range []uint64{1 << 63, 1<<63 + 1, 1<<64 - 2, 1<<64 - 1} {
			x, _ := slowMade(u, true)
			for _, i := range []int{0, many / 2, many - 1} {
				l := slices.Repeat([]uint64{8}, many)
				l[i] = u
				wantNoMade(t, l, false)
				if got, e := Made(l, true); !slices.Equal(got, with(alike(many, 4), i, x)) || e != api.OK {
					t.Errorf("Made(%d, true) = %d, %d", l, got, e)
				}
				l[i] = 1<<63 - 1
				if got, e := Made(l, false); !slices.Equal(got, with(alike(many, 8), i, math.MaxInt)) || e != api.OK {
					t.Errorf("Made(%d, false) = %d, %d", l, got, e)
				}
			}
		}
	}
	wantNoMade(t, []uint64{1 << 63, 1 << 63}, false)
}

func TestPutAndTake(t *testing.T) { // P8.3, P8.4: the chapter's, and others by hand
	for _, c := range []struct {
		l      []int
		signed bool
		want   string
	}{
		{[]int{23713, 43806, 57005, 48879}, false, "\x5e\x03\x5c\xa1\xab\x1e\xde\xad\xbe\xef"}, // the chapter's
		{[]int{0}, false, "\x40\x00\x00"},
		{[]int{0}, true, "\x40\x00\x00"},
		{[]int{1}, false, "\x40\x00\x80"}, // chapter 11's
		{[]int{1}, true, "\x42\x00\x80"},
		{[]int{-1}, true, "\x40\x00\x80"},
		{[]int{-1, 1, 0}, true, "\x42\x02\x60"},
		{[]int{0, 0, 0, 0, 0, 0, 0, 0}, false, "\x40\x07\x00"},
		{[]int{1, 0, 0, 0, 0, 0, 0, 1, 1}, false, "\x40\x08\x81\x80"},
		{[]int{255, 0}, false, "\x4e\x01\xff\x00"},
		{[]int{127, -128}, true, "\x4e\x01\xfe\xff"},
		{[]int{256, 1}, false, "\x50\x01\x80\x00\x40"},
		{[]int{1 << 24}, false, "\x70\x00\x40\x00\x00\x00"},
		{[]int{1 << 32}, false, "\x78\x00\x01\x00\x00\x00\x00"},
		{[]int{1<<56 - 1}, false, "\x7c\x00\xff\xff\xff\xff\xff\xff\xff"},
		{[]int{1 << 56}, false, "\x7e\x00\x01\x00\x00\x00\x00\x00\x00\x00"},
		{[]int{math.MaxInt}, false, "\x7e\x00\x7f\xff\xff\xff\xff\xff\xff\xff"},
		{[]int{math.MaxInt}, true, "\x7e\x00\xff\xff\xff\xff\xff\xff\xff\xfe"},
		{[]int{math.MinInt}, true, "\x7e\x00\xff\xff\xff\xff\xff\xff\xff\xff"},
		{[]int{math.MinInt, 0}, true, "\x7e\x01\xff\xff\xff\xff\xff\xff\xff\xff\x00\x00\x00\x00\x00\x00\x00\x00"},
	} {
		wantPut(t, c.l, c.signed, []byte(c.want))
		checkPut(t, c.l, c.signed)
		for n := range c.want {
			wantNoTake(t, []byte(c.want)[:n], c.signed)
		}
	}
}

// widest are numbers that need just so many bits as they stand: the least and
// the greatest one.
func widest(bits int, signed bool) []int {
	least, _ := slowMade(1<<(bits-1), signed)
	greatest, _ := slowMade(1<<(bits-1)|(1<<(bits-1)-1), signed)
	return []int{least, greatest}
}

func TestEachWidth(t *testing.T) { // P8.3, P8.4: the code is of the least width with room, whichever number needs it
	for _, signed := range []bool{false, true} {
		code := 0
		for bits := 1; bits <= 64; bits++ {
			if bits > allWidths[code] {
				code++
			}
			if bits == 64 && !signed {
				continue // no int stands so
			}
			for _, x := range widest(bits, signed) {
				for _, many := range []int{1, 2, 3, 7, 8, 9, 65} {
					for _, i := range []int{0, many / 2, many - 1} {
						l := with(alike(many, 0), i, x)
						checkPut(t, l, signed)
						checkPut(t, with(alike(many, x), i, 0), signed)
						b, _ := Put(l, signed)
						if len(b) != 2+(many*allWidths[code]+7)/8 || !bytes.Equal(b[:2], slowHead(1, code, many)) {
							t.Fatalf("Put(%d, %v) = %x: want the code %d", l, signed, b, code)
						}
					}
				}
			}
		}
	}
}

func TestEachWidthOfMixedNumbers(t *testing.T) { // P8.3, P8.4
	from := rand.New(rand.NewSource(1))
	for _, signed := range []bool{false, true} {
		for bits := 1; bits <= 63; bits++ {
			for _, many := range []int{1, 2, 5, 8, 13, 64, 100} {
				l := make([]int, many)
				for i := range l {
					l[i] = someNumber(from, bits, signed)
				}
				checkPut(t, l, signed)
			}
		}
	}
}

func TestPutOfCounts(t *testing.T) { // P8.3: 1 to 512 numbers
	wantNoPut(t, nil, false)
	wantNoPut(t, nil, true)
	wantNoPut(t, []int{}, false)
	wantNoPut(t, []int{1, 2}[:0], true)
	for _, x := range []int{0, 1, 5, 300, math.MaxInt, -1, math.MinInt} {
		for _, many := range []int{1, 2, 255, 256, 257, 511, 512} {
			checkPut(t, alike(many, x), true)
			checkPut(t, alike(many, x), false)
		}
		for _, many := range []int{513, 514, 1024, 1025, 4096, 4097, 70000} {
			wantNoPut(t, alike(many, x), true)
			wantNoPut(t, alike(many, x), false)
		}
	}
	wantPut(t, alike(512, 1), false, []byte("\x41\xff"+strings.Repeat("\xff", 64)))
	wantPut(t, alike(511, 1), false, []byte("\x41\xfe"+strings.Repeat("\xff", 63)+"\xfe"))
}

func TestPutOfNumbersBelowZero(t *testing.T) { // P8.3: not signed, the wrong one first, in the middle, last
	for _, many := range []int{1, 2, 3, 9, 511, 512} {
		for _, x := range []int{-1, -2, -129, math.MinInt + 1, math.MinInt} {
			for _, i := range []int{0, many / 2, many - 1} {
				l := with(alike(many, 6), i, x)
				wantNoPut(t, l, false)
				checkPut(t, l, true)
			}
		}
	}
}

func TestTakeCut(t *testing.T) { // P8.3: at each place, with each code; the room behind the end is not the list's
	for code := range 32 {
		for _, many := range []int{1, 2, 3, 8, 9, 17} {
			b, _ := slowPutAt(alike(many, 1), false, code)
			for n := range b {
				wantNoTake(t, b[:n], false)
				wantNoTake(t, b[:n], true)
				wantNoTake(t, bytes.Clone(b[:n]), true)
			}
			wantTake(t, b, false, alike(many, 1))
			wantTake(t, b, true, alike(many, -1))
		}
	}
	wantNoTake(t, nil, false)
	wantNoTake(t, nil, true)
	wantNoTake(t, []byte{}, true)
}

func TestTakeOfOtherKinds(t *testing.T) { // P8.3: a head of each other kind, with numbers behind
	for code := range 32 {
		for _, many := range []int{1, 2, 8, 512} {
			b, _ := slowPutAt(alike(many, 1), false, code)
			for kind := range 4 {
				h := append(slowHead(kind, code, many), b[2:]...)
				for _, rest := range rests {
					h := append(bytes.Clone(h), rest...)
					if kind != 1 {
						wantNoTake(t, h, false)
						wantNoTake(t, h, true)
					}
					checkTake(t, h)
				}
			}
		}
	}
	wantNoTake(t, []byte("\x02\x0e"), true) // repeat's
	wantNoTake(t, []byte("\x0a\x27\x10"), false)
	wantNoTake(t, []byte("\xc4\x09\x02\x02\x4a\x28\xa6"), false) // delta's
	wantNoTake(t, []byte("\x8e\x09\x2b\x21\x07\xd0\x1e\x00\x14\x70\x28\x32\x3c\x46\x50\x5a\xfc\xe8"), false)
}

func TestTakeOfWideCodes(t *testing.T) { // P8.3: the numbers may stand in more bits than they need
	for code := range 32 {
		for _, l := range [][]int{{0}, {1}, {1, 0, 1}, alike(8, 1), alike(9, 0), alike(512, 1), {0, 1, 2, 3}, {200, 100, 255}, {1 << 24, 5}, {1 << 50}} {
			for _, signed := range []bool{false, true} {
				if b, ok := slowPutAt(l, signed, code); ok {
					wantTake(t, b, signed, l)
					checkTake(t, b)
				}
			}
		}
	}
	wantTake(t, []byte("\x4e\x01\x01\x00"), false, []int{1, 0})
	wantTake(t, []byte("\x7e\x00\x00\x00\x00\x00\x00\x00\x00\x00"), true, []int{0})
}

func TestTakeOfBitsLeftOver(t *testing.T) { // P8.3: each bit behind the last number in its byte is 0
	for code, w := range allWidths {
		for _, many := range []int{1, 2, 3, 4, 5, 6, 7, 8, 9, 511, 512} {
			b, _ := slowPutAt(alike(many, 1), false, code)
			for bit := range (8 - many*w%8) % 8 {
				b[len(b)-1] ^= 1 << bit
				for _, rest := range rests {
					wantNoTake(t, append(bytes.Clone(b), rest...), false)
					wantNoTake(t, append(bytes.Clone(b), rest...), true)
				}
				b[len(b)-1] ^= 1 << bit
			}
			wantTake(t, b, false, alike(many, 1)) // what stands behind that byte is another's
		}
	}
	wantNoTake(t, []byte("\x40\x00\x01"), false)
	wantNoTake(t, []byte("\x40\x00\x40"), true)
	wantNoTake(t, []byte("\x42\x02\x61"), true)
}

func TestTakeOfGreatNumbers(t *testing.T) { // P8.3: 2^63 and above: of numbers that are signed alone
	for _, many := range []int{1, 2, 3, 9, 512} {
		for _, u := range []uint64{1<<63 - 1, 1 << 63, 1<<63 + 1, 1<<64 - 2, 1<<64 - 1} {
			for _, i := range []int{0, many / 2, many - 1} {
				bits := strings.Repeat("0", 64*i) + fmt.Sprintf("%064b", u) + strings.Repeat("0", 64*(many-1-i))
				b := append(slowHead(1, 31, many), octets(bits)...)
				x, _ := slowMade(u, true)
				wantTake(t, b, true, with(alike(many, 0), i, x))
				if u == 1<<63-1 {
					wantTake(t, b, false, with(alike(many, 0), i, math.MaxInt))
					continue
				}
				for _, rest := range rests {
					wantNoTake(t, append(bytes.Clone(b), rest...), false)
				}
			}
		}
	}
	wantTake(t, []byte("\x7c\x00\xff\xff\xff\xff\xff\xff\xff"), false, []int{1<<56 - 1}) // its highest bit is no 2^63
}

func TestTwoWrong(t *testing.T) { // R3
	for _, h := range [][]byte{Head(-1, 32, 1), Head(4, -1, 513), Head(0, 32, 0), Head(4, 32, 513), Head(-1, -1, 0)} { // P8.1
		if len(h) != 0 {
			t.Errorf("a head that is none: %x", h)
		}
	}
	wantNoPlain(t, []int{-1, 5, math.MinInt}, false)                   // P8.2
	wantNoMade(t, []uint64{1 << 63, 5, 1<<64 - 1}, false)              // P8.2
	wantNoPut(t, alike(513, -1), false)                                // P8.3: too many, below 0
	wantNoPut(t, with(alike(513, 0), 512, -1), false)                  // the one below 0 is the one too many
	wantNoPut(t, []int{-1, math.MinInt}, false)                        // two below 0
	wantNoPut(t, alike(4097, math.MinInt), false)                      // more than bits.Pack takes, too
	wantNoTake(t, []byte("\xc0"), false)                               // of another kind, and cut
	wantNoTake(t, []byte("\x80\x00"), true)                            // of another kind, and no numbers
	wantNoTake(t, []byte("\xc0\x00\x01"), true)                        // of another kind, and a bit left over
	wantNoTake(t, []byte("\x40\x08\xff"), true)                        // cut, and bits left over
	wantNoTake(t, []byte("\x7e\x01"+strings.Repeat("\xff", 8)), false) // cut, and 2^63 and above
	wantNoTake(t, []byte("\x3e\x00"+strings.Repeat("\xff", 8)), false) // of another kind, and 2^63 and above
}

func TestTakeOfShortBytes(t *testing.T) { // P8.3: none, one, two, and all heads with some bytes behind
	checkTake(t, nil)
	for c := range 256 {
		checkTake(t, []byte{byte(c)})
		for d := range 256 {
			checkTake(t, []byte{byte(c), byte(d)})
		}
		for _, d := range []byte{0, 1, 2, 7, 8, 0x7f, 0xff} {
			for _, rest := range []string{"\x00", "\x01", "\x80", "\xff", "\x80\x00", "\xff\xff\xff", "\x12\x34\x56\x78\x9a\xbc\xde\xf0\x12", "\x80\x00\x00\x00\x00\x00\x00\x00\xff\xff\xff\xff\xff\xff\xff\xff"} {
				checkTake(t, append([]byte{byte(c), d}, rest...))
			}
		}
	}
}

func TestSomeNumbers(t *testing.T) { // P8.3, P8.4: with a bit turned, too, and cut
	from := rand.New(rand.NewSource(2))
	for range 6000 {
		signed := from.Intn(2) == 0
		bits, l := 1+from.Intn(63), make([]int, 1+from.Intn(40))
		for i := range l {
			l[i] = someNumber(from, bits, signed)
		}
		checkPut(t, l, signed)
		b, _ := slowPut(l, signed)
		b = append(b, "behind it all"...)
		checkTake(t, b[:from.Intn(len(b))])
		b[from.Intn(len(b))] ^= byte(1 << from.Intn(8))
		checkTake(t, b)
	}
}

func TestOneBehindAnother(t *testing.T) { // P8.4: what stands behind is taken next
	from := rand.New(rand.NewSource(3))
	var all [][]int
	var together []byte
	for n := range 300 {
		l := make([]int, 1+from.Intn(30))
		for i := range l {
			l[i] = someNumber(from, 1+n%63, true)
		}
		b, e := Put(l, true)
		if e != api.OK {
			t.Fatalf("Put(%d, true): %d", l, e)
		}
		all, together = append(all, l), append(together, b...)
	}
	for _, l := range all {
		got, rest, e := Take(together, true)
		if !slices.Equal(got, l) || e != api.OK {
			t.Fatalf("Take = %d, %d; want %d", got, e, l)
		}
		together = rest
	}
	if len(together) != 0 {
		t.Errorf("left: %x", together)
	}
}

// TestNumbersAreLeft: numbers that are handed in, and the room behind them,
// stay as they were, and what is answered is the caller's own.
func TestNumbersAreLeft(t *testing.T) { // R7
	for _, numbers := range [][]int{{3, 1, 2, 9, 9, 9}, {3, 1, -2, 9, 9, 9}, {-1, 5, 6, -7, 8, 9}} {
		for n := range len(numbers) + 1 { // some are refused
			for _, signed := range []bool{false, true} {
				l := slices.Clone(numbers)
				plain, _ := Plain(l[:n], signed)
				put, _ := Put(l[:n], signed)
				other, _ := Plain(l[:n], signed)
				another, _ := Put(l[:n], signed)
				wantPlain, wantPut := slices.Clone(plain), bytes.Clone(put)
				clear(plain[:cap(plain)])
				clear(put[:cap(put)])
				if !slices.Equal(l, numbers) {
					t.Fatalf("%d numbers, %v: handed in is now %d", n, signed, l)
				}
				clear(l)
				if !slices.Equal(other, wantPlain) || !bytes.Equal(another, wantPut) {
					t.Fatalf("%d numbers, %v: an answer went with another: %d, %x", n, signed, other, another)
				}
			}
		}
	}
}

func TestPlainNumbersAreLeft(t *testing.T) { // R7: Made's
	for _, numbers := range [][]uint64{{3, 1, 2, 9, 9, 9}, {3, 1, 1 << 63, 9, 9, 9}} {
		for n := range len(numbers) + 1 {
			for _, signed := range []bool{false, true} {
				l := slices.Clone(numbers)
				one, _ := Made(l[:n], signed)
				two, _ := Made(l[:n], signed)
				want := slices.Clone(one)
				clear(one[:cap(one)])
				if !slices.Equal(l, numbers) {
					t.Fatalf("%d numbers, %v: handed in is now %d", n, signed, l)
				}
				clear(l)
				if !slices.Equal(two, want) {
					t.Fatalf("%d numbers, %v: an answer went with another: %d", n, signed, two)
				}
			}
		}
	}
}

func TestBytesAreLeft(t *testing.T) { // R7: Look's and Take's
	const text = "\x4e\x02\x01\x02\x03rest and room"
	for n := range len(text) + 1 { // some are refused
		for _, signed := range []bool{false, true} {
			b := []byte(text)
			_, _, _, looked, _ := Look(b[:n])
			_, _, _, seen, _ := Look(b[:n])
			l, rest, _ := Take(b[:n], signed)
			m, behind, _ := Take(b[:n], signed)
			wantSeen, wantL, wantRest := bytes.Clone(seen), slices.Clone(l), bytes.Clone(rest)
			clear(looked[:cap(looked)])
			clear(l[:cap(l)])
			clear(rest[:cap(rest)])
			if string(b) != text {
				t.Fatalf("%d bytes, %v: handed in is now %q", n, signed, b)
			}
			clear(b)
			if !bytes.Equal(seen, wantSeen) || !slices.Equal(m, wantL) || !bytes.Equal(behind, wantRest) {
				t.Fatalf("%d bytes, %v: an answer went with another, or with what was handed in: %x, %d, %x", n, signed, seen, m, behind)
			}
		}
	}
}

func TestHeadsAreOwn(t *testing.T) { // R7
	one, two := Head(3, 31, 512), Head(3, 31, 512)
	clear(one[:cap(one)])
	if string(two) != "\xff\xff" || string(Head(3, 31, 512)) != "\xff\xff" {
		t.Errorf("a head went with another: %x", two)
	}
}

// TestRoomIsNotRead: what stands behind the end is not the list's.
func TestRoomIsNotRead(t *testing.T) { // R6
	b := []byte("\x5e\x03\x5c\xa1\xab\x1e\xde\xad\xbe\xef\x00\x01")
	for n := range len(b) + 1 {
		checkTake(t, b[:n])
		checkTake(t, b[:n:n])
		if n < 2 {
			wantNoLook(t, b[:n])
			wantNoLook(t, b[:n:n])
		}
	}
	l := []int{1, 2, 3, 1 << 40, -1}
	wantPut(t, l[:3], false, []byte("\x42\x02\x6c"))
	wantPut(t, l[:3:3], false, []byte("\x42\x02\x6c"))
}

func FuzzHead(f *testing.F) { // P8.1
	f.Add(1, 15, 4)
	f.Add(4, 32, 513)
	f.Add(-1, -1, 0)
	f.Fuzz(func(t *testing.T, kind, code, many int) {
		checkHead(t, kind, code, many)
		checkHead(t, kind&3, code&31, 1+many&511)
	})
}

func FuzzPut(f *testing.F) { // P8.3, P8.4: eight bytes a number, of which it keeps some bits
	f.Add([]byte("\x00\x00\x00\x00\x00\x00\x5c\xa1\x00\x00\x00\x00\x00\x00\xab\x1e"), 64, false)
	f.Add([]byte("12345678abcdefgh"), 17, true)
	f.Add([]byte("\xff\xff\xff\xff\xff\xff\xff\xff"), 64, true)
	f.Fuzz(func(t *testing.T, b []byte, bits int, signed bool) {
		var l []int
		for ; len(b) >= 8; b = b[8:] {
			x := int(said(written(b[:8])))
			l = append(l, x>>(64-(1+bits&63)))
		}
		checkPut(t, l, signed)
	})
}

func FuzzTake(f *testing.F) { // P8.3
	f.Add([]byte(nil))
	f.Add([]byte("\x5e\x03\x5c\xa1\xab\x1e\xde\xad\xbe\xef"))
	f.Add([]byte("\x40\x00\x01"))
	f.Add([]byte("\x7e\x00\xff\xff\xff\xff\xff\xff\xff\xff"))
	f.Add([]byte("\xc4\x09\x02\x02\x4a\x28\xa6"))
	f.Fuzz(func(t *testing.T, b []byte) {
		checkTake(t, b)
		if len(b) > 1 { // few heads are of this kind, and of few numbers
			b = bytes.Clone(b)
			b[0], b[1] = 0x40|b[0]&0x3e, b[1]&15
			checkTake(t, b)
		}
	})
}
