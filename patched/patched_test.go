package patched

import (
	"bytes"
	"fmt"
	"math"
	"math/big"
	"math/rand"
	"slices"
	"strconv"
	"strings"
	"testing"

	"pilaster/api"
)

// allWidths are the widths at the places of their codes, as chapter 2 has them.
var allWidths = []int{
	1, 2, 3, 4, 5, 6, 7, 8, 9, 10, 11, 12, 13, 14, 15, 16,
	17, 18, 19, 20, 21, 22, 23, 24, 26, 28, 30, 32, 40, 48, 56, 64,
}

// rests: what may stand behind.
var rests = []string{"", "\x00", "\xff", "\x00\x00", "\x80\x00\x00\x00\x05\x00", "\x8e\x09 and more"}

const chapters = "\x8e\x09\x2b\x21\x07\xd0\x1e\x00\x14\x70\x28\x32\x3c\x46\x50\x5a\xfc\xe8"

const half = 1 << 63 // the least size that is none

// octets are the bytes of bits that are written out, eight in a byte, the
// highest first, noughts behind the last one.
func octets(bits string) []byte {
	out := []byte{}
	for len(bits) > 0 {
		n := min(8, len(bits))
		c, _ := strconv.ParseUint(bits[:n]+strings.Repeat("0", 8-n), 2, 8)
		out, bits = append(out, byte(c)), bits[n:]
	}
	return out
}

// written are the bits of bytes, written out.
func written(b []byte) string {
	var s strings.Builder
	for _, c := range b {
		s.WriteString(strconv.FormatUint(256+uint64(c), 2)[1:])
	}
	return s.String()
}

// said is the number that bits say that are written out.
func said(bits string) uint64 {
	u, _ := strconv.ParseUint("0"+bits, 2, 64)
	return u
}

// bitsOf is how many bits u needs.
func bitsOf(u uint64) int { return len(strings.TrimLeft(strconv.FormatUint(u, 2), "0")) }

// codeFor is the code of the least width that has room, and whether there is one.
func codeFor(bits int) (int, bool) {
	code := slices.IndexFunc(allWidths, func(w int) bool { return w >= bits })
	return code, code >= 0
}

// pair is a gap and a patch.
type pair struct{ gap, patch uint64 }

// parts are those of a run, whether Put would choose them so or not.
type parts struct {
	kind   int
	code   int    // of the numbers' width
	pcode  int    // of the patches' width
	g      int    // the gaps' width
	base   string // the bytes
	sizes  []uint64
	pairs  []pair
	behind string // the bits that follow the last pair in its byte
}

// bytes are the run.
func (p parts) bytes() []byte {
	var head, numbers, pairs strings.Builder
	fmt.Fprintf(&head, "%02b%05b%09b", p.kind, p.code, len(p.sizes)-1)
	fmt.Fprintf(&head, "%03b%05b%03b%05b", len(p.base)-1, p.pcode, p.g-1, len(p.pairs))
	for _, size := range p.sizes {
		fmt.Fprintf(&numbers, "%0*b", allWidths[p.code], size)
	}
	width := p.g + allWidths[p.pcode]
	if code, ok := codeFor(width); ok {
		width = allWidths[code]
	}
	for _, x := range p.pairs {
		fmt.Fprintf(&pairs, "%0*b%0*b", width-allWidths[p.pcode], x.gap, allWidths[p.pcode], x.patch)
	}
	return slices.Concat(octets(head.String()), []byte(p.base), octets(numbers.String()), octets(pairs.String()+p.behind))
}

// slowBase are the bytes of a base, as few as it needs with its sign.
func slowBase(x int) string {
	size := new(big.Int).Abs(big.NewInt(int64(x))).Text(2)
	sign, many := "0", 1
	if x < 0 {
		sign = "1"
	}
	for 8*many-1 < len(size) {
		many++
	}
	return string(octets(sign + strings.Repeat("0", 8*many-1-len(size)) + size))
}

// slowPairs are the pairs of patches, by the places where these stand; 0 is none.
func slowPairs(patches []uint64) []pair {
	var out []pair
	last := 0
	for i, patch := range patches {
		if patch == 0 {
			continue
		}
		between := max(0, (i-last+254)/255-1) // pairs that only lead on
		out = append(out, slices.Repeat([]pair{{255, 0}}, between)...)
		out = append(out, pair{uint64(i - last - 255*between), patch})
		last = i
	}
	return out
}

// slowPut is P10.1's words, and whether numbers may be laid down so.
func slowPut(l []int, width int, signed bool) ([]byte, bool) {
	code := slices.Index(allWidths[:31], width)
	if len(l) < 1 || len(l) > 512 || code < 0 {
		return nil, false
	}
	sorted := slices.Clone(l)
	slices.Sort(sorted)
	base := sorted[0]
	if base < 0 && !signed || base == math.MinInt {
		return nil, false
	}
	p := parts{kind: 2, code: code, g: 1, base: slowBase(base)}
	var patches []uint64
	for _, x := range l {
		d := new(big.Int).Sub(big.NewInt(int64(x)), big.NewInt(int64(base)))
		if d.BitLen() > 63 {
			return nil, false
		}
		bits := fmt.Sprintf("%064b", d)
		patches = append(patches, said(bits[:64-width]))
		p.sizes = append(p.sizes, said(bits[64-width:]))
	}
	p.pairs = slowPairs(patches)
	for _, x := range p.pairs {
		need, _ := codeFor(bitsOf(x.patch))
		p.g, p.pcode = max(p.g, bitsOf(x.gap)), max(p.pcode, need)
	}
	if len(p.pairs) > 31 || p.g+allWidths[p.pcode] > 64 || width+allWidths[p.pcode] > 64 {
		return nil, false
	}
	return p.bytes(), true
}

// slowTake is what b begins with, bit by bit, and whether that is such a run.
func slowTake(b []byte, signed bool) (l []int, rest []byte, ok bool) {
	if len(b) < 4 || b[0]&0xc0 != 0x80 {
		return nil, nil, false
	}
	h := written(b[:4])
	w, many := allWidths[said(h[2:7])], int(said(h[7:16]))+1
	n, p := int(said(h[16:19]))+1, allWidths[said(h[19:24])]
	g, pairs := int(said(h[24:27]))+1, int(said(h[27:32]))
	code, ok := codeFor(g + p)
	if !ok {
		return nil, nil, false
	}
	each := allWidths[code]
	packed, behind := (many*w+7)/8, (pairs*each+7)/8
	if len(b) < 4+n+packed+behind {
		return nil, nil, false
	}
	base := slowNumber(written(b[4 : 4+n]))
	numbers, b := written(b[4+n:4+n+packed]), b[4+n+packed:]
	sizes := make([]*big.Int, many)
	for i := range sizes {
		sizes[i], numbers = new(big.Int).SetUint64(said(numbers[:w])), numbers[w:]
	}
	joined, place := written(b[:behind]), 0
	for range pairs {
		x := joined[:each]
		gap, patch := x[:each-p], new(big.Int).SetUint64(said(x[each-p:]))
		joined, place = joined[each:], place+int(said(gap[len(gap)-g:]))
		if strings.Contains(gap[:len(gap)-g], "1") || place >= many {
			return nil, nil, false
		}
		if sizes[place].Xor(sizes[place], patch.Lsh(patch, uint(w))); sizes[place].BitLen() > 63 {
			return nil, nil, false
		}
	}
	for _, size := range sizes {
		x := new(big.Int).Add(base, size)
		if size.BitLen() > 63 || !x.IsInt64() || x.Sign() < 0 && !signed {
			return nil, nil, false
		}
		l = append(l, int(x.Int64()))
	}
	return l, b[behind:], !strings.Contains(numbers+joined, "1")
}

// slowNumber is the base of these bits.
func slowNumber(bits string) *big.Int {
	x := new(big.Int).SetUint64(said(bits[1:]))
	if bits[0] == '1' {
		x.Neg(x)
	}
	return x
}

// wantTake asks that b is taken as l, whatever stands behind.
func wantTake(t *testing.T, b []byte, signed bool, l []int) {
	t.Helper()
	for _, rest := range rests {
		got, behind, e := Take(append(bytes.Clone(b), rest...), signed)
		if !slices.Equal(got, l) || string(behind) != rest || e != api.OK {
			t.Fatalf("Take(%x, %v) with %x behind = %d, %x, %d; want %d", b, signed, rest, got, behind, e, l)
		}
	}
}

// wantNoTake asks that Take refuses b, with nothing beside the error.
func wantNoTake(t *testing.T, b []byte, signed bool) {
	t.Helper()
	if l, rest, e := Take(b, signed); len(l) != 0 || len(rest) != 0 || e != api.ErrCorrupt {
		t.Fatalf("Take(%x, %v) = %d, %x, %d; want ErrCorrupt", b, signed, l, rest, e)
	}
}

// wantNeverTake asks that Take refuses b, whatever stands behind.
func wantNeverTake(t *testing.T, b []byte, signed bool) {
	t.Helper()
	for _, rest := range rests {
		wantNoTake(t, append(bytes.Clone(b), rest...), signed)
	}
	wantNoTake(t, append(bytes.Clone(b), make([]byte, 300)...), signed)
}

// wantPut asks that l is laid down as want, and taken back from it.
func wantPut(t *testing.T, l []int, width int, signed bool, want []byte) {
	t.Helper()
	if got, e := Put(l, width, signed); !bytes.Equal(got, want) || e != api.OK {
		t.Fatalf("Put(%d, %d, %v) = %x, %d; want %x", l, width, signed, got, e, want)
	}
	wantTake(t, want, signed, l)
}

// wantNoPut asks that Put refuses l, with nothing beside the error.
func wantNoPut(t *testing.T, l []int, width int, signed bool) {
	t.Helper()
	if got, e := Put(l, width, signed); len(got) != 0 || e != api.ErrArg {
		t.Fatalf("Put(%d, %d, %v) = %x, %d; want ErrArg", l, width, signed, got, e)
	}
}

// checkPut holds Put against the slower reckoning, whatever is handed in, and
// tells whether that may be laid down.
func checkPut(t *testing.T, l []int, width int, signed bool) bool {
	t.Helper()
	want, ok := slowPut(l, width, signed)
	if ok {
		wantPut(t, l, width, signed, want)
	} else {
		wantNoPut(t, l, width, signed)
	}
	return ok
}

// checkTake holds Take against the slower reckoning, whatever b is.
func checkTake(t *testing.T, b []byte) {
	t.Helper()
	for _, signed := range []bool{false, true} {
		l, behind, ok := slowTake(b, signed)
		if !ok {
			wantNoTake(t, b, signed)
			continue
		}
		if got, rest, e := Take(b, signed); !slices.Equal(got, l) || !bytes.Equal(rest, behind) || e != api.OK {
			t.Fatalf("Take(%x, %v) = %d, %x, %d; want %d, %x", b, signed, got, rest, e, l, behind)
		}
	}
}

// wantParts asks that a run of these parts is taken as l, signed or not.
func wantParts(t *testing.T, p parts, l []int) {
	t.Helper()
	wantTake(t, p.bytes(), true, l)
	if slices.Min(l) >= 0 {
		wantTake(t, p.bytes(), false, l)
	} else {
		wantNeverTake(t, p.bytes(), false)
	}
}

// wantNoParts asks that a run of these parts is refused, signed or not.
func wantNoParts(t *testing.T, p parts) {
	t.Helper()
	wantNeverTake(t, p.bytes(), true)
	wantNeverTake(t, p.bytes(), false)
}

// with is l, with x at place i.
func with[T any](l []T, i int, x T) []T {
	l = slices.Clone(l)
	l[i] = x
	return l
}

// alike are so many numbers that are all the same.
func alike(many, x int) []int { return slices.Repeat([]int{x}, many) }

// great are so many numbers that are base, but those at some places are by so
// much more.
func great(many, base, more int, places ...int) []int {
	l := alike(many, base)
	for _, i := range places {
		l[i] += more
	}
	return l
}

// upTo are the numbers from 0 on, so many.
func upTo(many int) []int {
	l := make([]int, many)
	for i := range l {
		l[i] = i
	}
	return l
}

// codeOf is the code of a width.
func codeOf(width int) int { return slices.Index(allWidths, width) }

func TestPutAndTake(t *testing.T) { // P10.1 to P10.3: the chapter's, and others by hand
	for _, c := range []struct {
		l      []int
		width  int
		signed bool
		want   string
	}{
		{[]int{2030, 2000, 2020, 1000000, 2040, 2050, 2060, 2070, 2080, 2090}, 8, false, chapters},
		{[]int{2030, 2000, 2020, 1000000, 2040, 2050, 2060, 2070, 2080, 2090}, 8, true, chapters},
		{[]int{5}, 1, false, "\x80\x00\x00\x00\x05\x00"},
		{[]int{0}, 1, false, "\x80\x00\x00\x00\x00\x00"},
		{[]int{-1}, 1, true, "\x80\x00\x00\x00\x81\x00"},
		{[]int{0, 1}, 1, false, "\x80\x01\x00\x00\x00\x40"},
		{[]int{0, 2}, 1, false, "\x80\x01\x00\x01\x00\x00\xc0"},
		{[]int{2, 0}, 1, false, "\x80\x01\x00\x01\x00\x00\x40"},
		{[]int{3, 0}, 1, false, "\x80\x01\x00\x01\x00\x80\x40"},
		{[]int{-3, -1}, 1, true, "\x80\x01\x00\x01\x83\x00\xc0"},
		{[]int{0, 2, 2}, 1, false, "\x80\x02\x00\x02\x00\x00\xf0"},
		{[]int{0, 4, 0, 7}, 2, true, "\x82\x03\x00\x22\x00\x03\x74"},
		{[]int{9, 9, 9, 9, 9, 9, 9, 9, 9}, 1, false, "\x80\x08\x00\x00\x09\x00\x00"},
		{[]int{127}, 8, false, "\x8e\x00\x00\x00\x7f\x00"},
		{[]int{128}, 8, false, "\x8e\x00\x20\x00\x00\x80\x00"}, // the sign's bit asks for a byte more
		{[]int{-127}, 8, true, "\x8e\x00\x00\x00\xff\x00"},
		{[]int{-128}, 8, true, "\x8e\x00\x20\x00\x80\x80\x00"},
		{[]int{32768, 32767}, 1, true, "\x80\x01\x20\x00\x7f\xff\x80"},
		{[]int{32768, 32769}, 1, true, "\x80\x01\x40\x00\x00\x80\x00\x40"},
		{[]int{math.MaxInt}, 24, false, "\xae\x00\xe0\x00\x7f\xff\xff\xff\xff\xff\xff\xff\x00\x00\x00"},
		{[]int{math.MinInt + 1}, 1, true, "\x80\x00\xe0\x00\xff\xff\xff\xff\xff\xff\xff\xff\x00"},
		{[]int{-1 << 62, -1<<62 + 3}, 2, true, "\x82\x01\xe0\x00\xc0\x00\x00\x00\x00\x00\x00\x00\x30"},
		{[]int{0, math.MaxInt}, 8, false, "\x8e\x01\x1e\x01\x00\x00\xff\x01\x7f\xff\xff\xff\xff\xff\xff"},
		{[]int{math.MinInt + 1, 0}, 32, true, "\xb6\x01\xfb\x01\xff\xff\xff\xff\xff\xff\xff\xff\x00\x00\x00\x00\xff\xff\xff\xff\x01\x7f\xff\xff\xff"},
	} {
		wantPut(t, c.l, c.width, c.signed, []byte(c.want))
		checkPut(t, c.l, c.width, c.signed)
		for n := range c.want {
			wantNoTake(t, []byte(c.want)[:n], c.signed)
		}
	}
}

func TestPutOfSoMany(t *testing.T) { // P10.1: 1 to 512
	for _, signed := range []bool{false, true} {
		for _, many := range []int{1, 2, 3, 7, 8, 9, 511, 512, 513, 514, 1025, 4097} {
			for _, width := range []int{1, 3, 8, 24, 56} {
				for _, l := range [][]int{alike(many, 7), great(many, 7, 1, 0), great(many, 7, 1<<30, many/2), great(many, 0, 3, many-1)} {
					if ok := checkPut(t, l, width, signed); ok != (many <= 512) {
						t.Errorf("%d numbers, %d, %v: %v", many, width, signed, ok)
					}
				}
			}
		}
		for _, width := range allWidths {
			wantNoPut(t, nil, width, signed)
			wantNoPut(t, []int{}, width, signed)
		}
	}
}

func TestPutOfWidths(t *testing.T) { // P10.1: each that there is below 64, and none else
	may := 0
	for _, signed := range []bool{false, true} {
		for width := -70; width < 300; width++ {
			for _, l := range [][]int{{5}, {0, 1, 0}, {9, 8, 7, 1 << 20, 6}, great(512, 3, 1<<10, 100)} {
				ok := checkPut(t, l, width, signed)
				if ok != slices.Contains(allWidths[:31], width) {
					t.Fatalf("Put(%d, %d, %v): %v", l, width, signed, ok)
				}
				if ok {
					may++
				}
			}
		}
		for _, width := range []int{math.MinInt, math.MinInt + 1, -1 << 32, -64, -1, 0, 25, 27, 29, 31, 33, 39, 41, 63, 64, 65, 128, 256 + 8, 1<<32 + 8, math.MaxInt} {
			wantNoPut(t, []int{5}, width, signed)
			wantNoPut(t, []int{5, 1 << 30}, width, signed)
		}
	}
	if may != 2*31*4 {
		t.Errorf("%d were laid down", may)
	}
}

func TestPlainWidths(t *testing.T) { // P10.1: what needs just w bits is not patched, what needs one more is
	for code, w := range allWidths[:31] {
		for _, many := range []int{2, 3, 8, 9, 512} {
			for _, i := range []int{0, many / 2, many - 1} {
				for _, base := range []int{0, 40, 300} {
					fits := great(many, base, 1<<w-1, i)
					fits[(i+1)%many] = base
					p := parts{kind: 2, code: code, g: 1, base: slowBase(base), sizes: with(make([]uint64, many), i, 1<<w-1)}
					wantPut(t, fits, w, false, p.bytes())
					p.sizes[i], p.g, p.pairs = 0, max(1, bitsOf(uint64(i%255))), []pair{{uint64(i), 1}}
					if i > 255 {
						p.g, p.pairs = 8, slowPairs(with(make([]uint64, many), i, 1))
					}
					wantPut(t, great(many, base, 1<<w, i), w, false, p.bytes())
				}
			}
		}
	}
}

func TestWhichArePatched(t *testing.T) { // P10.1: none, the first, the last, each one, and some
	for _, w := range allWidths[:31] {
		for _, many := range []int{1, 2, 3, 8, 31, 32, 33, 256} {
			all := upTo(many)
			for _, places := range [][]int{nil, {0}, {many - 1}, {0, many - 1}, {many / 2}, all, all[1:], all[:many-1]} {
				l := great(many, 100, 1<<w, places...)
				// Where all are greater they are the base, and none is patched.
				if ok := checkPut(t, l, w, false); ok != (len(places) <= 31 || len(places) == many) {
					t.Fatalf("Put(%d, %d, false): %v", l, w, ok)
				}
				checkPut(t, great(many, 100, 1<<w+5, places...), w, true)
				checkPut(t, append(great(many, 100, 1<<w+1, places...), 0), w, true) // each one, above a base behind them
				checkPut(t, append([]int{-1}, great(many, 100, 1<<w+1, places...)...), w, true)
			}
		}
	}
}

func TestPairsAtMost(t *testing.T) { // P10.1: 31, those among them that only lead on
	for _, w := range []int{1, 3, 8, 24, 48} {
		for _, c := range []struct {
			first, apart int // the place of the first one, and how far it is to each other one
			most         int // so many of them come to 31 pairs
		}{{0, 1, 31}, {1, 1, 31}, {0, 2, 31}, {200, 1, 31}, {255, 3, 31}, {256, 1, 30}, {300, 4, 30}, {400, 1, 30}, {480, 1, 30}} {
			for n := c.most - 2; n < c.most+3; n++ {
				l := alike(512, 10)
				for k := range n {
					l[c.first+k*c.apart] += 1<<w + k
				}
				if ok := checkPut(t, l, w, false); ok != (n <= c.most) {
					t.Fatalf("%d patches from %d on: %v", n, c.first, ok)
				}
				if b, e := Put(l, w, false); e == api.OK && int(b[3]&31) != n+31-c.most {
					t.Fatalf("%d patches from %d on: %x", n, c.first, b)
				}
			}
		}
		// the last one so far on that a pair leads on to it
		l := alike(512, 0)
		for k := range 30 {
			l[k] = 1 << w
		}
		l[0] = 0
		if !checkPut(t, with(l, 29+255, 1<<w), w, false) || !checkPut(t, with(l, 29+256, 1<<w), w, false) {
			t.Fatal("29 patches and one more are refused")
		}
		l[0], l[511] = 1<<w, 0
		if !checkPut(t, with(l, 29+255, 1<<w), w, false) || checkPut(t, with(l, 29+256, 1<<w), w, false) {
			t.Fatal("30 patches and one more: 31 pairs, and 32")
		}
	}
	wantNoPut(t, append(alike(512, 100), 0), 3, true) // each one, and too many
	for _, n := range []int{30, 31, 32, 33, 255, 511} {
		if ok := checkPut(t, append(alike(n, 100), 0), 3, true); ok != (n <= 31) {
			t.Errorf("%d patches ahead of the base: %v", n, ok)
		}
		if ok := checkPut(t, append([]int{0}, alike(n, 100)...), 3, true); ok != (n <= 31) {
			t.Errorf("%d patches behind the base: %v", n, ok)
		}
	}
}

func TestGaps(t *testing.T) { // P10.1: up to 255 in a pair, what is more in those ahead of it
	for _, c := range []struct {
		gap   int
		pairs []pair
		g     int
	}{
		{0, []pair{{0, 1}}, 1},
		{1, []pair{{1, 1}}, 1},
		{2, []pair{{2, 1}}, 2},
		{3, []pair{{3, 1}}, 2},
		{4, []pair{{4, 1}}, 3},
		{7, []pair{{7, 1}}, 3},
		{8, []pair{{8, 1}}, 4},
		{15, []pair{{15, 1}}, 4},
		{16, []pair{{16, 1}}, 5},
		{31, []pair{{31, 1}}, 5},
		{32, []pair{{32, 1}}, 6},
		{63, []pair{{63, 1}}, 6},
		{64, []pair{{64, 1}}, 7},
		{127, []pair{{127, 1}}, 7},
		{128, []pair{{128, 1}}, 8},
		{254, []pair{{254, 1}}, 8},
		{255, []pair{{255, 1}}, 8},
		{256, []pair{{255, 0}, {1, 1}}, 8},
		{257, []pair{{255, 0}, {2, 1}}, 8},
		{384, []pair{{255, 0}, {129, 1}}, 8},
		{509, []pair{{255, 0}, {254, 1}}, 8},
		{510, []pair{{255, 0}, {255, 1}}, 8},
		{511, []pair{{255, 0}, {255, 0}, {1, 1}}, 8},
	} {
		for code, w := range allWidths[:31] {
			p := parts{kind: 2, code: code, g: c.g, base: "\x05", sizes: make([]uint64, 512), pairs: c.pairs}
			wantPut(t, great(512, 5, 1<<w, c.gap), w, false, p.bytes()) // ahead of the first one
			p.sizes = p.sizes[:c.gap+1]
			if c.gap > 0 {
				wantPut(t, great(c.gap+1, 5, 1<<w, c.gap), w, true, p.bytes())
			}
			for _, first := range []int{0, 1, 50, 255} { // between two
				if many := first + c.gap + 2; c.gap > 0 && many <= 512 {
					p.sizes = make([]uint64, many)
					p.pairs = append([]pair{{uint64(first), 1}}, c.pairs...)
					p.g = max(c.g, bitsOf(uint64(first)))
					wantPut(t, great(many, 5, 1<<w, first, first+c.gap), w, true, p.bytes())
				}
			}
		}
	}
	p := parts{kind: 2, code: 2, g: 8, base: "\x05", sizes: make([]uint64, 512), pairs: []pair{{255, 0}, {44, 1}, {200, 1}, {1, 1}}}
	wantPut(t, great(512, 5, 8, 299, 499, 500), 3, true, p.bytes())
}

func TestPatchesOfEachWidth(t *testing.T) { // P10.1: the closest that the greatest needs
	seen := map[int]bool{}
	for code, w := range allWidths[:31] {
		for bits := 1; bits <= 63-w; bits++ {
			pcode, _ := codeFor(bits)
			p := allWidths[pcode]
			for _, patch := range []uint64{1 << (bits - 1), 1<<bits - 1} {
				for _, low := range []uint64{0, 1, 1<<w - 1} {
					x := int(patch<<w | low)
					want := parts{kind: 2, code: code, pcode: pcode, g: 1, base: "\x00", sizes: []uint64{0, low}, pairs: []pair{{1, patch}}}
					if w+p > 64 || 1+p > 64 {
						wantNoPut(t, []int{0, x}, w, false)
						wantNoPut(t, []int{x, 0}, w, true)
						wantNoPut(t, []int{x, 0, 1, x}, w, true)
						continue
					}
					seen[p] = true
					wantPut(t, []int{0, x}, w, false, want.bytes())
					want.sizes, want.pairs = []uint64{low, 0, 1, 0}, []pair{{0, patch}, {3, 1}}
					want.g = 2
					wantPut(t, []int{x, 0, 1, 1 << w}, w, true, want.bytes()) // of two the greater one's
				}
			}
		}
	}
	if len(seen) != 31 {
		t.Errorf("%d widths of patches, want each but 64", len(seen))
	}
}

func TestRoomForPairs(t *testing.T) { // P10.1: g + p, and w + p, of 64 and of more
	for _, c := range []struct {
		w, bits, p int // the width, the bits that a number needs, and what its patch comes to
	}{
		{1, 57, 56}, {7, 63, 56}, {8, 57, 56}, {8, 63, 56}, {8, 56, 48}, {16, 63, 48}, {15, 63, 48}, {14, 62, 48},
		{24, 63, 40}, {24, 57, 40}, {23, 63, 40}, {32, 63, 32}, {40, 63, 23}, {48, 63, 15}, {56, 63, 7},
	} {
		for _, gap := range []int{0, 1, 127, 128, 255, 300} { // g + p of 64, with 56 and 8
			if !checkPut(t, great(301, 9, 1<<(c.bits-1), gap), c.w, true) {
				t.Fatalf("%d bits, %d: refused", c.bits, c.w)
			}
			b, _ := Put(great(301, 9, 1<<(c.bits-1), gap), c.w, true)
			if got := allWidths[b[2]&31]; got != c.p {
				t.Fatalf("%d bits, %d: the patch has %d bits, want %d", c.bits, c.w, got, c.p)
			}
		}
	}
	for _, c := range []struct{ w, bits int }{
		{1, 58}, {1, 62}, {1, 63}, {2, 59}, {6, 63}, {3, 63}, // g + p and w + p above 64
		{9, 58}, {9, 63}, {14, 63}, {17, 58}, {22, 63}, {26, 63}, {26, 59}, {30, 63}, {28, 61}, // w + p alone
	} {
		for _, gap := range []int{0, 1, 127, 128, 255, 300} {
			wantNoPut(t, great(301, 9, 1<<(c.bits-1), gap), c.w, true)
		}
	}
}

func TestBases(t *testing.T) { // P10.1: 1 to 8 bytes, of both signs
	for n := 1; n <= 8; n++ {
		most := 1<<(8*n-1) - 1 // the greatest one of so many bytes
		least := 0
		if n > 1 {
			least = 1 << (8*n - 9)
		}
		for _, size := range []int{least, least + 1, least + (most-least)/2, most - 1, most} {
			digits := make([]byte, n)
			for i := range digits {
				digits[n-1-i] = byte(size >> (8 * i))
			}
			wantBase(t, size, digits, n)
			if size > 0 {
				digits[0] |= 0x80
				wantBase(t, -size, digits, n)
			}
		}
	}
	for k := range 63 {
		for d := -1; d <= 1; d++ {
			for _, base := range []int{1<<k + d, -1<<k + d} {
				digits := []byte(slowBase(base))
				wantBase(t, base, digits, len(digits))
			}
		}
	}
	wantBase(t, math.MinInt+1, []byte("\xff\xff\xff\xff\xff\xff\xff\xff"), 8)
	for _, w := range allWidths {
		wantNoPut(t, []int{math.MinInt}, w, true)
		wantNoPut(t, []int{math.MinInt, math.MinInt}, w, true)
		wantNoPut(t, []int{-5, math.MinInt + 1, math.MinInt}, w, true)
	}
}

// wantBase asks that numbers from base on are laid down with these bytes, and
// so are numbers below 0 if they are signed alone.
func wantBase(t *testing.T, base int, digits []byte, many int) {
	t.Helper()
	if many != len(digits) {
		t.Fatalf("%d has %x, want %d bytes", base, digits, many)
	}
	p := parts{kind: 2, code: 4, g: 1, base: string(digits), sizes: []uint64{0}}
	wantPut(t, []int{base}, 5, true, p.bytes())
	p.sizes = []uint64{0, 0, 0}
	wantPut(t, []int{base, base, base}, 5, true, p.bytes())
	if base < 0 {
		wantNoPut(t, []int{base}, 5, false)
	} else {
		wantPut(t, []int{base, base, base}, 5, false, p.bytes())
	}
	if base < math.MaxInt-40 {
		p.sizes, p.pairs = []uint64{31, 0, 8}, []pair{{2, 1}}
		p.g = 2
		wantPut(t, []int{base + 31, base, base + 40}, 5, true, p.bytes())
	}
}

func TestPutOfNumbersTooFar(t *testing.T) { // P10.1: a Diff of 2^63 and more: the first, one in the middle, the last
	for _, c := range []struct{ base, far int }{
		{-1, math.MaxInt}, {-2, math.MaxInt}, {-1 << 62, 1 << 62}, {-1 << 62, math.MaxInt}, {math.MinInt + 1, 1}, {math.MinInt + 1, math.MaxInt},
	} {
		for _, w := range []int{1, 8, 24, 32, 48, 56} {
			for _, many := range []int{2, 3, 9, 512} {
				for _, i := range []int{0, 1, many / 2, many - 1} {
					wantNoPut(t, with(alike(many, c.base), i, c.far), w, true)
					wantNoPut(t, with(alike(many, c.far), i, c.base), w, true)
				}
			}
		}
	}
	for _, base := range []int{0, -1, -5, -1 << 62, math.MinInt + 1} { // 2^63 - 1
		for _, w := range []int{8, 16, 24, 32, 40, 48, 56} {
			if !checkPut(t, []int{base, base + math.MaxInt}, w, true) || !checkPut(t, []int{base + 5, base + math.MaxInt, base}, w, true) {
				t.Fatalf("2^63 - 1 above %d is refused", base)
			}
		}
	}
}

func TestPutOfNumbersBelowZero(t *testing.T) { // P10.1: the first, one in the middle, the last, all of them
	for _, w := range allWidths[:31] {
		for _, many := range []int{1, 2, 3, 9, 512} {
			for _, x := range []int{-1, -2, -128, math.MinInt + 1, math.MinInt} {
				for _, i := range []int{0, many / 2, many - 1} {
					wantNoPut(t, with(alike(many, 0), i, x), w, false)
					wantNoPut(t, with(alike(many, 5), i, x), w, false)
				}
				wantNoPut(t, alike(many, x), w, false)
			}
			for _, i := range []int{0, many / 2, many - 1} {
				if !checkPut(t, with(alike(many, 0), i, -1), w, true) {
					t.Fatal("-1 is refused where it is signed")
				}
			}
			wantPut(t, alike(many, 0), w, false, parts{kind: 2, code: codeOf(w), g: 1, base: "\x00", sizes: make([]uint64, many)}.bytes())
		}
	}
}

func TestTakeOfCutBytes(t *testing.T) { // P10.2: at each place
	for code := range allWidths {
		for _, many := range []int{1, 2, 7, 8, 9, 67} {
			for _, n := range []int{1, 2, 8} {
				for _, pairs := range [][]pair{nil, {{0, 0}}, {{0, 0}, {0, 0}, {0, 0}}} {
					base := strings.Repeat("\x00", n-1) + "\x09"
					for _, pcode := range []int{0, 7, 24, 30} {
						p := parts{kind: 2, code: code, pcode: pcode, g: 3, base: base, sizes: make([]uint64, many), pairs: pairs}
						wantNoCut(t, p.bytes(), alike(many, 9))
					}
				}
			}
		}
	}
	for _, code := range []int{0, 7, 31} {
		p := parts{kind: 2, code: code, g: 8, base: "\x81", sizes: slices.Repeat([]uint64{1}, 512), pairs: slices.Repeat([]pair{{3, 0}}, 31)}
		wantNoCut(t, p.bytes(), alike(512, 0))
	}
	wantNoTake(t, nil, false)
	wantNoTake(t, nil, true)
	wantNoTake(t, []byte{}, true)
}

// wantNoCut asks that b, which is a run of l, is refused wherever it is cut.
func wantNoCut(t *testing.T, b []byte, l []int) {
	t.Helper()
	for n := range b {
		wantNoTake(t, b[:n], false)
		wantNoTake(t, b[:n], true)
		wantNoTake(t, bytes.Clone(b[:n]), true)
	}
	wantTake(t, b, false, l)
	wantTake(t, b, true, l)
}

func TestTakeOfOtherHeads(t *testing.T) { // P10.2: of each other kind
	for code := range allWidths {
		for _, many := range []int{1, 2, 3, 8, 512} {
			for kind := range 4 {
				for _, pairs := range [][]pair{nil, {{0, 0}}} {
					p := parts{kind: kind, code: code, g: 1, base: "\x09", sizes: make([]uint64, many), pairs: pairs}
					if kind == 2 {
						wantParts(t, p, alike(many, 9))
					} else {
						wantNoParts(t, p)
					}
				}
			}
		}
	}
	for _, signed := range []bool{false, true} {
		wantNeverTake(t, []byte("\x02\x0e"), signed) // repeat's
		wantNeverTake(t, []byte("\x0a\x27\x10"), signed)
		wantNeverTake(t, []byte("\x5e\x03\x5c\xa1\xab\x1e\xde\xad\xbe\xef"), signed) // direct's
		wantNeverTake(t, []byte("\xc4\x09\x02\x02\x4a\x28\xa6"), signed)             // delta's
	}
}

func TestTakeOfRoomForPairs(t *testing.T) { // P10.2: g and p of all widths, g + p of 64, and of 65 and more
	for g := 1; g <= 8; g++ {
		for pcode, width := range allWidths {
			for _, n := range []int{0, 1, 2, 31} {
				p := parts{kind: 2, code: 3, pcode: pcode, g: g, base: "\x09", sizes: make([]uint64, 40)}
				p.pairs = slices.Repeat([]pair{{1, 0}}, n)
				if g+width > 64 {
					wantNoParts(t, p)
					continue
				}
				wantParts(t, p, alike(40, 9))
				if n > 0 {
					p.pairs = with(p.pairs, n-1, pair{1, 1})
					wantParts(t, p, great(40, 9, 16, n))
				}
			}
		}
	}
	p := parts{kind: 2, code: 7, pcode: 30, g: 8, base: "\x00", sizes: make([]uint64, 256), pairs: []pair{{255, 1<<55 - 1}}} // 64
	wantParts(t, p, great(256, 0, (1<<55-1)<<8, 255))
	p.g, p.pcode = 1, 31 // 65
	for _, pairs := range [][]pair{nil, {{0, 0}}, {{0, 1}}, {{1, 1}}} {
		p.pairs = pairs
		wantNoParts(t, p)
	}
}

func TestTakeOfMoreRoom(t *testing.T) { // P10.2: base, g, p and w may be wider than need be
	l := []int{7, 5, 1<<30 + 5, 8}
	for n := 1; n <= 8; n++ {
		for code, w := range allWidths {
			if w < 2 || w > 30 {
				continue
			}
			for pcode, width := range allWidths {
				for g := 2; g <= 8; g++ {
					if width < 31-w || g+width > 64 {
						continue
					}
					base := strings.Repeat("\x00", n-1) + "\x05"
					p := parts{kind: 2, code: code, pcode: pcode, g: g, base: base, sizes: []uint64{2, 0, 0, 3}, pairs: []pair{{2, 1 << (30 - w)}}}
					if got, _, e := Take(p.bytes(), g%2 == 0); !slices.Equal(got, l) || e != api.OK {
						t.Fatalf("Take(%x) = %d, %d", p.bytes(), got, e)
					}
				}
			}
		}
	}
}

func TestTakeOfBases(t *testing.T) { // P10.2: with bytes more than they need, a nought below 0, and below 0 though not signed
	for n := 1; n <= 8; n++ {
		noughts := strings.Repeat("\x00", 8)
		for _, c := range []struct {
			base string
			want int
		}{
			{noughts[:n], 0},
			{"\x80" + noughts[:n-1], 0},
			{noughts[:n-1] + "\x01", 1},
			{noughts[:n-1] + "\x7f", 127},
		} {
			wantParts(t, parts{kind: 2, code: 2, g: 1, base: c.base, sizes: []uint64{0, 7, 1}}, []int{c.want, c.want + 7, c.want + 1})
		}
		for more := 0; n+more <= 8; more++ {
			for _, x := range []int{1 << (8*n - 2), 1<<(8*n-1) - 1} {
				digits := append(make([]byte, more), slowBase(x)...)
				p := parts{kind: 2, code: 2, g: 1, base: string(digits), sizes: []uint64{0}}
				wantParts(t, p, []int{x})
				digits[0] |= 0x80
				p.base = string(digits)
				wantParts(t, p, []int{-x})
			}
		}
	}
	// what is not signed may rise from a base below 0, if all of it is 0 or more
	p := parts{kind: 2, code: 3, g: 1, base: "\x85", sizes: []uint64{5, 6, 15}}
	wantParts(t, p, []int{0, 1, 10})
	p.sizes = []uint64{5, 4, 15}
	wantParts(t, p, []int{0, -1, 10})
	p.pairs = []pair{{1, 1}}
	wantParts(t, p, []int{0, 15, 10})
	p.sizes = []uint64{4, 5, 15}
	wantParts(t, p, []int{-1, 16, 10})
	p.sizes, p.base = []uint64{7, 8, 9}, "\x00\x00\x03" // the base need not be the least one
	p.pairs = nil
	wantParts(t, p, []int{10, 11, 12})
}

func TestTakeOfGreatestWidth(t *testing.T) { // P10.2: w of 64
	for _, many := range []int{1, 2, 3, 9, 512} {
		for _, i := range []int{0, many / 2, many - 1} {
			for _, pairs := range [][]pair{nil, {{0, 0}}, {{1, 0}}, {{255, 0}, {255, 0}}, slices.Repeat([]pair{{0, 0}}, 31)} {
				if len(pairs) > 0 && int(pairs[0].gap)*len(pairs) >= many {
					continue
				}
				p := parts{kind: 2, code: 31, g: 8, base: "\x00", sizes: make([]uint64, many), pairs: pairs}
				for _, size := range []uint64{0, 1, 1 << 40, math.MaxInt - 1, math.MaxInt} {
					p.sizes[i] = size
					wantParts(t, p, with(alike(many, 0), i, int(size)))
				}
				for _, size := range []uint64{half, half + 1, 1<<64 - 2, 1<<64 - 1} {
					for _, base := range []string{"\x00", "\x01", "\x85", "\xff\xff\xff\xff\xff\xff\xff\xff"} {
						p.base, p.sizes[i] = base, size
						wantNoParts(t, p)
					}
				}
			}
			for _, patch := range []uint64{1, 2, 1 << 20, 1<<56 - 1} { // no number is so great
				for _, size := range []uint64{0, 5, half, 1<<64 - 1} {
					p := parts{kind: 2, code: 31, pcode: 30, g: 8, base: "\x00", sizes: with(make([]uint64, many), i, size), pairs: []pair{{uint64(i % 256), patch}}}
					wantNoParts(t, p)
					p.pairs = []pair{{uint64(i % 256), patch}, {0, patch}}
					wantNoParts(t, p)
				}
			}
		}
	}
}

func TestTakeOfNoughts(t *testing.T) { // P10.2: no pairs, and patches of 0 with any gap
	for code, w := range allWidths {
		p := parts{kind: 2, code: code, g: 8, base: "\x05", sizes: make([]uint64, 512)}
		p.sizes[511] = 1
		l := great(512, 5, 1, 511)
		for _, pairs := range [][]pair{
			nil, {{0, 0}}, {{1, 0}}, {{2, 0}}, {{254, 0}}, {{255, 0}}, {{0, 0}, {0, 0}}, {{0, 0}, {1, 0}, {0, 0}, {7, 0}},
			{{255, 0}, {255, 0}}, {{255, 0}, {0, 0}, {255, 0}, {1, 0}}, {{255, 0}, {255, 0}, {1, 0}, {0, 0}}, slices.Repeat([]pair{{16, 0}}, 31),
		} {
			p.pairs = pairs
			wantParts(t, p, l)
			if at := 0; w < 56 { // a patch behind them counts from where they led to
				for _, x := range pairs {
					at += int(x.gap)
				}
				if at < 510 && len(pairs) < 31 {
					p.pairs = append(slices.Clone(pairs), pair{1, 1})
					wantParts(t, p, with(l, at+1, 5+1<<w))
					p.pairs = append(slices.Clone(pairs), pair{0, 1})
					wantParts(t, p, with(l, at, 5+1<<w))
				}
			}
		}
	}
}

func TestTakeOfGreatGaps(t *testing.T) { // P10.2: of more bits than g
	n := 0
	for g := 1; g <= 8; g++ {
		for pcode, width := range allWidths {
			code, ok := codeFor(g + width)
			if !ok {
				continue
			}
			for bit := g; bit < allWidths[code]-width; bit++ {
				for _, low := range []uint64{0, 1, 1<<g - 1} {
					p := parts{kind: 2, code: 0, pcode: pcode, g: g, base: "\x05", sizes: make([]uint64, 512), pairs: []pair{{low, 0}}}
					wantParts(t, p, alike(512, 5))
					p.pairs[0].gap |= 1 << bit
					wantNoParts(t, p)
					p.pairs = []pair{{low, 0}, {low, 0}}
					if low == 1 {
						wantParts(t, p, alike(512, 5))
						p.pairs[1].gap |= 1 << bit
						wantNoParts(t, p)
					}
				}
				n++
			}
		}
	}
	if n < 100 {
		t.Errorf("only %d bits", n)
	}
}

func TestTakeOfPlaces(t *testing.T) { // P10.2: the last number's, and one beyond
	for _, many := range []int{1, 2, 3, 8, 9, 255, 256, 257, 300, 510, 511, 512} {
		for _, patch := range []uint64{0, 1} {
			for _, lead := range []int{0, 1, 2, 7, 100, 254, 255} { // how far on each pair leads
				pairs := []pair{}
				at := 0
				for lead > 0 && at+lead < many && len(pairs) < 29 && many-at > 255 {
					pairs, at = append(pairs, pair{uint64(lead), 0}), at+lead
				}
				gap := many - 1 - at
				if gap > 254 {
					continue
				}
				p := parts{kind: 2, code: 5, g: 8, base: "\x05", sizes: make([]uint64, many), pairs: append(pairs, pair{uint64(gap), patch})}
				wantParts(t, p, great(many, 5, int(patch)<<6, many-1))
				p.pairs = append(slices.Clone(p.pairs), pair{0, 0})
				wantParts(t, p, great(many, 5, int(patch)<<6, many-1))
				p.pairs[len(pairs)+1] = pair{1, 0}
				wantNoParts(t, p)
				for _, beyond := range []int{1, 2, 100} {
					if gap+beyond <= 255 {
						p.pairs = append(slices.Clone(pairs), pair{uint64(gap + beyond), patch})
						wantNoParts(t, p)
					}
				}
			}
		}
	}
	p := parts{kind: 2, code: 5, g: 8, base: "\x05", sizes: make([]uint64, 512), pairs: slices.Repeat([]pair{{255, 0}}, 31)}
	wantNoParts(t, p)
	p.pairs = slices.Repeat([]pair{{255, 0}}, 3)
	wantNoParts(t, p)
	p.pairs = p.pairs[:2]
	wantParts(t, p, alike(512, 5))
}

func TestTakeOfPatchesTwice(t *testing.T) { // P10.2: XORed
	for code, w := range allWidths {
		if w > 48 {
			continue
		}
		for _, c := range []struct {
			patches []uint64
			want    int
		}{
			{[]uint64{1, 1}, 0},
			{[]uint64{1, 2}, 3},
			{[]uint64{3, 2}, 1},
			{[]uint64{5, 3}, 6},
			{[]uint64{255, 128}, 127},
			{[]uint64{0, 7}, 7},
			{[]uint64{7, 0}, 7},
			{[]uint64{1, 2, 4, 8, 1}, 14},
			{slices.Repeat([]uint64{9}, 30), 0},
			{slices.Repeat([]uint64{9}, 31), 9},
		} {
			for _, at := range []int{0, 1, 3} {
				p := parts{kind: 2, code: code, pcode: 7, g: 2, base: "\x83", sizes: slices.Repeat([]uint64{1}, 5)}
				for i, patch := range c.patches {
					p.pairs = append(p.pairs, pair{0, patch})
					p.pairs[i].gap = uint64(at * max(0, 1-i))
				}
				wantParts(t, p, great(5, -2, c.want<<w, at))
				p.base = "\x02"
				wantParts(t, p, great(5, 3, c.want<<w, at))
			}
		}
	}
}

func TestTakeOfGreatPatches(t *testing.T) { // P10.2: to 2^63 - 1, to 2^63, and beyond
	for code, w := range allWidths[:31] {
		low := uint64(1)<<w - 1
		for _, c := range []struct {
			bits int // of the patch
			may  bool
		}{{62 - w, true}, {63 - w, true}, {64 - w, false}, {65 - w, false}, {56, w <= 7}, {55, w <= 8}} {
			if c.bits > 56 || c.bits < 1 {
				continue // there is no such patch
			}
			for _, patch := range []uint64{1 << (c.bits - 1), 1<<c.bits - 1, 1<<(c.bits-1) | 1} {
				for _, at := range []int{0, 1, 2} {
					p := parts{kind: 2, code: code, pcode: 30, g: 8, base: "\x00", sizes: []uint64{low, low, low}, pairs: []pair{{uint64(at), patch}}}
					if c.may {
						wantParts(t, p, great(3, int(low), int(patch<<w), at))
						continue
					}
					wantNoParts(t, p)
					p.base = "\xff\xff\xff\xff\xff\xff\xff\xff" // though the sum would be an int
					wantNoParts(t, p)
					p.pairs = append(p.pairs, p.pairs[0]) // nor if it is patched back
					p.pairs[1].gap = 0
					wantNoParts(t, p)
				}
			}
		}
	}
	for _, w := range []int{8, 24, 56} { // the numbers' bits, and the patch's, all of them
		p := parts{kind: 2, code: codeOf(w), pcode: 30, g: 1, base: "\x00", sizes: []uint64{1<<w - 1}, pairs: []pair{{0, 1<<(63-w) - 1}}}
		wantParts(t, p, []int{math.MaxInt})
		p.pairs[0].patch = 1 << (63 - w)
		wantNoParts(t, p)
	}
}

func TestTakeBeyond(t *testing.T) { // P10.2: beyond an int, and below 0 where it is not signed
	for _, more := range []int{1, 2, 100, 255} {
		for _, many := range []int{1, 2, 3, 9, 512} {
			for _, i := range []int{0, many / 2, many - 1} {
				p := parts{kind: 2, code: 7, g: 1, base: slowBase(math.MaxInt - more), sizes: with(make([]uint64, many), i, uint64(more))}
				wantParts(t, p, with(alike(many, math.MaxInt-more), i, math.MaxInt))
				p.base = slowBase(math.MaxInt - more + 1)
				wantNoParts(t, p)
				p.sizes = slices.Repeat([]uint64{uint64(more)}, many)
				p.base = slowBase(-more)
				wantParts(t, p, alike(many, 0))
				p.sizes[i]--
				wantParts(t, p, with(alike(many, 0), i, -1))
				p.base = slowBase(-more - 1)
				wantParts(t, p, with(alike(many, -1), i, -2))
			}
		}
	}
	p := parts{kind: 2, code: 7, pcode: 30, g: 1, base: slowBase(-255), sizes: []uint64{255, 254}, pairs: []pair{{0, 1<<55 - 1}}}
	wantParts(t, p, []int{math.MaxInt - 255, -1})
	p.base = slowBase(1)
	wantNoParts(t, p) // by its patch
	p.base, p.sizes[0] = slowBase(1), 254
	wantParts(t, p, []int{math.MaxInt, 255})
	p = parts{kind: 2, code: 31, g: 1, base: slowBase(math.MinInt + 1), sizes: []uint64{math.MaxInt, 0}}
	wantParts(t, p, []int{0, math.MinInt + 1})
	p.base = slowBase(-1)
	wantParts(t, p, []int{math.MaxInt - 1, -1})
	p.base = slowBase(0)
	wantParts(t, p, []int{math.MaxInt, 0})
	p.base = slowBase(1)
	wantNoParts(t, p)
	p.base = slowBase(math.MaxInt)
	wantNoParts(t, p)
}

func TestTakeOfBitsLeftOver(t *testing.T) { // P10.2: each bit behind the last number, and the last pair, in its byte is 0
	for code, w := range allWidths {
		for _, many := range []int{1, 2, 3, 4, 5, 6, 7, 8, 9, 511, 512} {
			p := parts{kind: 2, code: code, g: 1, base: "\x00", sizes: slices.Repeat([]uint64{1}, many)}
			for _, pairs := range [][]pair{nil, {{0, 0}}, {{0, 0}, {0, 0}, {0, 0}, {0, 0}}} {
				p.pairs = pairs
				b := p.bytes()
				last := 4 + (many*w+7)/8 // behind the base of one byte
				for bit := range (8 - many*w%8) % 8 {
					b[last] ^= 1 << bit
					wantNeverTake(t, b, false)
					wantNeverTake(t, b, true)
					b[last] ^= 1 << bit
				}
				wantTake(t, b, false, alike(many, 1)) // what stands behind that byte is another's
			}
		}
	}
	for g := 1; g <= 8; g++ {
		for pcode, width := range allWidths {
			code, ok := codeFor(g + width)
			if !ok {
				continue
			}
			for _, n := range []int{1, 2, 3, 4, 5, 7, 8, 30, 31} {
				p := parts{kind: 2, code: 0, pcode: pcode, g: g, base: "\x00", sizes: slices.Repeat([]uint64{1}, 9), pairs: slices.Repeat([]pair{{0, 0}}, n)}
				spare := (8 - n*allWidths[code]%8) % 8
				for bit := range spare {
					p.behind = strings.Repeat("0", spare-1-bit) + "1"
					wantNoParts(t, p)
				}
				p.behind = strings.Repeat("0", spare)
				wantParts(t, p, alike(9, 1))
			}
		}
	}
	wantNoTake(t, []byte("\x80\x00\x00\x00\x05\x40"), false)
	wantNoTake(t, []byte("\x80\x00\x00\x00\x05\x01"), true)
	wantNoTake(t, []byte("\x80\x01\x00\x01\x00\x00\xc1"), false)
	wantNoTake(t, []byte("\x80\x01\x00\x01\x00\x00\xe0"), true)
}

func TestTwoWrong(t *testing.T) { // R3
	wantNoPut(t, nil, 25, false)                                           // P10.1: none, and no width
	wantNoPut(t, alike(513, -1), 8, false)                                 // too many, below 0
	wantNoPut(t, with(alike(513, 0), 512, -1), 64, false)                  // the one below 0 is the one too many, and no width
	wantNoPut(t, []int{math.MinInt}, 8, false)                             // below 0, and -2^63
	wantNoPut(t, []int{math.MinInt, math.MaxInt}, 0, true)                 // -2^63, too far, and no width
	wantNoPut(t, []int{-1, math.MaxInt}, 8, false)                         // below 0, too far
	wantNoPut(t, great(512, 0, math.MaxInt, upTo(40)...), 1, false)        // too many pairs, and w + p above 64
	wantNoPut(t, great(512, -1, 1<<62, upTo(40)...), 1, false)             // and below 0
	wantNoTake(t, []byte("\x40"), false)                                   // P10.2: of another kind, and cut
	wantNoTake(t, []byte("\xc0\x00\x1f\x00"), true)                        // of another kind, g + p of 65, and cut
	wantNoTake(t, []byte("\x80\x00\x1f\x00"), true)                        // g + p of 65, and cut
	wantNoTake(t, []byte("\x80\x00\x1f\x01\x05\xff\xff\xff"), true)        // g + p of 65, bits left over
	wantNoTake(t, []byte("\x80\x00\x00\x01\x85\x7f"), false)               // below 0, bits left over, and cut
	wantNoTake(t, []byte("\x80\x00\x00\x01\x05\x00\xff"), false)           // a place beyond, and bits left over
	wantNoTake(t, []byte("\x80\x00\x00\x01\x05\x01\xc0"), true)            // a place beyond, and bits left over ahead of it
	wantNoTake(t, []byte("\x80\x00\x17\x01\x85\x00\xff\xff\xff"), false)   // a gap and its place, and below 0
	wantNoTake(t, []byte("\xfe\x00\x00\x01\x05\x80\x00\x00\x00"), true)    // of another kind, and cut
	wantNoTake(t, []byte("\xbe\x00\x00\x01\x81"+"\x80\x00\x00\x00"), true) // cut, and beyond
}

func TestTakeOfShortBytes(t *testing.T) { // P10.2: none, one, two, and all heads with some bytes behind
	checkTake(t, nil)
	for c := range 256 {
		checkTake(t, []byte{byte(c)})
		for d := range 256 {
			checkTake(t, []byte{byte(c), byte(d)})
			checkTake(t, []byte{0x80, 0, byte(c), byte(d), 5, 0, 0, 0, 0, 0, 0, 0, 0, 0})
			checkTake(t, append([]byte{0x8e, 2, byte(c), byte(d), 0x85, 9, 8, 7, 6, 5, 4, 3, 2, 1}, make([]byte, 250)...))
		}
		for _, d := range []byte{0, 1, 2, 3, 7, 8, 0x7f, 0xff} {
			for _, rest := range []string{"\x00", "\x00\x00", "\x00\x00\x05", "\x00\x00\x05\x00", "\x00\x01\x05\x00\x40", "\x27\x02\x80\x05\x00\x00\x00\x00", "\xff\xff\xff\xff\xff", "\x00\x01\x12\x34\x56\x78\x9a\xbc\xde\xf0\x12", "\x1e\x01\x03\x00\x00\x00\x00\x00\x00\x00\x80\x00\x00\x00\x00\x00\x00\x00"} {
				checkTake(t, append([]byte{byte(c), d}, rest...))
			}
		}
	}
}

// someNumbers are of some bits, but a few of them of more.
func someNumbers(from *rand.Rand, many, bits, more int, signed bool) []int {
	base := int(from.Uint64() >> 1 >> from.Intn(62))
	if signed && from.Intn(2) == 0 {
		base = -base
	}
	l := make([]int, many)
	for i := range l {
		size := int(from.Uint64() >> (64 - bits) >> from.Intn(bits))
		if from.Intn(20) == 0 {
			size |= int(from.Uint64() >> (64 - bits - more))
		}
		l[i] = base + size // some go beyond, and come out on the other side
	}
	return l
}

func TestSomeNumbers(t *testing.T) { // P10.1 to P10.3: with a bit turned, too, and cut
	from := rand.New(rand.NewSource(10))
	put, refused, patches := 0, 0, 0
	for range 8000 {
		signed := from.Intn(3) > 0
		width := allWidths[from.Intn(31)]
		l := someNumbers(from, 1+from.Intn(100), width, from.Intn(64-width), signed)
		if !checkPut(t, l, width, signed) {
			refused++
			continue
		}
		put++
		b, _ := slowPut(l, width, signed)
		patches += int(b[3] & 31)
		b = append(b, "behind it all"...)
		checkTake(t, b[:from.Intn(len(b))])
		b[from.Intn(len(b))] ^= byte(1 << from.Intn(8))
		checkTake(t, b)
		b[from.Intn(6)] ^= byte(1 << from.Intn(8))
		checkTake(t, b)
	}
	if put < 5000 || refused < 100 || patches < 8000 {
		t.Errorf("%d were laid down, with %d patches, and %d refused", put, patches, refused)
	}
}

func TestSomeParts(t *testing.T) { // P10.2: such as Put would not choose
	from := rand.New(rand.NewSource(11))
	taken := 0
	for range 20000 {
		p := parts{kind: 2, code: from.Intn(32), pcode: from.Intn(32), g: 1 + from.Intn(8)}
		base := make([]byte, 1+from.Intn(8))
		from.Read(base)
		if from.Intn(2) == 0 {
			clear(base[:len(base)-1])
		}
		p.base, p.sizes = string(base), make([]uint64, 1+from.Intn(60))
		for i := range p.sizes {
			p.sizes[i] = from.Uint64() >> (64 - allWidths[p.code]) >> from.Intn(64)
		}
		for range from.Intn(6) {
			gap := from.Uint64() >> (64 - p.g) >> from.Intn(8)
			p.pairs = append(p.pairs, pair{gap, from.Uint64() >> (64 - allWidths[p.pcode]) >> from.Intn(64)})
		}
		b := p.bytes()
		if _, _, e := Take(b, true); e == api.OK {
			taken++
		}
		checkTake(t, b)
		checkTake(t, append(b, "behind"...))
	}
	if taken < 5000 || taken > 19000 {
		t.Errorf("%d were taken", taken)
	}
}

func TestOneBehindAnother(t *testing.T) { // P10.3: what stands behind is taken next
	from := rand.New(rand.NewSource(12))
	var all [][]int
	var together []byte
	for n := range 400 {
		width := allWidths[n%31]
		l := someNumbers(from, 1+from.Intn(60), width, (63-width)/2, true)
		if b, e := Put(l, width, true); e == api.OK {
			all, together = append(all, l), append(together, b...)
		}
	}
	if len(all) < 200 {
		t.Fatalf("only %d were laid down", len(all))
	}
	for _, l := range all {
		got, rest, e := Take(together, true)
		if !slices.Equal(got, l) || e != api.OK {
			t.Fatalf("Take = %d, %d; want %d", got, e, l)
		}
		together = rest
	}
	if len(together) != 0 {
		t.Errorf("left: %x", together)
	}
}

// TestNumbersAreLeft: numbers that are handed in, and the room behind them,
// stay as they were, and what is answered is the caller's own.
func TestNumbersAreLeft(t *testing.T) { // R7
	for _, numbers := range [][]int{{1, 2, 400, 9, 9, 12}, {9, 7, 1 << 50, 6, -2, -3}, {5, 5, 5, 5, 5, 5}, {70000, 4, 6, 8, 7, 7}, {4, math.MinInt, 5, 6}} {
		for n := range len(numbers) + 1 { // some are refused
			for _, width := range []int{1, 3, 8, 25, 56} {
				for _, signed := range []bool{false, true} {
					l := slices.Clone(numbers)
					one, _ := Put(l[:n], width, signed)
					two, _ := Put(l[:n], width, signed)
					want := bytes.Clone(one)
					clear(one[:cap(one)])
					if !slices.Equal(l, numbers) {
						t.Fatalf("%d numbers, %d, %v: handed in is now %d", n, width, signed, l)
					}
					clear(l)
					if !bytes.Equal(two, want) {
						t.Fatalf("%d numbers, %d, %v: an answer went with another: %x", n, width, signed, two)
					}
				}
			}
		}
	}
}

func TestBytesAreLeft(t *testing.T) { // R7
	for _, text := range []string{chapters + "rest and room", "\x80\x01\x00\x01\x00\x00\xc0rest and room", "\x80\x00\x00\x00\x05\x00rest and room", "\x80\x01\x00\x01\x00\x00\xf0rest and room"} {
		for n := range len(text) + 1 { // some are refused
			for _, signed := range []bool{false, true} {
				b := []byte(text)
				l, rest, _ := Take(b[:n], signed)
				m, behind, _ := Take(b[:n], signed)
				wantL, wantRest := slices.Clone(l), bytes.Clone(rest)
				clear(l[:cap(l)])
				clear(rest[:cap(rest)])
				if string(b) != text {
					t.Fatalf("%d bytes, %v: handed in is now %q", n, signed, b)
				}
				clear(b)
				if !slices.Equal(m, wantL) || !bytes.Equal(behind, wantRest) {
					t.Fatalf("%d bytes, %v: an answer went with another, or with what was handed in: %d, %x", n, signed, m, behind)
				}
			}
		}
	}
}

// TestRoomIsNotRead: what stands behind the end is not the list's.
func TestRoomIsNotRead(t *testing.T) { // R6
	b := []byte(chapters + "\x00\x01")
	for n := range len(b) + 1 {
		checkTake(t, b[:n])
		checkTake(t, b[:n:n])
	}
	l := []int{0, 2, -1, 1 << 40, 1}
	wantPut(t, l[:2], 1, false, []byte("\x80\x01\x00\x01\x00\x00\xc0"))
	wantPut(t, l[:2:2], 1, false, []byte("\x80\x01\x00\x01\x00\x00\xc0"))
	wantNoPut(t, l[:0], 1, false)
}

func FuzzPut(f *testing.F) { // P10.1, P10.3: eight bytes a number, of which it keeps some bits
	f.Add([]byte("\x00\x00\x00\x00\x00\x00\x00\x02\x00\x00\x00\x00\x00\x00\x00\x01"), 64, 1, false)
	f.Add([]byte("12345678abcdefgh87654321"), 17, 8, true)
	f.Add([]byte("\xff\xff\xff\xff\xff\xff\xff\xff\x00\x00\x00\x00\x00\x00\x00\x00"), 64, 24, true)
	f.Fuzz(func(t *testing.T, b []byte, bits, width int, signed bool) {
		var l, few []int
		for ; len(b) >= 8; b = b[8:] {
			x := int(said(written(b[:8])))
			l = append(l, x>>(64-(1+bits&63)))
			few = append(few, x&255)
			if x&0x700 == 0 {
				few[len(few)-1] = x >> (64 - (1 + bits&63))
			}
		}
		checkPut(t, l, width, signed)
		checkPut(t, l, allWidths[width&31], signed)
		checkPut(t, few, allWidths[width&31], signed)
	})
}

func FuzzTake(f *testing.F) { // P10.2
	f.Add([]byte(nil))
	f.Add([]byte(chapters))
	f.Add([]byte("\x80\x00\x00\x00\x05\x00"))
	f.Add([]byte("\x80\x02\x00\x02\x00\x00\xf0"))
	f.Add([]byte("\x8e\x01\x1e\x01\x00\x00\xff\x01\x7f\xff\xff\xff\xff\xff\xff"))
	f.Add([]byte("\xc4\x09\x02\x02\x4a\x28\xa6"))
	f.Fuzz(func(t *testing.T, b []byte) {
		checkTake(t, b)
		if len(b) > 3 { // few heads are of this kind, of few numbers, and of few pairs
			b = bytes.Clone(b)
			b[0], b[1], b[3] = 0x80|b[0]&0x3e, b[1]&15, b[3]&0xe3
			checkTake(t, b)
		}
	})
}
