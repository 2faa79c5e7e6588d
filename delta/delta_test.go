package delta

import (
	"bytes"
	"fmt"
	"math"
	"math/big"
	"math/rand"
	"slices"
	"strconv"
	"strings"
	"testing"

	"pilaster/api"
)

// allWidths are the widths at the places of their codes, as chapter 2 has them.
var allWidths = []int{
	1, 2, 3, 4, 5, 6, 7, 8, 9, 10, 11, 12, 13, 14, 15, 16,
	17, 18, 19, 20, 21, 22, 23, 24, 26, 28, 30, 32, 40, 48, 56, 64,
}

// rests: what may stand behind.
var rests = []string{"", "\x00", "\xff", "\x00\x00", "\xc0\x01\x00\x00", "\xc4\x09 and more"}

const half = 1 << 63 // the least size that is none

// edges are the numbers about each power of two, of both signs, and the ends
// of what an int may be.
func edges() []int {
	l := []int{math.MinInt, math.MinInt + 1, math.MaxInt - 1, math.MaxInt}
	for i := range 63 {
		for d := -1; d <= 1; d++ {
			l = append(l, 1<<i+d, -1<<i+d)
		}
	}
	return l
}

// sizes are those about each power of two, and the ends of what they may be.
func sizes() []uint64 {
	l := []uint64{0, 1, math.MaxInt, half, half + 1, 1<<64 - 2, 1<<64 - 1}
	for i := range 63 {
		l = append(l, 1<<i-1, 1<<i, 1<<i+1)
	}
	return l
}

// octets are the bytes of bits that are written out, eight in a byte, the
// highest first, noughts behind the last one.
func octets(bits string) []byte {
	out := []byte{}
	for len(bits) > 0 {
		n := min(8, len(bits))
		c, _ := strconv.ParseUint(bits[:n]+strings.Repeat("0", 8-n), 2, 8)
		out, bits = append(out, byte(c)), bits[n:]
	}
	return out
}

// written are the bits of bytes, written out.
func written(b []byte) string {
	var s strings.Builder
	for _, c := range b {
		fmt.Fprintf(&s, "%08b", c)
	}
	return s.String()
}

// said is the number that bits say that are written out.
func said(bits string) uint64 {
	u, _ := strconv.ParseUint("0"+bits, 2, 64)
	return u
}

// slowHead is a head, field by field.
func slowHead(kind, code, many int) []byte {
	return octets(fmt.Sprintf("%02b%05b%09b", kind, code, many-1))
}

// slowPlain is how a number stands: itself, or 2 x, or -2 x - 1.
func slowPlain(x int, signed bool) *big.Int {
	u := big.NewInt(int64(x))
	if signed {
		u.Mul(u, big.NewInt(2))
		if x < 0 {
			u.Neg(u)
			u.Sub(u, big.NewInt(1))
		}
	}
	return u
}

// slowMade is the number that stands as u, and whether it is one.
func slowMade(u *big.Int, signed bool) (*big.Int, bool) {
	x := new(big.Int).Set(u)
	if signed {
		odd := x.Bit(0) == 1
		if x.Div(x, big.NewInt(2)); odd {
			x.Add(x, big.NewInt(1))
			x.Neg(x)
		}
	}
	return x, x.IsInt64()
}

// slowNumber is the number u, seven bits a byte, the lowest first.
func slowNumber(u *big.Int) []byte {
	bits := u.Text(2)
	bits = strings.Repeat("0", (7-len(bits)%7)%7) + bits
	out := []byte{}
	for len(bits) > 7 {
		out = append(out, byte(128+said(bits[len(bits)-7:])))
		bits = bits[:len(bits)-7]
	}
	return append(out, byte(said(bits)))
}

// number is x as varint has it.
func number(x int, signed bool) []byte { return slowNumber(slowPlain(x, signed)) }

// slowTakeNumber is the number that b begins with, and whether there is one.
func slowTakeNumber(b []byte, signed bool) (x *big.Int, rest []byte, ok bool) {
	end := slices.IndexFunc(b, func(c byte) bool { return c < 128 }) + 1
	u := new(big.Int)
	for i := end - 1; i >= 0; i-- {
		u.Mul(u, big.NewInt(128))
		u.Add(u, big.NewInt(int64(b[i]%128)))
	}
	if end == 0 || u.BitLen() > 64 || !bytes.Equal(slowNumber(u), b[:end]) {
		return nil, nil, false
	}
	x, ok = slowMade(u, signed)
	return x, b[end:], ok
}

// slowDiff is P9.1's, with its sign, and whether its size is below 2^63.
func slowDiff(a, b int) (*big.Int, bool) {
	d := new(big.Int).Sub(big.NewInt(int64(b)), big.NewInt(int64(a)))
	return d, d.CmpAbs(new(big.Int).SetUint64(half)) < 0
}

// slowStep is P9.1's.
func slowStep(a int, size uint64, falls bool) (int, bool) {
	b := new(big.Int).SetUint64(size)
	if falls {
		b.Neg(b)
	}
	b.Add(b, big.NewInt(int64(a)))
	if size >= half || !b.IsInt64() {
		return 0, false
	}
	return int(b.Int64()), true
}

// packed are sizes, with so many bits each.
func packed(width int, sizes ...uint64) []byte {
	var bits strings.Builder
	for _, size := range sizes {
		fmt.Fprintf(&bits, "%0*b", width, size)
	}
	return octets(bits.String())
}

// run is a run, part by part: whether Put would choose its parts so or not.
func run(code, many int, first, by []byte, sizes ...uint64) []byte {
	out := append(append(slowHead(3, code, many), first...), by...)
	if code == 0 {
		return out
	}
	return append(out, packed(allWidths[code], sizes...)...)
}

// slowPut is P9.2's words, and whether numbers may be laid down so.
func slowPut(l []int, signed bool) ([]byte, bool) {
	if len(l) < 2 || len(l) > 512 || !signed && slices.ContainsFunc(l, func(x int) bool { return x < 0 }) {
		return nil, false
	}
	var diffs []int
	var sizes []uint64
	rise, fall, same, needs := false, false, true, 2
	for i := range len(l) - 1 {
		d, ok := slowDiff(l[i], l[i+1])
		if !ok {
			return nil, false
		}
		diffs = append(diffs, int(d.Int64()))
		rise, fall, same = rise || d.Sign() > 0, fall || d.Sign() < 0, same && diffs[i] == diffs[0]
		if i > 0 {
			needs = max(needs, d.BitLen())
			sizes = append(sizes, d.Abs(d).Uint64())
		}
	}
	if rise && fall || diffs[0] == 0 && fall {
		return nil, false
	}
	code := 0
	for !same && allWidths[code] < needs {
		code++
	}
	return run(code, len(l), number(l[0], signed), number(diffs[0], true), sizes...), true
}

// slowTake is what b begins with, bit by bit, and whether that is such a run.
func slowTake(b []byte, signed bool) (l []int, rest []byte, ok bool) {
	if len(b) < 2 || b[0] < 0xc0 {
		return nil, nil, false
	}
	h := written(b[:2])
	code, many := int(said(h[2:7])), int(said(h[7:]))+1
	first, rest, ok := slowTakeNumber(b[2:], signed)
	if !ok || many < 2 {
		return nil, nil, false
	}
	by, rest, ok := slowTakeNumber(rest, true)
	if !ok {
		return nil, nil, false
	}
	size, falls, bits := new(big.Int).Abs(by).Uint64(), by.Sign() < 0, ""
	if code > 0 {
		n := (allWidths[code]*(many-2) + 7) / 8
		if len(rest) < n {
			return nil, nil, false
		}
		bits, rest = written(rest[:n]), rest[n:]
	}
	l = append(l, int(first.Int64()))
	for i := range many - 1 {
		if i > 0 && code > 0 {
			size, bits = said(bits[:allWidths[code]]), bits[allWidths[code]:]
		}
		x, ok := slowStep(l[i], size, falls)
		if !ok || x < 0 && !signed {
			return nil, nil, false
		}
		l = append(l, x)
	}
	return l, rest, !strings.Contains(bits, "1")
}

// wantDiff asks that b is this Diff from a, and that Step leads there.
func wantDiff(t *testing.T, a, b int, size uint64, falls bool) {
	t.Helper()
	if s, f, ok := Diff(a, b); s != size || f != falls || !ok {
		t.Fatalf("Diff(%d, %d) = %d, %v, %v; want %d, %v", a, b, s, f, ok, size, falls)
	}
	if got, ok := Step(a, size, falls); got != b || !ok {
		t.Fatalf("Step(%d, %d, %v) = %d, %v; want %d", a, size, falls, got, ok, b)
	}
}

// wantNoDiff asks that Diff refuses, with nothing beside.
func wantNoDiff(t *testing.T, a, b int) {
	t.Helper()
	if s, f, ok := Diff(a, b); s != 0 || f || ok {
		t.Fatalf("Diff(%d, %d) = %d, %v, %v; want none", a, b, s, f, ok)
	}
}

// checkDiff holds Diff against the slower reckoning, and Step against Diff.
func checkDiff(t *testing.T, a, b int) {
	t.Helper()
	if d, ok := slowDiff(a, b); ok {
		wantDiff(t, a, b, new(big.Int).Abs(d).Uint64(), d.Sign() < 0)
	} else {
		wantNoDiff(t, a, b)
	}
}

// checkStep holds Step against the slower reckoning, and Diff against Step.
func checkStep(t *testing.T, a int, size uint64, falls bool) {
	t.Helper()
	want, may := slowStep(a, size, falls)
	if got, ok := Step(a, size, falls); got != want || ok != may {
		t.Fatalf("Step(%d, %d, %v) = %d, %v; want %d, %v", a, size, falls, got, ok, want, may)
	}
	if may {
		wantDiff(t, a, want, size, falls && size > 0)
	}
}

// wantTake asks that b is taken as l, whatever stands behind.
func wantTake(t *testing.T, b []byte, signed bool, l []int) {
	t.Helper()
	for _, rest := range rests {
		got, behind, e := Take(append(bytes.Clone(b), rest...), signed)
		if !slices.Equal(got, l) || string(behind) != rest || e != api.OK {
			t.Fatalf("Take(%x, %v) with %x behind = %d, %x, %d; want %d", b, signed, rest, got, behind, e, l)
		}
	}
}

// wantNoTake asks that Take refuses b, with nothing beside the error.
func wantNoTake(t *testing.T, b []byte, signed bool) {
	t.Helper()
	if l, rest, e := Take(b, signed); len(l) != 0 || len(rest) != 0 || e != api.ErrCorrupt {
		t.Fatalf("Take(%x, %v) = %d, %x, %d; want ErrCorrupt", b, signed, l, rest, e)
	}
}

// wantNeverTake asks that Take refuses b, whatever stands behind.
func wantNeverTake(t *testing.T, b []byte, signed bool) {
	t.Helper()
	for _, rest := range rests {
		wantNoTake(t, append(bytes.Clone(b), rest...), signed)
	}
}

// wantPut asks that l is laid down as want, and taken back from it.
func wantPut(t *testing.T, l []int, signed bool, want []byte) {
	t.Helper()
	if got, e := Put(l, signed); !bytes.Equal(got, want) || e != api.OK {
		t.Fatalf("Put(%d, %v) = %x, %d; want %x", l, signed, got, e, want)
	}
	wantTake(t, want, signed, l)
}

// wantNoPut asks that Put refuses l, with nothing beside the error.
func wantNoPut(t *testing.T, l []int, signed bool) {
	t.Helper()
	if got, e := Put(l, signed); len(got) != 0 || e != api.ErrArg {
		t.Fatalf("Put(%d, %v) = %x, %d; want ErrArg", l, signed, got, e)
	}
}

// checkPut holds Put against the slower reckoning, whatever is handed in, and
// tells whether that may be laid down.
func checkPut(t *testing.T, l []int, signed bool) bool {
	t.Helper()
	want, ok := slowPut(l, signed)
	if ok {
		wantPut(t, l, signed, want)
	} else {
		wantNoPut(t, l, signed)
	}
	return ok
}

// checkTake holds Take against the slower reckoning, whatever b is.
func checkTake(t *testing.T, b []byte) {
	t.Helper()
	for _, signed := range []bool{false, true} {
		l, behind, ok := slowTake(b, signed)
		if !ok {
			wantNoTake(t, b, signed)
			continue
		}
		if got, rest, e := Take(b, signed); !slices.Equal(got, l) || !bytes.Equal(rest, behind) || e != api.OK {
			t.Fatalf("Take(%x, %v) = %d, %x, %d; want %d, %x", b, signed, got, rest, e, l, behind)
		}
	}
}

// with is l, with x at place i.
func with(l []int, i, x int) []int {
	l = slices.Clone(l)
	l[i] = x
	return l
}

// even are so many numbers, each of which is by so much another than the one ahead.
func even(many, first, by int) []int {
	l := make([]int, many)
	for i := range l {
		l[i] = first + i*by
	}
	return l
}

// along are the numbers that Diffs lead to from the first one on.
func along(first int, diffs ...int) []int {
	l := []int{first}
	for i, d := range diffs {
		l = append(l, l[i]+d)
	}
	return l
}

func TestDiffAndStep(t *testing.T) { // P9.1: by hand
	for _, c := range []struct {
		a, b  int
		size  uint64
		falls bool
	}{
		{0, 0, 0, false},
		{3, 5, 2, false},
		{5, 3, 2, true},
		{-1, 1, 2, false},
		{1, -1, 2, true},
		{-5, -3, 2, false},
		{-3, -5, 2, true},
		{-7, -7, 0, false},
		{math.MaxInt, math.MaxInt, 0, false},
		{math.MinInt, math.MinInt, 0, false},
		{0, math.MaxInt, 1<<63 - 1, false},
		{math.MaxInt, 0, 1<<63 - 1, true},
		{math.MinInt, -1, 1<<63 - 1, false},
		{-1, math.MinInt, 1<<63 - 1, true},
		{-1 << 62, 1<<62 - 1, 1<<63 - 1, false},
		{1<<62 - 1, -1 << 62, 1<<63 - 1, true},
		{-2, math.MaxInt - 2, 1<<63 - 1, false},
		{1, math.MinInt + 2, 1<<63 - 1, true},
	} {
		wantDiff(t, c.a, c.b, c.size, c.falls)
	}
	for _, c := range [][2]int{ // of 2^63, 2^63 + 1, 2^64 - 2, 2^64 - 1
		{0, math.MinInt}, {-1, math.MaxInt}, {-1 << 62, 1 << 62}, {-2, math.MaxInt - 1},
		{1, math.MinInt}, {-2, math.MaxInt},
		{math.MinInt, math.MaxInt - 1}, {math.MinInt + 1, math.MaxInt},
		{math.MinInt, math.MaxInt},
	} {
		wantNoDiff(t, c[0], c[1])
		wantNoDiff(t, c[1], c[0])
	}
}

func TestDiffOfEdges(t *testing.T) { // P9.1: each with each
	for _, a := range edges() {
		for _, b := range edges() {
			checkDiff(t, a, b)
		}
	}
}

func TestStepOfEdges(t *testing.T) { // P9.1: each with each size
	for _, a := range edges() {
		for _, size := range sizes() {
			checkStep(t, a, size, false)
			checkStep(t, a, size, true)
		}
	}
}

func TestStepToTheEnds(t *testing.T) { // P9.1: to the least and the greatest number, and one beyond
	for _, a := range edges() {
		for _, c := range []struct {
			end   int
			falls bool
		}{{math.MaxInt, false}, {math.MinInt, true}} {
			d, ok := slowDiff(a, c.end)
			size := d.Abs(d).Uint64()
			if got, may := Step(a, size, c.falls); ok && got != c.end || may != ok {
				t.Fatalf("Step(%d, %d, %v) = %d, %v", a, size, c.falls, got, may)
			}
			checkStep(t, a, size-min(size, 1), c.falls)
			if size == 1<<64-1 {
				continue // there is no size that is greater
			}
			if got, may := Step(a, size+1, c.falls); got != 0 || may {
				t.Fatalf("Step(%d, %d, %v) = %d, %v; want none", a, size+1, c.falls, got, may)
			}
		}
	}
}

func TestStepOfNothing(t *testing.T) { // P9.1: 0 leads nowhere else, whether it falls or not
	for _, a := range edges() {
		for _, falls := range []bool{false, true} {
			if b, ok := Step(a, 0, falls); b != a || !ok {
				t.Errorf("Step(%d, 0, %v) = %d, %v", a, falls, b, ok)
			}
		}
	}
}

func TestPutAndTake(t *testing.T) { // P9.2 to P9.4: the chapter's, and others by hand
	for _, c := range []struct {
		l      []int
		signed bool
		want   string
	}{
		{[]int{2, 3, 5, 7, 11, 13, 17, 19, 23, 29}, false, "\xc4\x09\x02\x02\x4a\x28\xa6"}, // the chapter's
		{[]int{5, 5, 5}, true, "\xc0\x02\x0a\x00"},                                         // the chapter's
		{[]int{0, 0}, false, "\xc0\x01\x00\x00"},
		{[]int{0, 1}, false, "\xc0\x01\x00\x02"},
		{[]int{1, 0}, false, "\xc0\x01\x01\x01"},
		{[]int{0, -1}, true, "\xc0\x01\x00\x01"},
		{[]int{-1, 0}, true, "\xc0\x01\x01\x02"},
		{[]int{7, 9}, true, "\xc0\x01\x0e\x04"},
		{[]int{10, 8, 6}, true, "\xc0\x02\x14\x03"},
		{[]int{10, 9, 7}, false, "\xc2\x02\x0a\x01\x80"},
		{[]int{0, 0, 1}, false, "\xc2\x02\x00\x00\x40"}, // one bit would do, but two are the least
		{[]int{0, 1, 1}, false, "\xc2\x02\x00\x02\x00"}, // none would
		{[]int{1, 0, 0}, false, "\xc2\x02\x01\x01\x00"},
		{[]int{0, 1, 4}, false, "\xc2\x02\x00\x02\xc0"},
		{[]int{0, 1, 5}, false, "\xc4\x02\x00\x02\x80"},
		{[]int{0, 1, 2, 4}, true, "\xc2\x03\x00\x02\x60"},
		{[]int{0, 1 << 20, 1<<20 + 1}, false, "\xc2\x02\x00\x80\x80\x80\x01\x40"}, // the first Diff is not packed
		{[]int{0, 1, 256}, false, "\xce\x02\x00\x02\xff"},
		{[]int{300, 500, 500}, false, "\xc2\x02\xac\x02\x90\x03\x00"},
		{[]int{0, 0, math.MaxInt}, false, "\xfe\x02\x00\x00\x7f\xff\xff\xff\xff\xff\xff\xff"},
		{[]int{0, -1, math.MinInt}, true, "\xfe\x02\x00\x01\x7f\xff\xff\xff\xff\xff\xff\xff"},
		{[]int{0, math.MaxInt}, false, "\xc0\x01\x00\xfe\xff\xff\xff\xff\xff\xff\xff\xff\x01"},
		{[]int{math.MaxInt, 0}, false, "\xc0\x01\xff\xff\xff\xff\xff\xff\xff\xff\x7f\xfd\xff\xff\xff\xff\xff\xff\xff\xff\x01"},
		{[]int{-1, math.MinInt}, true, "\xc0\x01\x01\xfd\xff\xff\xff\xff\xff\xff\xff\xff\x01"},
		{[]int{math.MinInt, -1, math.MaxInt - 1}, true, "\xc0\x02\xff\xff\xff\xff\xff\xff\xff\xff\xff\x01\xfe\xff\xff\xff\xff\xff\xff\xff\xff\x01"},
	} {
		wantPut(t, c.l, c.signed, []byte(c.want))
		checkPut(t, c.l, c.signed)
		for n := range c.want {
			wantNoTake(t, []byte(c.want)[:n], c.signed)
		}
	}
	wantNoPut(t, []int{1, 3, 2}, true) // the chapter's
}

func TestPutOfSoMany(t *testing.T) { // P9.2: 2 to 512
	for _, signed := range []bool{false, true} {
		for _, many := range []int{0, 1, 2, 3, 4, 5, 9, 10, 511, 512, 513, 514, 1025, 4097} {
			for _, l := range [][]int{even(many, 7, 0), even(many, 7, 3), even(many, 1<<20, -3)} {
				if ok := checkPut(t, l, signed); ok != (many >= 2 && many <= 512) {
					t.Errorf("%d numbers, %v: %v", many, signed, ok)
				}
				if many > 2 {
					checkPut(t, with(l, many-1, 2*l[many-1]-l[many-2]), signed)
				}
			}
		}
		wantNoPut(t, nil, signed)
		wantNoPut(t, []int{}, signed)
	}
}

func TestEvenNumbers(t *testing.T) { // P9.2 to P9.4: by the same, from each edge on, some beyond an int
	for _, first := range edges() {
		for _, by := range []int{0, 1, -1, 2, -2, 63, 64, -64, -65, 1 << 31, -1 << 31, 1 << 40, -1 << 62} {
			for _, many := range []int{2, 3, 8} {
				checkPut(t, even(many, first, by), false)
				checkPut(t, even(many, first, by), true)
			}
		}
	}
	for _, many := range []int{2, 3, 8, 511, 512} { // the code is 0, and nothing follows
		for _, by := range []int{0, 1, -1, 2, -2, 63, 64, -64, -65, 1 << 31, -1 << 31, 1 << 40, -1 << 40} {
			for _, first := range []int{0, 1, -1, 1 << 50, -1 << 50} {
				want := slices.Concat(slowHead(3, 0, many), number(first, true), number(by, true))
				wantPut(t, even(many, first, by), true, want)
			}
			want := slices.Concat(slowHead(3, 0, many), number(1<<50, false), number(by, true))
			wantPut(t, even(many, 1<<50, by), false, want)
		}
	}
}

func TestEachWidth(t *testing.T) { // P9.2 to P9.4: the code is of the least width with room, two bits at least
	seen := map[int]bool{}
	for bits := range 64 {
		code := 1 + slices.IndexFunc(allWidths[1:], func(w int) bool { return w >= bits })
		for _, size := range []int{int(uint64(1) << bits >> 1), 1<<bits - 1} { // the least and the greatest one of so many bits
			for _, others := range []int{2, 3, 4, 7, 8, 9, 65} {
				for _, i := range []int{0, others / 2, others - 1} {
					diffs := with(make([]int, 1+others), 1+i, size)
					diffs[0] = 1
					wantCodes(t, diffs, code)
					diffs[0] = 1 << 20
					wantCodes(t, diffs, code)
				}
			}
			wantCodes(t, append([]int{1}, with(make([]int, 510), 509, size)...), code)
			wantCodes(t, []int{7, size, size, 0, size}, code)
			seen[code] = true
		}
	}
	if len(seen) != 31 {
		t.Errorf("%d codes, want each but that of one bit", len(seen))
	}
}

// wantCodes asks that Put chooses this code for numbers that rise so, and for
// numbers that fall so, wherever they may stand.
func wantCodes(t *testing.T, diffs []int, code int) {
	t.Helper()
	sum := 0
	for _, d := range diffs {
		if sum += d; sum < 0 {
			return // too far for an int
		}
	}
	up := along(0, diffs...)
	down, lowest, below := slices.Clone(up), slices.Clone(up), slices.Clone(up)
	for i, x := range up {
		down[i], lowest[i], below[i] = sum-x, math.MinInt+x, -x
	}
	for _, l := range [][]int{up, down, lowest, below} {
		for _, signed := range []bool{false, true} {
			if !checkPut(t, l, signed) {
				if signed || slices.Min(l) >= 0 {
					t.Fatalf("Put(%d, %v) is refused", l, signed)
				}
				continue
			}
			if b, _ := Put(l, signed); !bytes.Equal(b[:2], slowHead(3, code, len(l))) {
				t.Fatalf("Put(%d, %v) = %x: want the code %d", l, signed, b, code)
			}
		}
	}
}

func TestFirstDiffIsNotPacked(t *testing.T) { // P9.2: the width is that of the others alone
	for _, first := range []int{1000, 1 << 24, 1 << 40, 1<<62 - 1} {
		wantCodes(t, []int{first, 0}, 1)
		wantCodes(t, []int{first, 1, 0, 1}, 1)
		wantCodes(t, []int{first, 3, 0, 2}, 1)
		wantCodes(t, []int{first, 1, 4}, 2)
		wantCodes(t, []int{first, 200, 0, 0, 0, 0, 0, 0, 1}, 7)
		wantCodes(t, []int{first, first}, 0)
	}
}

func TestDiffsOfAllSigns(t *testing.T) { // P9.2 to P9.4: all there are of few Diffs, with 0 ahead, between and behind
	falls := func(a, b int) int { return b - a }
	var try func(diffs []int)
	try = func(diffs []int) {
		l := along(0, diffs...)
		may := len(l) > 1 && (slices.IsSorted(l) || slices.IsSortedFunc(l, falls) && diffs[0] != 0)
		if checkPut(t, l, true) != may {
			t.Fatalf("Put(%d, true): want %v", l, may)
		}
		if checkPut(t, along(50, diffs...), false) != may {
			t.Fatalf("Put of %d from 50 on: want %v", diffs, may)
		}
		checkPut(t, along(3, diffs...), false) // some go below 0
		if len(diffs) == 5 {
			return
		}
		for _, d := range []int{0, 1, -1, 4, -4} {
			try(append(slices.Clone(diffs), d))
		}
	}
	try(nil)
}

func TestRiseAndFall(t *testing.T) { // P9.2: one of many is another
	for _, many := range []int{3, 4, 9, 511, 512} {
		for _, i := range []int{0, 1, (many - 1) / 2, many - 2} {
			for _, size := range []int{1, 5, 1 << 40} {
				up, down, none := even(many-1, size, 0), even(many-1, -size, 0), even(many-1, 0, 0)
				for _, c := range []struct {
					diffs []int
					may   bool
				}{
					{with(up, i, -1), false},
					{with(up, i, -1<<50), false},
					{with(up, i, 0), true},
					{with(up, i, 1<<50), true},
					{with(down, i, 1), false},
					{with(down, i, 1<<50), false},
					{with(down, i, 0), i > 0},
					{with(down, i, -1<<50), true},
					{with(none, i, size), true},
					{with(none, i, -size), i == 0},
				} {
					for _, signed := range []bool{false, true} {
						if l := along(1<<55, c.diffs...); checkPut(t, l, signed) != c.may {
							t.Fatalf("Put(%d, %v): want %v", l, signed, c.may)
						}
					}
				}
			}
		}
	}
	wantNoPut(t, []int{3, 3, 2}, false)
	wantNoPut(t, []int{3, 3, 3, 3, 2}, true)
	wantNoPut(t, []int{3, 3, 4, 3}, true)
	wantPut(t, []int{3, 3, 4, 4}, false, []byte("\xc2\x03\x03\x00\x40"))
	wantPut(t, []int{4, 3, 3, 2}, false, []byte("\xc2\x03\x04\x01\x10"))
}

func TestPutOfNumbersBelowZero(t *testing.T) { // P9.2: the first, one in the middle, the last, all of them
	for _, many := range []int{2, 3, 4, 9, 511, 512} {
		for _, l := range [][]int{
			even(many, -1, 1), even(many, -1, 1<<40),
			even(many, many-2, -1), even(many, (many-1)<<40-1, -1<<40),
			even(many, -1, 0), even(many, -many, 1), even(many, -1, -1),
			with(even(many, 1, 1), 0, -1), with(even(many, many, -1), many-1, -1),
			with(even(many, 1, 1), 0, -1<<62), with(even(many, many, -1), many-1, -1<<62),
		} {
			wantNoPut(t, l, false)
			if !checkPut(t, l, true) {
				t.Fatalf("Put(%d, true) is refused", l)
			}
		}
		for _, x := range []int{-1, math.MinInt} {
			wantNoPut(t, with(even(many, 5, 0), many/2, x), false)
			wantNoPut(t, with(even(many, many, -1), many/2, x), false)
		}
		wantPut(t, even(many, 0, 1), false, slices.Concat(slowHead(3, 0, many), number(0, false), number(1, true)))
		wantPut(t, even(many, many-1, -1), false, slices.Concat(slowHead(3, 0, many), number(many-1, false), number(-1, true)))
	}
}

func TestPutOfNumbersTooFar(t *testing.T) { // P9.2: a Diff that is none: the first, one in the middle, the last
	for _, c := range []struct{ a, b int }{
		{-1, math.MaxInt}, {math.MinInt, 0}, {-1 << 62, 1 << 62}, {math.MinInt, math.MaxInt}, {-2, math.MaxInt},
	} {
		wantNoPut(t, []int{c.a, c.b}, true)
		wantNoPut(t, []int{c.b, c.a}, true)
		wantNoPut(t, []int{c.a, c.b}, false)
		for _, many := range []int{3, 4, 9, 512} {
			for _, n := range []int{1, many / 2, many - 1} {
				wantNoPut(t, slices.Concat(even(n, c.a, 0), even(many-n, c.b, 0)), true)
			}
		}
		wantNoPut(t, []int{c.b, c.a, c.a}, true)
	}
	wantNoPut(t, []int{2, 1, 0, math.MinInt}, true)
	wantNoPut(t, []int{2, 1, 0, math.MinInt, math.MinInt}, true)
	wantNoPut(t, []int{-3, -2, -1, math.MaxInt}, true)
	if !checkPut(t, []int{1, 0, -1, math.MinInt}, true) || !checkPut(t, []int{-2, -1, 0, math.MaxInt}, true) {
		t.Error("2^63 - 1 is refused")
	}
}

func TestTakeOfCutBytes(t *testing.T) { // P9.3: at each place
	for code := range 32 {
		for _, many := range []int{2, 3, 6, 7, 10, 67} {
			for _, by := range []int{0, 1, 200, -200} {
				wantNoCut(t, run(code, many, number(1<<40, true), number(by, true), slices.Repeat([]uint64{1}, many-2)...), many)
			}
		}
	}
	for _, code := range []int{0, 1, 8, 31} {
		wantNoCut(t, run(code, 512, number(1<<40, true), number(-200, true), slices.Repeat([]uint64{1}, 510)...), 512)
	}
	wantNoTake(t, nil, false)
	wantNoTake(t, nil, true)
	wantNoTake(t, []byte{}, true)
}

// wantNoCut asks that b, which is a run of so many numbers, is refused wherever it is cut.
func wantNoCut(t *testing.T, b []byte, many int) {
	t.Helper()
	for n := range b {
		wantNoTake(t, b[:n], false)
		wantNoTake(t, b[:n], true)
		wantNoTake(t, bytes.Clone(b[:n]), true)
	}
	checkTake(t, b)
	if l, rest, e := Take(b, true); len(l) != many || len(rest) != 0 || e != api.OK {
		t.Fatalf("Take(%x, true) = %d, %x, %d", b, l, rest, e)
	}
}

func TestTakeOfOtherHeads(t *testing.T) { // P9.3: of each other kind, and of one number
	for code := range 32 {
		for _, many := range []int{2, 3, 8, 512} {
			b := run(code, many, []byte{9}, []byte{2}, slices.Repeat([]uint64{1}, many-2)...)
			for kind := range 4 {
				h := append(slowHead(kind, code, many), b[2:]...)
				if kind != 3 {
					wantNeverTake(t, h, false)
					wantNeverTake(t, h, true)
				}
				checkTake(t, h)
			}
		}
		for _, behind := range []string{"", "\x00", "\x00\x00", "\x05\x02", "\x05\x01\x00\x00\x00\x00\x00\x00\x00\x00\x00"} {
			b := append(slowHead(3, code, 1), behind...)
			wantNeverTake(t, b, false)
			wantNeverTake(t, b, true)
		}
	}
	wantNeverTake(t, []byte("\x02\x0e"), true) // repeat's
	wantNeverTake(t, []byte("\x0a\x27\x10"), false)
	wantNeverTake(t, []byte("\x5e\x03\x5c\xa1\xab\x1e\xde\xad\xbe\xef"), false) // direct's
	wantNeverTake(t, []byte("\x8e\x09\x2b\x21\x07\xd0\x1e\x00\x14\x70\x28\x32\x3c\x46\x50\x5a\xfc\xe8"), false)
}

func TestTakeOfEachCode(t *testing.T) { // P9.3: of wider ones than there need be, too
	for code := 1; code < 32; code++ {
		for _, sizes := range [][]uint64{nil, {0}, {1}, {3}, {2, 2}, {0, 3, 0, 1}, {3, 2, 1, 0, 1, 2, 3, 0, 1}} {
			for _, by := range []int{2, 0, -2} {
				l := along(40, by)
				for _, size := range sizes {
					if by < 0 {
						l = append(l, l[len(l)-1]-int(size))
					} else {
						l = append(l, l[len(l)-1]+int(size))
					}
				}
				wantTake(t, run(code, len(l), number(40, false), number(by, true), sizes...), false, l)
				wantTake(t, run(code, len(l), number(40, true), number(by, true), sizes...), true, l)
			}
		}
	}
	for _, many := range []int{2, 3, 9, 512} { // the code 0: what follows is behind
		for _, by := range []int{2, 0, -2} {
			wantTake(t, run(0, many, number(1030, false), number(by, true)), false, even(many, 1030, by))
			wantTake(t, run(0, many, number(-5, true), number(by, true)), true, even(many, -5, by))
		}
	}
	wantTake(t, []byte("\xfe\x02\x05\x02\x00\x00\x00\x00\x00\x00\x00\x07"), false, []int{5, 6, 13})
	wantTake(t, []byte("\xfe\x01\x05\x02"), false, []int{5, 6})
}

func TestTakeOfNoNumbers(t *testing.T) { // P9.3: a first number, or a first Diff, that varint refuses
	bad := []string{
		"\x80\x00", "\xff\x00", "\x81\x80\x00", "\x80\x80\x80\x80\x80\x80\x80\x80\x80\x00",
		"\x80\x80\x80\x80\x80\x80\x80\x80\x80\x02", "\xff\xff\xff\xff\xff\xff\xff\xff\xff\x7f",
		"\xff\xff\xff\xff\xff\xff\xff\xff\xff\x81\x00", "\x80\x80\x80\x80\x80\x80\x80\x80\x80\x80\x01",
	}
	for code := range 32 {
		for _, u := range bad {
			for _, signed := range []bool{false, true} {
				for _, many := range []int{2, 3} {
					sizes := slices.Repeat([]uint64{0}, many-2)
					wantNeverTake(t, run(code, many, []byte(u), []byte{0}, sizes...), signed)
					wantNeverTake(t, run(code, many, []byte{0}, []byte(u), sizes...), signed)
					wantNeverTake(t, run(code, many, []byte(u), []byte(u), sizes...), signed)
				}
			}
		}
		for _, x := range []int{-1, -1 << 62, math.MinInt} { // 2^63 and above, as it is not signed
			u := slowNumber(new(big.Int).SetUint64(uint64(x)))
			wantNeverTake(t, run(code, 3, u, []byte{0}, 0), false)
		}
		wantTake(t, run(code, 2, []byte("\xff\xff\xff\xff\xff\xff\xff\xff\xff\x01"), []byte{0}), true, []int{math.MinInt, math.MinInt})
		wantTake(t, run(code, 2, []byte("\xff\xff\xff\xff\xff\xff\xff\xff\x7f"), []byte{0}), false, []int{math.MaxInt, math.MaxInt})
	}
}

func TestTakeOfBitsLeftOver(t *testing.T) { // P9.3: each bit behind the last size in its byte is 0
	for code := 1; code < 32; code++ {
		w := allWidths[code]
		for _, others := range []int{1, 2, 3, 4, 5, 6, 7, 8, 9, 509, 510} {
			b := run(code, others+2, []byte{0}, []byte{2}, slices.Repeat([]uint64{1}, others)...)
			for bit := range (8 - others*w%8) % 8 {
				b[len(b)-1] ^= 1 << bit
				wantNeverTake(t, b, false)
				wantNeverTake(t, b, true)
				b[len(b)-1] ^= 1 << bit
			}
			wantTake(t, b, false, even(others+2, 0, 1)) // what stands behind that byte is another's
		}
	}
	wantNoTake(t, []byte("\xc2\x02\x00\x02\x41"), false)
	wantNoTake(t, []byte("\xc2\x02\x00\x02\x60"), true)
}

func TestTakeBeyond(t *testing.T) { // P9.3: sizes that lead to the end of an int, or to 0, and one beyond, at each step
	for _, c := range []struct {
		end    int
		signed bool
		sign   int
	}{{math.MaxInt, false, 1}, {math.MaxInt, true, 1}, {math.MinInt, true, -1}, {0, false, -1}} {
		for _, many := range []int{2, 3, 4, 9, 512} {
			for _, last := range []uint64{1, 2, 200, 1 << 40, 1<<62 - 1} {
				for _, at := range []int{1, many / 2, many - 1} { // where the end is reached
					wantToEnd(t, c.end, c.sign, c.signed, many, at, last)
				}
			}
		}
	}
	// with the code 0, at the first step and at later ones
	for many := 2; many < 9; many++ {
		for _, by := range []int{1, 2, 1000, 1 << 58} {
			way := by * (many - 1)
			wantTake(t, run(0, many, number(math.MaxInt-way, false), number(by, true)), false, even(many, math.MaxInt-way, by))
			wantTake(t, run(0, many, number(math.MaxInt-way, true), number(by, true)), true, even(many, math.MaxInt-way, by))
			wantTake(t, run(0, many, number(math.MinInt+way, true), number(-by, true)), true, even(many, math.MinInt+way, -by))
			wantTake(t, run(0, many, number(way, false), number(-by, true)), false, even(many, way, -by))
			wantNeverTake(t, run(0, many, number(math.MaxInt-way+1, false), number(by, true)), false)
			wantNeverTake(t, run(0, many, number(math.MaxInt-way+1, true), number(by, true)), true)
			wantNeverTake(t, run(0, many, number(math.MinInt+way-1, true), number(-by, true)), true)
			wantNeverTake(t, run(0, many, number(way-1, false), number(-by, true)), false)
		}
	}
}

// wantToEnd asks that numbers are taken whose number at is the end, by a step
// of so much, and that they are not with a step of one more.
func wantToEnd(t *testing.T, end, sign int, signed bool, many, at int, last uint64) {
	t.Helper()
	first := end - sign*int(last)
	sizes := make([]uint64, many-2)
	for _, more := range []uint64{0, 1} {
		by := 0
		switch {
		case at == 1:
			by = sign * int(last+more)
		case sign < 0: // a first Diff has to be below 0 for others to fall
			by = -1
			sizes[at-2] = last - 1 + more
		default:
			sizes[at-2] = last + more
		}
		b := run(31, many, number(first, signed), number(by, true), sizes...)
		if more > 0 {
			wantNeverTake(t, b, signed)
			continue
		}
		l, rest, e := Take(b, signed)
		if len(l) != many || e != api.OK || len(rest) != 0 || l[0] != first || l[at] != end || l[many-1] != end || l[at-1] == end && last > 1 {
			t.Fatalf("Take(%x, %v) = %d, %x, %d; want from %d to %d", b, signed, l, rest, e, first, end)
		}
		checkTake(t, b)
	}
}

func TestTakeOfGreatSizes(t *testing.T) { // P9.3: of 2^63 and above, though the number behind would be an int's
	for _, size := range []uint64{half, half + 1, 1<<64 - 2, 1<<64 - 1} {
		for _, others := range []int{1, 2, 8, 510} {
			for _, i := range []int{0, others / 2, others - 1} {
				for _, c := range []struct{ first, by int }{{0, 0}, {0, 2}, {1 << 40, -2}, {math.MinInt, 0}, {math.MinInt, 2}, {math.MaxInt, -2}} {
					sizes := make([]uint64, others)
					sizes[i] = size
					wantNeverTake(t, run(31, others+2, number(c.first, true), number(c.by, true), sizes...), true)
					if c.first >= 0 {
						wantNeverTake(t, run(31, others+2, number(c.first, false), number(c.by, true), sizes...), false)
					}
				}
			}
		}
	}
	for code := range 32 { // a first Diff of -2^63, whose size is no Step's
		for _, first := range []int{0, 1, math.MaxInt, -1} {
			wantNeverTake(t, run(code, 2, number(first, true), number(math.MinInt, true)), true)
			wantNeverTake(t, run(code, 3, number(first, true), number(math.MinInt, true), 0), true)
			wantNeverTake(t, run(code, 2, number(first&math.MaxInt, false), number(math.MinInt, true)), false)
		}
	}
	wantTake(t, run(0, 2, number(math.MaxInt, true), number(-math.MaxInt, true)), true, []int{math.MaxInt, 0})
	wantTake(t, run(31, 3, number(math.MinInt, true), number(0, true), math.MaxInt), true, []int{math.MinInt, math.MinInt, -1})
}

func TestTakeOfFirstDiffs(t *testing.T) { // P9.3: the others rise behind 0 and what is above, and fall behind what is below
	wantTake(t, []byte("\xc2\x03\x05\x00\x60"), false, []int{5, 5, 6, 8})
	wantTake(t, []byte("\xc2\x03\x05\x02\x60"), false, []int{5, 6, 7, 9})
	wantTake(t, []byte("\xc2\x03\x05\x01\x60"), false, []int{5, 4, 3, 1})
	wantTake(t, []byte("\xc2\x03\x05\x01\x60"), true, []int{-3, -4, -5, -7})
	wantTake(t, []byte("\xc2\x03\x05\x00\x00"), false, []int{5, 5, 5, 5})
	wantTake(t, []byte("\xc2\x03\x05\x01\x00"), false, []int{5, 4, 4, 4})
	wantTake(t, []byte("\xc0\x03\x05\x00"), false, []int{5, 5, 5, 5})
	wantTake(t, []byte("\xc0\x03\x05\x01"), false, []int{5, 4, 3, 2})
	wantTake(t, []byte("\xc0\x03\x05\x03"), true, []int{-3, -5, -7, -9})
	wantNeverTake(t, []byte("\xc0\x03\x05\x03"), false)     // 5, 3, 1, -1
	wantNeverTake(t, []byte("\xc2\x02\x05\x01\xff"), false) // bits left over
	wantNeverTake(t, []byte("\xc4\x02\x05\x01\xa0"), false) // 5, 4, -1
	wantTake(t, []byte("\xc4\x02\x05\x01\x80"), false, []int{5, 4, 0})
	for _, by := range edges() {
		for _, first := range []int{0, 1, -1, 1 << 40, math.MaxInt, math.MinInt} {
			for _, code := range []int{0, 1, 31} {
				for many := 2; many < 5; many++ {
					b := run(code, many, number(first, true), number(by, true), slices.Repeat([]uint64{3}, many-2)...)
					checkTake(t, b)
					checkTake(t, append(b, "behind"...))
				}
			}
		}
	}
}

func TestTwoWrong(t *testing.T) { // R3
	if b, ok := Step(math.MaxInt, 1<<64-1, false); b != 0 || ok { // P9.1: too great a size, and beyond
		t.Errorf("Step to %d, %v", b, ok)
	}
	wantNoPut(t, []int{-1}, false)                           // P9.2: too few, below 0
	wantNoPut(t, even(513, -1, 0), false)                    // too many, below 0
	wantNoPut(t, even(513, 0, math.MinInt), true)            // too many, too far
	wantNoPut(t, append(even(512, 0, 1), 0), true)           // too many, and the one too many falls
	wantNoPut(t, []int{-1, math.MaxInt}, false)              // below 0, too far
	wantNoPut(t, []int{1, 0, -1, 5}, false)                  // below 0, and one rises
	wantNoPut(t, []int{0, 0, math.MinInt}, true)             // too far, and falls behind 0
	wantNoPut(t, []int{5, 5, 6, 5}, true)                    // some rise, and others fall, behind 0
	wantNoTake(t, []byte("\x40"), false)                     // P9.3: of another kind, and cut
	wantNoTake(t, []byte("\x80\x00\x80\x00"), true)          // of another kind, of one number, and that is none
	wantNoTake(t, []byte("\xc0\x00\x80"), true)              // of one number, and cut
	wantNoTake(t, []byte("\xc0\x01\x80\x00\x80\x00"), true)  // no number, and no Diff
	wantNoTake(t, []byte("\xc0\x01\x00\x80"), true)          // a Diff that is cut
	wantNoTake(t, []byte("\xc2\x02\x00\x01\xff"), false)     // below 0, and bits left over
	wantNoTake(t, []byte("\xc2\x07\x00\x01\xff"), false)     // below 0, and sizes that are cut
	wantNoTake(t, []byte("\xc4\x02\x80\x00\x01\xff"), false) // no number, and bits left over
}

func TestTakeOfShortBytes(t *testing.T) { // P9.3: none, one, two, and all heads with some bytes behind
	checkTake(t, nil)
	for c := range 256 {
		checkTake(t, []byte{byte(c)})
		for d := range 256 {
			checkTake(t, []byte{byte(c), byte(d)})
		}
		for _, d := range []byte{0, 1, 2, 3, 7, 8, 0x7f, 0xff} {
			for _, rest := range []string{"\x00", "\x01\x00", "\x80\x01", "\x05\x02\x40", "\x05\x01\x00\x00", "\xff\xff\xff\xff\xff", "\x12\x34\x56\x78\x9a\xbc\xde\xf0\x12", "\x80\x08\x03\x00\x00\x00\x00\x00\x00\x00\xff\x00\x00\x00\x00\x00\x00\x00\x00"} {
				checkTake(t, append([]byte{byte(c), d}, rest...))
			}
		}
	}
}

// someNumbers rise or fall, by sizes of at most so many bits.
func someNumbers(from *rand.Rand, many, bits int, signed bool) []int {
	l := make([]int, many)
	if l[0] = int(from.Uint64() >> 1 >> from.Intn(62)); signed && from.Intn(2) == 0 {
		l[0] = ^l[0]
	}
	sign := 1 - 2*from.Intn(2)
	for i := 1; i < many; i++ {
		size := int(from.Uint64() >> (64 - bits) >> from.Intn(bits))
		l[i] = l[i-1] + sign*size // some go beyond, and come out on the other side
	}
	return l
}

func TestSomeNumbers(t *testing.T) { // P9.2 to P9.4: with a bit turned, too, and cut
	from := rand.New(rand.NewSource(9))
	put := 0
	for range 20000 {
		signed := from.Intn(2) == 0
		l := someNumbers(from, 2+from.Intn(20), 1+from.Intn(62), signed)
		if from.Intn(20) == 0 {
			l = even(len(l), l[0], l[1]-l[0])
		}
		if !checkPut(t, l, signed) {
			continue
		}
		put++
		b, _ := slowPut(l, signed)
		b = append(b, "behind it all"...)
		checkTake(t, b[:from.Intn(len(b))])
		b[from.Intn(len(b))] ^= byte(1 << from.Intn(8))
		checkTake(t, b)
	}
	if put < 5000 {
		t.Errorf("only %d were laid down", put)
	}
}

func TestOneBehindAnother(t *testing.T) { // P9.4: what stands behind is taken next
	from := rand.New(rand.NewSource(4))
	var all [][]int
	var together []byte
	for n := range 400 {
		l := someNumbers(from, 2+from.Intn(30), 1+n%50, true)
		if b, e := Put(l, true); e == api.OK {
			all, together = append(all, l), append(together, b...)
		}
	}
	if len(all) < 100 {
		t.Fatalf("only %d were laid down", len(all))
	}
	for _, l := range all {
		got, rest, e := Take(together, true)
		if !slices.Equal(got, l) || e != api.OK {
			t.Fatalf("Take = %d, %d; want %d", got, e, l)
		}
		together = rest
	}
	if len(together) != 0 {
		t.Errorf("left: %x", together)
	}
}

// TestNumbersAreLeft: numbers that are handed in, and the room behind them,
// stay as they were, and what is answered is the caller's own.
func TestNumbersAreLeft(t *testing.T) { // R7
	for _, numbers := range [][]int{{1, 2, 4, 9, 9, 12}, {9, 7, 6, 6, -2, -3}, {5, 5, 5, 5, 5, 5}, {2, 4, 6, 8, 7, 7}} {
		for n := range len(numbers) + 1 { // some are refused
			for _, signed := range []bool{false, true} {
				l := slices.Clone(numbers)
				one, _ := Put(l[:n], signed)
				two, _ := Put(l[:n], signed)
				want := bytes.Clone(one)
				clear(one[:cap(one)])
				if !slices.Equal(l, numbers) {
					t.Fatalf("%d numbers, %v: handed in is now %d", n, signed, l)
				}
				clear(l)
				if !bytes.Equal(two, want) {
					t.Fatalf("%d numbers, %v: an answer went with another: %x", n, signed, two)
				}
			}
		}
	}
}

func TestBytesAreLeft(t *testing.T) { // R7
	for _, text := range []string{"\xc2\x04\x05\x02\x64rest and room", "\xc0\x04\x05\x02rest and room", "\xc6\x01\x05\x02rest and room"} {
		for n := range len(text) + 1 { // some are refused
			for _, signed := range []bool{false, true} {
				b := []byte(text)
				l, rest, _ := Take(b[:n], signed)
				m, behind, _ := Take(b[:n], signed)
				wantL, wantRest := slices.Clone(l), bytes.Clone(rest)
				clear(l[:cap(l)])
				clear(rest[:cap(rest)])
				if string(b) != text {
					t.Fatalf("%d bytes, %v: handed in is now %q", n, signed, b)
				}
				clear(b)
				if !slices.Equal(m, wantL) || !bytes.Equal(behind, wantRest) {
					t.Fatalf("%d bytes, %v: an answer went with another, or with what was handed in: %d, %x", n, signed, m, behind)
				}
			}
		}
	}
}

// TestRoomIsNotRead: what stands behind the end is not the list's.
func TestRoomIsNotRead(t *testing.T) { // R6
	b := []byte("\xc4\x09\x02\x02\x4a\x28\xa6\x00\x01")
	for n := range len(b) + 1 {
		checkTake(t, b[:n])
		checkTake(t, b[:n:n])
	}
	l := []int{1, 2, 4, -1, 1 << 40}
	wantPut(t, l[:3], false, []byte("\xc2\x02\x01\x02\x80"))
	wantPut(t, l[:3:3], false, []byte("\xc2\x02\x01\x02\x80"))
	wantNoPut(t, l[:1], false)
	wantNoPut(t, l[:0], true)
}

func FuzzDiff(f *testing.F) { // P9.1
	f.Add(3, 5, uint64(2), false)
	f.Add(-1, math.MaxInt, uint64(half), true)
	f.Add(math.MinInt, math.MaxInt, uint64(math.MaxInt), false)
	f.Fuzz(func(t *testing.T, a, b int, size uint64, falls bool) {
		checkDiff(t, a, b)
		checkStep(t, a, size, falls)
		checkStep(t, b, size>>1, falls)
	})
}

func FuzzPut(f *testing.F) { // P9.2, P9.4: eight bytes a number, of which it keeps some bits
	f.Add([]byte("\x00\x00\x00\x00\x00\x00\x00\x02\x00\x00\x00\x00\x00\x00\x00\x01"), 64, false)
	f.Add([]byte("12345678abcdefgh87654321"), 17, true)
	f.Add([]byte("\xff\xff\xff\xff\xff\xff\xff\xff\x00\x00\x00\x00\x00\x00\x00\x00"), 64, true)
	f.Fuzz(func(t *testing.T, b []byte, bits int, signed bool) {
		var l, up []int
		for ; len(b) >= 8; b = b[8:] {
			x := int(said(written(b[:8])))
			l = append(l, x>>(64-(1+bits&63)))
		}
		checkPut(t, l, signed)
		for i := range l { // few are by themselves such as rise, or fall
			up = append(up, l[i])
			if i > 0 {
				up[i] = up[i-1] + (l[i] & math.MaxInt)
			}
		}
		checkPut(t, up, signed)
		slices.Reverse(up)
		checkPut(t, up, signed)
	})
}

func FuzzTake(f *testing.F) { // P9.3
	f.Add([]byte(nil))
	f.Add([]byte("\xc4\x09\x02\x02\x4a\x28\xa6"))
	f.Add([]byte("\xc0\x02\x0a\x00"))
	f.Add([]byte("\xfe\x02\x00\x01\xff\xff\xff\xff\xff\xff\xff\xff"))
	f.Add([]byte("\x5e\x03\x5c\xa1\xab\x1e\xde\xad\xbe\xef"))
	f.Fuzz(func(t *testing.T, b []byte) {
		checkTake(t, b)
		if len(b) > 1 { // few heads are of this kind, and of few numbers
			b = bytes.Clone(b)
			b[0], b[1] = 0xc0|b[0]&0x3e, b[1]&15
			checkTake(t, b)
		}
	})
}
