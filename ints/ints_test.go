package ints

import (
	"bytes"
	"math"
	"math/big"
	"math/rand"
	"slices"
	"strconv"
	"strings"
	"testing"

	"pilaster/api"
	"pilaster/byterle"
	"pilaster/delta"
	"pilaster/direct"
	"pilaster/patched"
	"pilaster/repeat"
	"pilaster/rle"
)

// kinds are all those of numbers; those of rows have one row as rle has it.
var (
	kinds  = []int{api.Bool, api.Int, api.Decimal, api.Date, api.Time}
	ofRows = []int{api.Int, api.Decimal, api.Date}
)

// noKinds are none of numbers.
var noKinds = []int{math.MinInt, math.MinInt + 1, math.MinInt + 2, -1 << 32, -1<<32 + 1, -256, -255, -6, -5, -4, -3, -2, -1, 0, api.Text, api.Bytes, 8, 9, 16, 255, 256, 257, 258, 261, 1<<32 + 1, 1<<32 + 5, math.MaxInt - 1, math.MaxInt}

// farMany: numbers that are not how many values there may be.
var farMany = []int{math.MinInt, math.MinInt + 1, -1 << 32, -1<<32 + 3, -4097, -4096, -9, -8, -7, -3, -2, -1, 4097, 4098, 4104, 4105, 8192, 1 << 16, 1 << 31, 1 << 32, 1<<32 + 3, math.MaxInt - 7, math.MaxInt - 1, math.MaxInt}

// sizes: how many values there are where a byte, a run or all of them end.
var sizes = []int{0, 1, 2, 3, 4, 7, 8, 9, 10, 11, 16, 17, 511, 512, 513, 514, 1040, 1041, 4088, 4089, 4095, 4096}

// tooMany: how many there may not be.
var tooMany = []int{4097, 4098, 4104, 4608, 8192, 1 << 16}

// edges are numbers of which little, or much, is left by 1000, and the least
// and the greatest ones.
var edges = []int{
	0, 1, 2, 499, 500, 998, 999, 1000, 1001, 1999, 2000, 2001, 999999, 1000000, 1000001, 1 << 32, 1<<62 - 1, 1 << 62,
	-1, -2, -500, -998, -999, -1000, -1001, -1002, -1999, -2000, -2001, -999999, -1000000, -1000001, -1 << 32, -1 << 62,
	math.MaxInt, math.MaxInt - 1, math.MaxInt - 806, math.MaxInt - 807, math.MaxInt - 808, math.MaxInt - 1807, math.MaxInt - 1808,
	math.MinInt, math.MinInt + 1, math.MinInt + 806, math.MinInt + 807, math.MinInt + 808, math.MinInt + 809, math.MinInt + 1807, math.MinInt + 1808,
}

// rests: what may stand behind.
var rests = []string{"", "\x00", "\x01", "\x7f", "\x80", "\xff", "\x00\x00", "\x02\x0e", "\xff\x00", "\x40\x00\x80", "\x00\x02\x00\x01 and more"}

// wrongs are values of which none may stand in a column of numbers, of any kind.
var wrongs = []api.Value{
	{Null: true}, {Null: true, N: 1}, {Null: true, S: "a"}, {Null: true, N: math.MinInt, S: "\xff"},
	{S: "a"}, {S: "0"}, {S: "\x00"}, {S: "\xff"}, {N: 1, S: "1"}, {S: strings.Repeat("a", 301)},
}

// of are numbers as values.
func of(l ...int) []api.Value {
	out := make([]api.Value, len(l))
	for i, n := range l {
		out[i].N = n
	}
	return out
}

// with is l, with v at place i.
func with[T any](l []T, i int, v T) []T {
	l = slices.Clone(l)
	l[i] = v
	return l
}

// alikes are so many numbers that are all the same.
func alikes(many, x int) []int { return slices.Repeat([]int{x}, many) }

// turns are two numbers, turn about, so many in all.
func turns(many, x, y int) []int {
	l := make([]int, many)
	for i := range l {
		l[i] = x
		x, y = y, x
	}
	return l
}

// rise are so many numbers, each by as much more than the one ahead of it.
func rise(many, first, by int) []int {
	l := make([]int, many)
	for i := range l {
		l[i] = first + by*i
	}
	return l
}

// drawn are so many numbers by chance: stretches of few bits and of many, of
// numbers that stand often, that rise, and that fall.
func drawn(from *rand.Rand, many int) []int {
	var l []int
	for len(l) < many {
		x := int(from.Uint64()) >> from.Intn(64)
		size := 1 + from.Intn(1<<from.Intn(10))
		switch from.Intn(4) {
		case 0:
			l = append(l, alikes(size, x)...)
		case 1:
			l = append(l, rise(size, x, from.Intn(4000))...) // it may go over, and on from the least one
		case 2:
			l = append(l, rise(size, x, -from.Intn(4000))...)
		default:
			shift := from.Intn(64)
			for range size {
				l = append(l, int(from.Uint64())>>shift)
			}
		}
	}
	return l[:many]
}

// drawnOf are so many numbers by chance that may be of the kind.
func drawnOf(from *rand.Rand, kind, many int) []int {
	l := drawn(from, many)
	if kind == api.Bool {
		for i, x := range l {
			l[i] = x & 1
		}
	}
	return l
}

// told tells values by how many they are, and the first of them.
func told(l []api.Value) string {
	var s strings.Builder
	s.WriteString(strconv.Itoa(len(l)) + " values:")
	for _, v := range l[:min(len(l), 20)] {
		if v.Null {
			s.WriteString(" Null")
		}
		s.WriteString(" " + strconv.Itoa(v.N))
		if v.S != "" {
			s.WriteString(strconv.Quote(v.S))
		}
	}
	return s.String()
}

// slowTruths are numbers of Bool as layer 6 has truths: as digits, with noughts
// behind the last one till its byte is full.
func slowTruths(l []int) []byte {
	var packed []byte
	for eight := range slices.Chunk(l, 8) {
		digits := ""
		for _, n := range eight {
			digits += strconv.Itoa(n)
		}
		x, err := strconv.ParseUint(digits+strings.Repeat("0", 8-len(eight)), 2, 8)
		if err != nil {
			panic(err)
		}
		packed = append(packed, byte(x))
	}
	b, e := byterle.Put(packed)
	if e != api.OK {
		panic(e)
	}
	return b
}

// row are numbers as layer 11 has them, run by run.
func row(l []int, signed bool) []byte {
	var b []byte
	for len(l) > 0 {
		n := rle.Cut(l)
		run, e := rle.Run(l[:n], signed)
		if e != api.OK {
			panic(e)
		}
		b, l = append(b, run...), l[n:]
	}
	return b
}

// rows are the two of Time, one behind the other.
func rows(thousands, left []int) []byte {
	return append(row(thousands, true), row(left, false)...)
}

var thousandBig = big.NewInt(1000)

// slowParts are a number's thousands, rounded down, and what is left of it.
func slowParts(n int) (thousands, left int) {
	q, r := new(big.Int).DivMod(big.NewInt(int64(n)), thousandBig, new(big.Int))
	return int(q.Int64()), int(r.Int64())
}

// slowTimes are numbers of Time as two rows.
func slowTimes(l []int) []byte {
	thousands, left := make([]int, len(l)), make([]int, len(l))
	for i, n := range l {
		thousands[i], left[i] = slowParts(n)
	}
	return rows(thousands, left)
}

// slowLay are numbers that may be of the kind, as P14.1 lays them down.
func slowLay(kind int, l []int) []byte {
	switch kind {
	case api.Bool:
		return slowTruths(l)
	case api.Time:
		return slowTimes(l)
	}
	return row(l, true)
}

// slowPut is P14.1's words.
func slowPut(kind int, l []api.Value) ([]byte, api.Errno) {
	if !slices.Contains(kinds, kind) {
		return nil, api.ErrArg
	}
	if len(l) > 4096 {
		return nil, api.ErrBig
	}
	var numbers []int
	for _, v := range l {
		if v.Null || v.S != "" || kind == api.Bool && v.N != 0 && v.N != 1 {
			return nil, api.ErrType
		}
		numbers = append(numbers, v.N)
	}
	return slowLay(kind, numbers), api.OK
}

// takeTruths are so many numbers of Bool that b is, and whether it is just that.
func takeTruths(b []byte, many int) (l []int, ok bool) {
	packed, rest, e := byterle.Take(b, (many+7)/8)
	if e != api.OK || len(rest) > 0 {
		return nil, false
	}
	for i := range len(packed) * 8 {
		bit := int(packed[i/8]) >> (7 - i%8) % 2
		if i < many {
			l = append(l, bit)
		} else if bit == 1 {
			return nil, false
		}
	}
	return l, true
}

// takeRow are so many numbers of the runs that b begins with, what stands
// behind them, and whether they are there.
func takeRow(b []byte, many int, signed bool) (l []int, rest []byte, ok bool) {
	for len(l) < many {
		if len(b) == 0 {
			return nil, nil, false
		}
		var run []int
		var e api.Errno
		switch b[0] / 64 {
		case 0:
			var x, times int
			x, times, b, e = repeat.Take(b, signed)
			run = alikes(times, x)
		case 1:
			run, b, e = direct.Take(b, signed)
		case 2:
			run, b, e = patched.Take(b, signed)
		case 3:
			run, b, e = delta.Take(b, signed)
		}
		if e != api.OK {
			return nil, nil, false
		}
		l = append(l, run...)
	}
	return l, b, len(l) == many
}

// takeTimes are so many numbers of Time that b is, and whether it is just that.
func takeTimes(b []byte, many int) (l []int, ok bool) {
	thousands, b, ok := takeRow(b, many, true)
	if !ok {
		return nil, false
	}
	left, b, ok := takeRow(b, many, false)
	if !ok || len(b) > 0 {
		return nil, false
	}
	for i, r := range left {
		n := new(big.Int).Mul(big.NewInt(int64(thousands[i])), thousandBig)
		n.Add(n, big.NewInt(int64(r)))
		if r > 999 || !n.IsInt64() {
			return nil, false
		}
		l = append(l, int(n.Int64()))
	}
	return l, true
}

// slowTake is P14.2's words for so many values, which is 0 to 4096, of a kind
// of numbers: them, and whether b is just theirs.
func slowTake(kind int, b []byte, many int) (l []int, ok bool) {
	switch kind {
	case api.Bool:
		return takeTruths(b, many)
	case api.Time:
		return takeTimes(b, many)
	}
	l, b, ok = takeRow(b, many, true)
	return l, ok && len(b) == 0
}

// wantPut asks that Put lays l down so.
func wantPut(t *testing.T, kind int, l []api.Value, want []byte) {
	t.Helper()
	if got, e := Put(kind, l); e != api.OK || !bytes.Equal(got, want) {
		t.Fatalf("Put(%d, %s) = %x, %d; want %x", kind, told(l), got, e, want)
	}
}

// wantNoPut asks that Put refuses l by an error, with nothing beside it.
func wantNoPut(t *testing.T, kind int, l []api.Value, want api.Errno) {
	t.Helper()
	if got, e := Put(kind, l); len(got) != 0 || e != want {
		t.Fatalf("Put(%d, %s) = %x, %d; want the error %d", kind, told(l), got, e, want)
	}
}

// checkPut holds Put against the slower reckoning, whatever it is given.
func checkPut(t *testing.T, kind int, l []api.Value) {
	t.Helper()
	if want, e := slowPut(kind, l); e == api.OK {
		wantPut(t, kind, l, want)
	} else {
		wantNoPut(t, kind, l, e)
	}
}

// wantTake asks that Take tells so of b.
func wantTake(t *testing.T, kind int, b []byte, want []api.Value) {
	t.Helper()
	if got, e := Take(kind, b, len(want)); e != api.OK || !slices.Equal(got, want) {
		t.Fatalf("Take(%d, %x, %d) = %s, %d; want %s", kind, b, len(want), told(got), e, told(want))
	}
}

// wantNoTake asks that Take refuses b by an error, with nothing beside it.
func wantNoTake(t *testing.T, kind int, b []byte, many int, want api.Errno) {
	t.Helper()
	if got, e := Take(kind, b, many); len(got) != 0 || e != want {
		t.Fatalf("Take(%d, %x, %d) = %s, %d; want the error %d", kind, b, many, told(got), e, want)
	}
}

// checkTake holds Take against the slower reckoning, whatever it is given.
func checkTake(t *testing.T, kind int, b []byte, many int) {
	t.Helper()
	if !slices.Contains(kinds, kind) || many < 0 || many > 4096 {
		wantNoTake(t, kind, b, many, api.ErrArg)
		return
	}
	if want, ok := slowTake(kind, b, many); ok {
		wantTake(t, kind, b, of(want...))
	} else {
		wantNoTake(t, kind, b, many, api.ErrCorrupt)
	}
}

// wantBoth asks that numbers that may be of the kind are laid down as P14.1 has
// it, and taken back.
func wantBoth(t *testing.T, kind int, l []int) {
	t.Helper()
	want := slowLay(kind, l)
	wantPut(t, kind, of(l...), want)
	wantTake(t, kind, want, of(l...))
}

// some are so many numbers that may be of the kind, none as the one ahead of it.
func some(kind, many int) []int {
	if kind == api.Bool {
		return turns(many, 1, 0)
	}
	l := make([]int, many)
	for i := range l {
		l[i] = i*i*7 - 3000*(i%2) - 1
	}
	return l
}

// columns are lists of numbers that may be of the kind, none of them empty.
func columns(kind int) [][]int {
	from := rand.New(rand.NewSource(int64(kind)))
	l := [][]int{some(kind, 1), some(kind, 2), some(kind, 3), some(kind, 9), some(kind, 24), alikes(3, 1), alikes(10, 1), alikes(24, 0), alikes(600, 1), drawnOf(from, kind, 5), drawnOf(from, kind, 40), drawnOf(from, kind, 700), append(alikes(5, 1), some(kind, 4)...), append(some(kind, 4), alikes(5, 1)...)}
	if kind != api.Bool {
		l = append(l, rise(20, -5000, 700), rise(20, 5000, -700), with(alikes(40, 3), 7, 1<<40), edges, []int{math.MaxInt}, []int{math.MinInt}, alikes(4, math.MinInt))
	}
	return l
}

func TestByHand(t *testing.T) { // P14.1, P14.2
	for _, c := range []struct {
		kinds []int
		l     []int
		b     string
	}{
		{kinds, nil, ""},
		{kinds[:1], []int{1, 0, 1}, "\xff\xa0"}, // the chapter's
		{kinds[:1], []int{0}, "\xff\x00"},
		{kinds[:1], []int{1}, "\xff\x80"},
		{kinds[:1], []int{0, 1}, "\xff\x40"},
		{kinds[:1], alikes(8, 1), "\xff\xff"},
		{kinds[:1], append(alikes(8, 0), 1), "\xfe\x00\x80"},
		{kinds[:1], alikes(24, 1), "\x00\xff"},
		{kinds[:1], turns(4096, 1, 0), "\x7f\xaa\x7f\xaa\x7f\xaa\x77\xaa"},
		{ofRows, []int{7, 7, 7, 7, 7}, "\x02\x0e"},
		{ofRows, []int{0}, "\x40\x00\x00"},
		{ofRows, []int{1}, "\x42\x00\x80"}, // signed: 1 stands as 2
		{ofRows, []int{-1}, "\x40\x00\x80"},
		{ofRows, []int{-1, -1, -1}, "\x00\x01"},
		{ofRows, []int{1, 2, 7, 7, 7, 7, 7}, "\x44\x01\x50\x02\x0e"}, // 2 and 4, of three bits; then five of 14
		{ofRows, alikes(3, math.MaxInt), "\x38\xff\xff\xff\xff\xff\xff\xff\xfe"},
		{ofRows, alikes(3, math.MinInt), "\x38\xff\xff\xff\xff\xff\xff\xff\xff"},
		{kinds[4:], []int{1001, 1001, 1001}, "\x00\x02\x00\x01"}, // the chapter's
		{kinds[4:], []int{-1, -1, -1}, "\x00\x01\x08\x03\xe7"},
		{kinds[4:], []int{-1000, -1000, -1000}, "\x00\x01\x00\x00"},
		{kinds[4:], []int{-1001, -1001, -1001}, "\x00\x03\x08\x03\xe7"},
		{kinds[4:], []int{-999, -999, -999}, "\x00\x01\x00\x01"},
		{kinds[4:], []int{0}, "\x40\x00\x00\x40\x00\x00"},
		{kinds[4:], []int{1}, "\x40\x00\x00\x40\x00\x80"},
		{kinds[4:], []int{1000}, "\x42\x00\x80\x40\x00\x00"},
		{kinds[4:], []int{-1}, "\x40\x00\x80\x52\x00\xf9\xc0"}, // -1, and 999 of ten bits
		{kinds[4:], alikes(3, math.MaxInt), "\x30\x41\x89\x37\x4b\xc6\xa7\xee\x08\x03\x27"},
		{kinds[4:], alikes(3, math.MinInt), "\x30\x41\x89\x37\x4b\xc6\xa7\xef\x00\xc0"},
	} {
		for _, kind := range c.kinds {
			wantPut(t, kind, of(c.l...), []byte(c.b))
			wantTake(t, kind, []byte(c.b), of(c.l...))
			wantBoth(t, kind, c.l)
		}
	}
	wantNoPut(t, api.Text, nil, api.ErrArg) // the chapter's
	for _, kind := range kinds {
		wantPut(t, kind, nil, nil)
		wantPut(t, kind, []api.Value{}, nil)
		wantTake(t, kind, nil, nil)
		wantTake(t, kind, []byte{}, nil)
	}
}

func TestOfNoKind(t *testing.T) { // P14.1, P14.2, R3: told ahead of all else
	for _, kind := range noKinds {
		for _, l := range [][]api.Value{nil, {}, of(0), of(1, 0, 1), of(5, -7), {{Null: true}}, {{S: "a"}}, of(alikes(4096, 1)...), of(alikes(4097, 1)...), slices.Repeat(wrongs, 500)} {
			wantNoPut(t, kind, l, api.ErrArg)
		}
		for _, b := range []string{"", "\x00\x00", "\xff\xa0", "\x02\x0e", "\x00\x02\x00\x01", "\x40\x00\x80", "\xff", "\x40"} {
			for _, many := range append([]int{0, 1, 3, 4096}, farMany...) {
				wantNoTake(t, kind, []byte(b), many, api.ErrArg)
			}
		}
	}
	for kind := -300; kind <= 300; kind++ {
		checkPut(t, kind, nil)
		checkPut(t, kind, of(1, 0, 1))
		checkPut(t, kind, of(2))
		checkTake(t, kind, nil, 0)
		checkTake(t, kind, []byte("\xff\xa0"), 3)
		checkTake(t, kind, []byte("\x00\x02\x00\x01"), 3)
	}
}

func TestPutOfEachSize(t *testing.T) { // P14.1 to P14.3
	from := rand.New(rand.NewSource(2))
	for _, kind := range kinds {
		for _, n := range sizes {
			for _, l := range [][]int{alikes(n, 0), alikes(n, 1), turns(n, 1, 0), turns(n, 0, 1), some(kind, n), drawnOf(from, kind, n)} {
				wantBoth(t, kind, l)
			}
		}
		for _, n := range tooMany {
			for _, l := range [][]int{alikes(n, 0), alikes(n, 1), some(kind, n)} {
				wantNoPut(t, kind, of(l...), api.ErrBig)
			}
		}
	}
}

func TestPutOfEachNumber(t *testing.T) { // P14.1: the least and the greatest that may be, and one beyond
	const greatest = math.MaxInt
	for _, n := range append([]int{-256, -255, 3, 255, 256, 257, 1<<32 + 1, -1<<32 + 1, math.MinInt + 1, greatest - 1}, edges...) {
		for _, l := range [][]int{{n}, {n, n, n}, {0, n}, {n, 1}, {1, 0, n, 1, 0}, alikes(600, n)} {
			for _, kind := range kinds {
				if kind == api.Bool && n != 0 && n != 1 {
					wantNoPut(t, kind, of(l...), api.ErrType)
				} else {
					wantBoth(t, kind, l)
				}
			}
		}
	}
	wantNoPut(t, api.Bool, of(-1), api.ErrType)
	wantNoPut(t, api.Bool, of(2), api.ErrType)
	wantNoPut(t, api.Bool, of(with(alikes(4096, 1), 4095, 2)...), api.ErrType)
	wantNoPut(t, api.Bool, of(with(alikes(4096, 0), 0, -1)...), api.ErrType)
}

func TestPutOfWrongValues(t *testing.T) { // P14.1: at the front, in the middle and at the end
	for _, kind := range kinds {
		for _, n := range []int{1, 2, 3, 9, 513, 4096} {
			l := of(some(kind, n)...)
			for _, i := range []int{0, n / 2, n - 1} {
				for _, v := range wrongs {
					wantNoPut(t, kind, with(l, i, v), api.ErrType)
				}
			}
			checkPut(t, kind, l)
		}
		for _, v := range wrongs {
			wantNoPut(t, kind, slices.Repeat([]api.Value{v}, 3), api.ErrType)
		}
	}
}

func TestPutOfBool(t *testing.T) { // P14.1
	for n := range 300 {
		for _, l := range [][]int{alikes(n, 0), alikes(n, 1), turns(n, 0, 1), turns(n, 1, 0)} {
			wantBoth(t, api.Bool, l)
		}
		if n > 0 {
			wantBoth(t, api.Bool, with(alikes(n, 0), n-1, 1))
			wantBoth(t, api.Bool, with(alikes(n, 1), n/2, 0))
		}
	}
	for n := range 10 { // all there are
		for x := range 1 << n {
			l := make([]int, n)
			for i := range l {
				l[i] = x >> i & 1
			}
			wantBoth(t, api.Bool, l)
		}
	}
}

func TestPutOfRows(t *testing.T) { // P14.1: numbers that stand often, that rise, that fall, and that are drawn
	from := rand.New(rand.NewSource(4))
	for _, n := range []int{1, 2, 3, 4, 5, 10, 11, 100, 513} {
		var lists [][]int
		for _, x := range []int{0, 1, -1, 63, 64, -64, -65, 1 << 31, -1 << 31, math.MaxInt, math.MinInt} {
			lists = append(lists, alikes(n, x), turns(n, x, 0), append(alikes(n, x), alikes(n, x/2+1)...))
		}
		for _, by := range []int{1, 2, 255, 256, 1000, 1 << 40} {
			lists = append(lists, rise(n, 0, by), rise(n, 0, -by), rise(n, -by, by), rise(n, by, -by), rise(n, math.MinInt, by), rise(n, math.MaxInt, -by))
		}
		for range 20 {
			lists = append(lists, drawn(from, n))
			l := drawn(from, n)
			slices.Sort(l)
			lists = append(lists, l)
			l = slices.Clone(l)
			slices.Reverse(l)
			lists = append(lists, l)
		}
		for _, l := range lists {
			for _, kind := range ofRows {
				wantBoth(t, kind, l)
			}
			wantBoth(t, api.Time, l)
		}
	}
}

func TestParts(t *testing.T) { // P14.1: what is left is 0 to 999, rounded down
	for _, c := range []struct{ n, thousands, left int }{
		{0, 0, 0}, {1, 0, 1}, {999, 0, 999}, {1000, 1, 0}, {1001, 1, 1}, {1999, 1, 999}, {2000, 2, 0},
		{-1, -1, 999}, {-999, -1, 1}, {-1000, -1, 0}, {-1001, -2, 999}, {-1999, -2, 1}, {-2000, -2, 0}, {-2001, -3, 999},
		{math.MaxInt, 9223372036854775, 807}, {math.MaxInt - 807, 9223372036854775, 0}, {math.MaxInt - 808, 9223372036854774, 999},
		{math.MinInt, -9223372036854776, 192}, {math.MinInt + 1, -9223372036854776, 193}, {math.MinInt + 807, -9223372036854776, 999}, {math.MinInt + 808, -9223372036854775, 0},
	} {
		for _, many := range []int{1, 2, 3, 7, 513} {
			want := rows(alikes(many, c.thousands), alikes(many, c.left))
			wantPut(t, api.Time, of(alikes(many, c.n)...), want)
			wantTake(t, api.Time, want, of(alikes(many, c.n)...))
		}
	}
	for n := -2100; n <= 2100; n++ {
		wantBoth(t, api.Time, []int{n})
		wantBoth(t, api.Time, []int{math.MaxInt - 2100 + max(n, -n), math.MinInt + 2100 - max(n, -n), n})
	}
	wantBoth(t, api.Time, edges)
	for _, a := range edges {
		for _, b := range edges {
			wantBoth(t, api.Time, []int{a, b})
		}
	}
}

func TestTakeOfEachMany(t *testing.T) { // P14.2: 0 to 4096
	for _, kind := range kinds {
		for many := -20; many <= 4120; many++ {
			checkTake(t, kind, nil, many)
			checkTake(t, kind, []byte("\x00\x00"), many)
			checkTake(t, kind, []byte("\xff\xa0"), many)
			checkTake(t, kind, []byte("\x00\x02\x00\x01"), many)
		}
		for _, n := range []int{0, 1, 4095, 4096} {
			l := some(kind, n)
			wantTake(t, kind, slowLay(kind, l), of(l...))
			for _, other := range []int{0, 1, 4095, 4096} {
				checkTake(t, kind, slowLay(kind, l), other)
			}
		}
		wantNoTake(t, kind, nil, 1, api.ErrCorrupt)
		wantNoTake(t, kind, nil, 4096, api.ErrCorrupt)
		for _, b := range []string{"\x00", "\x00\x00", "\xff\x00", "\x40\x00\x00", "\x00\x02\x00\x01"} {
			wantNoTake(t, kind, []byte(b), 0, api.ErrCorrupt)
		}
	}
}

func TestTakeOfWrongMany(t *testing.T) { // P14.2, R3: told ahead of what is wrong with the bytes
	for _, kind := range kinds {
		all := some(kind, 4097) // of 4097 it is just what stands there
		right := slowLay(kind, all)
		for _, many := range farMany {
			for _, b := range []string{"", "\x00", "\x00\x00", "\xff", "\xff\xa0", "\x02\x0e", "\x00\x02\x00\x01", "\x40", "\xc0", "\x80abc"} {
				wantNoTake(t, kind, []byte(b), many, api.ErrArg)
			}
			wantNoTake(t, kind, nil, many, api.ErrArg)
			wantNoTake(t, kind, right, many, api.ErrArg)
		}
	}
}

func TestTakeCut(t *testing.T) { // P14.2: at each place
	for _, kind := range kinds {
		for _, l := range columns(kind) {
			b := slowLay(kind, l)
			for n := range b {
				wantNoTake(t, kind, b[:n], len(l), api.ErrCorrupt)
				wantNoTake(t, kind, bytes.Clone(b[:n]), len(l), api.ErrCorrupt)
			}
			wantTake(t, kind, b, of(l...))
		}
	}
}

func TestTakeOfMore(t *testing.T) { // P14.2: bytes are left
	for _, kind := range kinds {
		for _, l := range append(columns(kind), nil) {
			b := slowLay(kind, l)
			for _, rest := range append(rests[1:], strings.Repeat("\x00", 5000)) {
				wantNoTake(t, kind, append(bytes.Clone(b), rest...), len(l), api.ErrCorrupt)
				checkTake(t, kind, append([]byte(rest), b...), len(l)) // and ahead of it
			}
			if len(b) > 0 {
				wantNoTake(t, kind, append(bytes.Clone(b), b...), len(l), api.ErrCorrupt)
			}
		}
	}
}

func TestTakeOfTurnedBytes(t *testing.T) { // P14.2: each byte, as any other; of many bytes most by a bit alone
	for _, kind := range kinds {
		for _, l := range columns(kind) {
			b := slowLay(kind, l)
			for i, c := range b {
				if i >= 4 && len(b) > 60 {
					checkTake(t, kind, with(b, i, c^1<<(i%8)), len(l))
					continue
				}
				for mask := range 256 {
					checkTake(t, kind, with(b, i, c^byte(mask)), len(l))
				}
			}
		}
	}
	for bit := range 5 { // a bit behind the last one is 1
		wantNoTake(t, api.Bool, []byte{0xff, 0xa0 | 1<<bit}, 3, api.ErrCorrupt)
	}
	wantTake(t, api.Bool, []byte("\xff\xe0"), of(1, 1, 1))
	wantTake(t, api.Int, []byte("\x02\x0f"), of(alikes(5, -8)...))
	wantNoTake(t, api.Int, []byte("\x03\x0e"), 5, api.ErrCorrupt)
	wantTake(t, api.Time, []byte("\x00\x02\x00\x02"), of(1002, 1002, 1002))
	wantTake(t, api.Time, []byte("\x00\x03\x00\x01"), of(-1999, -1999, -1999))
}

func TestTakeOfOtherMany(t *testing.T) { // P14.2: one less, and one more, than were laid down
	for _, kind := range kinds {
		for _, l := range columns(kind) {
			b := slowLay(kind, l)
			for _, d := range []int{-9, -8, -7, -2, -1, 1, 2, 7, 8, 9} {
				checkTake(t, kind, b, len(l)+d)
				if kind != api.Bool && len(l)+d >= 0 {
					wantNoTake(t, kind, b, len(l)+d, api.ErrCorrupt)
				}
			}
		}
	}
	// Noughts behind the last truth are no truths, but may be.
	wantTake(t, api.Bool, []byte("\xff\xa0"), of(1, 0, 1, 0))
	wantTake(t, api.Bool, []byte("\xff\xa0"), of(1, 0, 1, 0, 0, 0, 0, 0))
	wantNoTake(t, api.Bool, []byte("\xff\xa0"), 2, api.ErrCorrupt)
	wantNoTake(t, api.Bool, []byte("\xff\xa0"), 9, api.ErrCorrupt)
	wantNoTake(t, api.Bool, []byte("\xfe\x00\x80"), 8, api.ErrCorrupt)
}

func TestTakeOfAnotherKind(t *testing.T) { // P14.2
	for _, put := range kinds {
		for _, l := range columns(put) {
			b := slowLay(put, l)
			for _, take := range kinds {
				for _, many := range []int{0, 1, 3, len(l) / 8, len(l) / 2, len(l), 2 * len(l)} {
					checkTake(t, take, b, many)
				}
				if (put == api.Time) != (take == api.Time) && put != api.Bool && take != api.Bool {
					wantNoTake(t, take, b, len(l), api.ErrCorrupt) // a row less, or one more
				}
			}
			if put == api.Int {
				wantTake(t, api.Decimal, b, of(l...))
				wantTake(t, api.Date, b, of(l...))
			}
		}
	}
	noughts := []byte("\x00\x00") // of 24 truths, or of three numbers
	wantTake(t, api.Bool, noughts, of(alikes(24, 0)...))
	wantTake(t, api.Int, noughts, of(0, 0, 0))
	wantNoTake(t, api.Int, noughts, 24, api.ErrCorrupt)
	wantNoTake(t, api.Time, noughts, 3, api.ErrCorrupt)
	wantTake(t, api.Time, []byte("\x00\x02\x00\x01"), of(1001, 1001, 1001))
	wantNoTake(t, api.Int, []byte("\x00\x02\x00\x01"), 3, api.ErrCorrupt)
	wantTake(t, api.Int, []byte("\x00\x02\x00\x01"), of(1, 1, 1, -1, -1, -1))
	wantTake(t, api.Bool, []byte("\x00\x02\x00\x01"), slices.Concat(slices.Repeat(of(0, 0, 0, 0, 0, 0, 1, 0), 3), slices.Repeat(of(0, 0, 0, 0, 0, 0, 0, 1), 3)))
}

func TestTakeOfTooMuchLeft(t *testing.T) { // P14.2: above 999, at the front, in the middle and at the end
	for _, n := range []int{1, 2, 3, 5, 513} {
		for _, thousands := range []int{0, 1, -1, 12345, -9223372036854776, 9223372036854775, -1 << 62} {
			for _, i := range []int{0, n / 2, n - 1} {
				for _, left := range []int{1000, 1001, 1023, 1024, 1999, 2000, 1 << 16, 1<<32 + 5, 1 << 53, math.MaxInt - 1, math.MaxInt} {
					b := rows(alikes(n, thousands), with(alikes(n, 500), i, left))
					wantNoTake(t, api.Time, b, n, api.ErrCorrupt)
				}
				checkTake(t, api.Time, rows(alikes(n, thousands), with(alikes(n, 500), i, 999)), n)
			}
		}
	}
	wantTake(t, api.Time, rows([]int{0, -1, 7}, []int{999, 999, 999}), of(999, -1, 7999))
	// Above 999 is refused, even if the number would be that of other parts.
	wantNoTake(t, api.Time, rows(alikes(3, -1), alikes(3, 1000)), 3, api.ErrCorrupt)
	wantNoTake(t, api.Time, rows(alikes(3, math.MinInt/1000-2), alikes(3, 2000)), 3, api.ErrCorrupt)
}

func TestTakeOfNoInt(t *testing.T) { // P14.2: one beyond each edge, and just at it
	const high, low = 9223372036854775, -9223372036854776
	for _, n := range []int{1, 3, 40} {
		for _, i := range []int{0, n / 2, n - 1} {
			at := func(thousands, left int) []byte {
				return rows(with(alikes(n, 3), i, thousands), with(alikes(n, 4), i, left))
			}
			one := func(x int) []api.Value { return of(with(alikes(n, 3004), i, x)...) }
			wantTake(t, api.Time, at(high, 807), one(math.MaxInt))
			wantTake(t, api.Time, at(high, 806), one(math.MaxInt-1))
			wantTake(t, api.Time, at(high, 0), one(math.MaxInt-807))
			wantTake(t, api.Time, at(high-1, 999), one(math.MaxInt-808))
			wantTake(t, api.Time, at(low, 192), one(math.MinInt))
			wantTake(t, api.Time, at(low, 193), one(math.MinInt+1))
			wantTake(t, api.Time, at(low, 999), one(math.MinInt+807))
			wantTake(t, api.Time, at(low+1, 0), one(math.MinInt+808))
			for _, c := range []struct{ thousands, left int }{
				{high, 808}, {high, 809}, {high, 999}, {high + 1, 0}, {high + 1, 192}, {high + 1, 999},
				{low, 191}, {low, 190}, {low, 0}, {low - 1, 999}, {low - 1, 192}, {low - 1, 0},
				{1 << 60, 0}, {-1 << 60, 0}, {math.MaxInt, 0}, {math.MaxInt, 999}, {math.MinInt, 0}, {math.MinInt, 999},
				{1 << 61, 5}, {-1 << 61, 5}, {1 << 62, 0}, {-1 << 62, 999}, // by 1000 they come to 0 in 64 bits
				{18446744073709551, 616}, {18446744073709552, 0}, {-18446744073709552, 384}, {-18446744073709551, 0}, // near 2^64
			} {
				wantNoTake(t, api.Time, at(c.thousands, c.left), n, api.ErrCorrupt)
			}
		}
	}
	from := rand.New(rand.NewSource(5))
	for range 20000 {
		thousands := int(from.Uint64()) >> from.Intn(64)
		if from.Intn(2) == 0 {
			thousands = []int{high, low}[from.Intn(2)] + from.Intn(5) - 2
		}
		checkTake(t, api.Time, rows([]int{thousands}, []int{from.Intn(1003)}), 1)
	}
}

func TestTakeOfUnevenRows(t *testing.T) { // P14.2: one is longer than the other
	for n := range 11 {
		for k := range 11 {
			for _, b := range [][]byte{
				rows(alikes(n, 1), alikes(k, 2)),
				rows(rise(n, 0, 5), rise(k, 3, 1)),
				rows(rise(n, 0, 5), alikes(k, 7)),
			} {
				for many := range 13 {
					if n == k && n == many {
						continue
					}
					// Each row is one run, so nothing ends where the other row would have to begin.
					wantNoTake(t, api.Time, b, many, api.ErrCorrupt)
				}
				if n == k {
					checkTake(t, api.Time, b, n)
				}
			}
		}
	}
	for _, n := range []int{511, 512, 513, 4095} {
		for _, many := range []int{n, n + 1} {
			wantNoTake(t, api.Time, rows(some(api.Int, n), alikes(n+1, 2)), many, api.ErrCorrupt)
			wantNoTake(t, api.Time, rows(some(api.Int, n+1), alikes(n, 2)), many, api.ErrCorrupt)
		}
		wantNoTake(t, api.Time, row(some(api.Int, n), true), n, api.ErrCorrupt) // no other row
	}
}

func TestTakeOfOtherRuns(t *testing.T) { // P14.2: what Put would not have laid down so is numbers, too
	for _, l := range [][]int{{7}, {7, 7, 7}, {1, 2, 3, 4}, {5, 5, 5, 1, 9, 9, 9, 9, 9}, {3, 1, 1000, 2, 0}} {
		as := func(signed bool) [][]byte {
			out := [][]byte{row(l, signed)}
			if b, e := direct.Put(l, signed); e == api.OK {
				out = append(out, b)
			}
			if b, e := delta.Put(l, signed); e == api.OK {
				out = append(out, b)
			}
			if b, e := patched.Put(l, 3, signed); e == api.OK {
				out = append(out, b)
			}
			var alone []byte // each number as a run of its own
			for _, n := range l {
				b, _ := direct.Put([]int{n}, signed)
				alone = append(alone, b...)
			}
			return append(out, alone)
		}
		noughts := row(alikes(len(l), 0), false)
		for _, b := range as(true) {
			for _, kind := range ofRows {
				wantTake(t, kind, b, of(l...))
			}
			wantTake(t, api.Time, append(bytes.Clone(b), noughts...), func() []api.Value {
				v := of(l...)
				for i := range v {
					v[i].N *= 1000
				}
				return v
			}())
		}
		for _, b := range as(false) {
			checkTake(t, api.Time, append(bytes.Clone(noughts), b...), len(l))
		}
	}
	wantTake(t, api.Bool, []byte("\xff\x00\xff\x00\xff\x00"), of(alikes(24, 0)...))
}

func TestTakeOfShortBytes(t *testing.T) { // P14.2: all of one byte and of two, and some of more
	for _, kind := range kinds {
		for many := range 5 {
			for x := range 1 << 16 {
				checkTake(t, kind, []byte{byte(x >> 8), byte(x)}, many)
			}
		}
		for many := range 20 {
			for c := range 256 {
				checkTake(t, kind, []byte{byte(c)}, many)
				for _, d := range []int{0, 1, 2, 0x3f, 0x40, 0x7f, 0x80, 0xc0, 0xfe, 0xff} {
					checkTake(t, kind, []byte{byte(c), byte(d)}, many)
					checkTake(t, kind, []byte{0, byte(c), 0, byte(d)}, many)
					checkTake(t, kind, []byte{0x40, 0, byte(d), byte(c), 0, 0x80}, many)
					checkTake(t, kind, []byte{0, 2, 8, byte(c), byte(d)}, many)
					checkTake(t, kind, []byte{0xc0, byte(many - 1), byte(c), byte(d), 0, 0}, many)
				}
			}
		}
	}
}

func TestTwoWrong(t *testing.T) { // R3
	for _, kind := range noKinds { // no kind, too many, and none that may be
		wantNoPut(t, kind, slices.Repeat(wrongs, 410), api.ErrArg)
		wantNoPut(t, kind, wrongs, api.ErrArg)
		wantNoTake(t, kind, []byte("\xff"), 4097, api.ErrArg)
		wantNoTake(t, kind, []byte("\xff"), 1, api.ErrArg)
	}
	for _, kind := range kinds {
		for _, v := range wrongs { // too many, and one that may not be
			for _, i := range []int{0, 2000, 4095, 4096} {
				wantNoPut(t, kind, with(of(some(kind, 4097)...), i, v), api.ErrBig)
			}
		}
		wantNoPut(t, kind, slices.Repeat(wrongs, 410), api.ErrBig)
		wantNoTake(t, kind, []byte("\xff"), -1, api.ErrArg)
		wantNoTake(t, kind, []byte("\xff"), 4097, api.ErrArg)
	}
	wantNoPut(t, api.Bool, of(alikes(4097, 2)...), api.ErrBig)
	// Too much left, and bytes left; no int, and a cut.
	wantNoTake(t, api.Time, append(rows(alikes(3, 1), alikes(3, 1000)), 0), 3, api.ErrCorrupt)
	wantNoTake(t, api.Time, rows(alikes(3, math.MaxInt), []int{7, 7}), 3, api.ErrCorrupt)
}

func TestBackAgain(t *testing.T) { // P14.3: of values drawn
	from := rand.New(rand.NewSource(1))
	for _, kind := range kinds {
		for n := range 160 {
			if n > 120 {
				n = from.Intn(4097)
			}
			l := of(drawnOf(from, kind, n)...)
			b, e := Put(kind, l)
			if e != api.OK {
				t.Fatalf("Put(%d, %s) = %d", kind, told(l), e)
			}
			if back, e := Take(kind, b, n); e != api.OK || !slices.Equal(back, l) {
				t.Fatalf("Take of Put(%d, %s) = %s, %d", kind, told(l), told(back), e)
			}
			checkPut(t, kind, l)
		}
	}
}

func TestRoomBehind(t *testing.T) { // R6: what stands behind the end is not the list's
	for _, kind := range kinds {
		room := append(of(some(kind, 12)...), wrongs...)
		for n := range room {
			checkPut(t, kind, room[:n])
		}
		for _, l := range columns(kind) {
			b := slowLay(kind, l)
			for _, rest := range rests {
				long := append(bytes.Clone(b), rest...)
				wantTake(t, kind, long[:len(b)], of(l...))
			}
		}
	}
}

// TestValuesAreLeft: values that are handed in, and the room behind them, stay
// as they were, and what is answered is the caller's own.
func TestValuesAreLeft(t *testing.T) { // R7
	for _, kind := range append([]int{api.Text}, kinds...) {
		room := append(of(some(kind, 14)...), wrongs...)
		for n := range room { // some are refused
			l := slices.Clone(room)
			want, _ := slowPut(kind, l[:n])
			one, _ := Put(kind, l[:n])
			other, _ := Put(kind, l[:n])
			clear(one[:cap(one)])
			if !slices.Equal(l, room) {
				t.Fatalf("Put of %d values of %d: handed in is now %s", n, kind, told(l))
			}
			clear(l)
			if !bytes.Equal(other, want) {
				t.Fatalf("Put of %d values of %d: an answer went with another, or with what was handed in: %x", n, kind, other)
			}
		}
	}
}

// TestBytesAreLeft: the same of what Take is given.
func TestBytesAreLeft(t *testing.T) { // R7
	for _, kind := range append([]int{api.Text}, kinds...) {
		l := some(kind, 14)
		right := slowLay(kind, l)
		room := append(bytes.Clone(right), "\x00\x02 room behind"...)
		for n := range room {
			for _, many := range []int{0, 3, len(l), -1, 4097} { // most are refused
				b := bytes.Clone(room)
				one, _ := Take(kind, b[:n], many)
				other, _ := Take(kind, b[:n], many)
				want := slices.Clone(other)
				for i := range one[:cap(one)] {
					one[:cap(one)][i] = api.Value{Null: true, N: -1, S: "other"}
				}
				if !bytes.Equal(b, room) {
					t.Fatalf("Take of %d bytes, %d of %d: handed in is now %x", n, many, kind, b)
				}
				clear(b)
				if !slices.Equal(other, want) {
					t.Fatalf("Take of %d bytes, %d of %d: an answer went with another, or with what was handed in: %s", n, many, kind, told(other))
				}
			}
		}
	}
}

func FuzzPut(f *testing.F) { // P14.1, P14.3
	f.Add(api.Bool, []byte("\x01\x00\x01"), 0, uint16(0))
	f.Add(api.Int, []byte("abc"), -1, uint16(9))
	f.Add(api.Time, []byte("\xff\x01"), 1001, uint16(4096))
	f.Add(api.Text, []byte("a"), 0, uint16(0))
	f.Add(api.Time, []byte("a"), math.MinInt, uint16(3))
	f.Fuzz(func(t *testing.T, kind int, steps []byte, first int, more uint16) {
		for _, k := range append(kinds, kind) {
			l := []int{first}
			for _, c := range steps {
				l = append(l, l[len(l)-1]+int(int8(c))*(first%257))
			}
			if k == api.Bool && more%2 == 0 {
				for i := range l {
					l[i] &= 1
				}
			}
			// Its last one some times more, for runs that are long.
			l = append(l, alikes(int(more)%4500, l[len(l)-1])...)
			checkPut(t, k, of(l...))
			if b, e := Put(k, of(l...)); e == api.OK {
				wantTake(t, k, b, of(l...))
			}
		}
	})
}

func FuzzTake(f *testing.F) { // P14.2
	f.Add(api.Bool, []byte("\xff\xa0"), 3)
	f.Add(api.Int, []byte("\x02\x0e"), 5)
	f.Add(api.Time, []byte("\x00\x02\x00\x01"), 3)
	f.Add(api.Time, []byte("\x00\x02\x08\x03\xe8"), 3)
	f.Add(api.Bytes, []byte("\x80"), -1)
	f.Fuzz(func(t *testing.T, kind int, b []byte, many int) {
		for _, k := range append(kinds, kind) {
			checkTake(t, k, b, many)
			checkTake(t, k, b, many%600)
			checkTake(t, k, b, many%9)
		}
	})
}

func FuzzTimes(f *testing.F) { // P14.1 to P14.3: numbers of Time by their parts
	f.Add(0, 0)
	f.Add(-1, 999)
	f.Add(9223372036854775, 807)
	f.Add(9223372036854775, 808)
	f.Add(-9223372036854776, 191)
	f.Add(1<<61, 1000)
	f.Fuzz(func(t *testing.T, thousands, left int) {
		wantBoth(t, api.Time, []int{thousands, left, thousands})
		left &= math.MaxInt
		for _, r := range []int{left, left % 1000, left % 1001} {
			checkTake(t, api.Time, rows([]int{thousands}, []int{r}), 1)
			checkTake(t, api.Time, rows([]int{0, thousands, 1}, []int{1, r, 2}), 3)
		}
	})
}
