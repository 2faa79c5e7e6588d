package rle

import (
	"bytes"
	"math"
	"math/rand"
	"slices"
	"strconv"
	"strings"
	"testing"

	"pilaster/api"
	"pilaster/delta"
	"pilaster/direct"
	"pilaster/patched"
	"pilaster/repeat"
)

// patchWidths are those that runs with patches may have, as chapter 2 has them.
var patchWidths = []int{
	1, 2, 3, 4, 5, 6, 7, 8, 9, 10, 11, 12, 13, 14, 15, 16,
	17, 18, 19, 20, 21, 22, 23, 24, 26, 28, 30, 32, 40, 48, 56,
}

// rests: what may stand behind.
var rests = []string{"", "\x00", "\xff", "\x02\x0e", "\x40\x00\x80 and more"}

// choice is a run that numbers may be laid down as, and what it is called.
type choice struct {
	name string
	b    []byte
}

// choices are all that there are for l, in the chapter's order.
func choices(l []int, signed bool) []choice {
	var out []choice
	add := func(name string, b []byte, e api.Errno) {
		if e == api.OK {
			out = append(out, choice{name, b})
		}
	}
	if len(l) > 0 && len(slices.Compact(slices.Clone(l))) == 1 {
		b, e := repeat.Put(l[0], len(l), signed)
		add("repeat", b, e)
	}
	b, e := direct.Put(l, signed)
	add("direct", b, e)
	b, e = delta.Put(l, signed)
	add("delta", b, e)
	for _, w := range patchWidths {
		b, e = patched.Put(l, w, signed)
		add("patched "+strconv.Itoa(w), b, e)
	}
	return out
}

// asShort are those of some choices that none is shorter than.
func asShort(all []choice) []choice {
	least := math.MaxInt
	for _, c := range all {
		least = min(least, len(c.b))
	}
	return slices.DeleteFunc(slices.Clone(all), func(c choice) bool { return len(c.b) > least })
}

// names are what choices are called.
func names(all []choice) string {
	var out []string
	for _, c := range all {
		out = append(out, c.name)
	}
	return strings.Join(out, ", ")
}

// mayBe tells whether P11.1 lets these be a run.
func mayBe(l []int, signed bool) bool {
	return len(l) >= 1 && len(l) <= 512 && (signed || slices.Min(l) >= 0)
}

// slowRun is P11.1's words, and whether numbers may be a run.
func slowRun(l []int, signed bool) (choice, bool) {
	if !mayBe(l, signed) {
		return choice{}, false
	}
	return asShort(choices(l, signed))[0], true
}

// slowCut is P11.2's words.
func slowCut(l []int) int {
	same := func(from, many int) bool {
		return from+many <= len(l) && slices.Equal(l[from:from+many], alikes(many, l[from]))
	}
	switch {
	case len(l) == 0:
		return 0
	case same(0, 3):
		n := 3
		for n < 512 && same(0, n+1) {
			n++
		}
		return n
	}
	for i := 1; i < len(l) && i < 512; i++ {
		if same(i, 5) {
			return i
		}
	}
	return min(len(l), 512)
}

// slowPut is P11.3's words, with what the runs are called.
func slowPut(l []int, signed bool) (b []byte, called []string, e api.Errno) {
	if len(l) > 4096 {
		return nil, nil, api.ErrBig
	}
	if !signed && slices.ContainsFunc(l, func(x int) bool { return x < 0 }) {
		return nil, nil, api.ErrArg
	}
	for len(l) > 0 {
		n := slowCut(l)
		c, _ := slowRun(l[:n], signed)
		b, called, l = append(b, c.b...), append(called, c.name), l[n:]
	}
	return b, called, api.OK
}

// slowTake are just so many numbers of runs that b begins with, what stands
// behind them, and whether they are there.
func slowTake(b []byte, many int, signed bool) (l []int, rest []byte, ok bool) {
	if many == 0 {
		return nil, b, true
	}
	if many < 0 || len(b) == 0 {
		return nil, nil, false
	}
	e := api.OK
	switch b[0] / 64 {
	case 0:
		var x, times int
		x, times, rest, e = repeat.Take(b, signed)
		l = alikes(times, x)
	case 1:
		l, rest, e = direct.Take(b, signed)
	case 2:
		l, rest, e = patched.Take(b, signed)
	case 3:
		l, rest, e = delta.Take(b, signed)
	}
	if e != api.OK {
		return nil, nil, false
	}
	more, rest, ok := slowTake(rest, many-len(l), signed)
	if !ok {
		return nil, nil, false
	}
	return append(l, more...), rest, true
}

// wantTake asks that b is taken as l, whatever stands behind.
func wantTake(t *testing.T, b []byte, signed bool, l []int) {
	t.Helper()
	for _, rest := range rests {
		got, behind, e := Take(append(bytes.Clone(b), rest...), len(l), signed)
		if !slices.Equal(got, l) || string(behind) != rest || e != api.OK {
			t.Fatalf("Take(%x, %d, %v) with %x behind = %d, %x, %d; want %d", b, len(l), signed, rest, got, behind, e, l)
		}
	}
}

// wantNoTake asks that Take refuses so many numbers of b, with nothing beside
// the error.
func wantNoTake(t *testing.T, b []byte, many int, signed bool, want api.Errno) {
	t.Helper()
	if l, rest, e := Take(b, many, signed); len(l) != 0 || len(rest) != 0 || e != want {
		t.Fatalf("Take(%x, %d, %v) = %d, %x, %d; want the error %d", b, many, signed, l, rest, e, want)
	}
}

// checkTake holds Take against the slower reckoning, whatever is handed in.
func checkTake(t *testing.T, b []byte, many int) {
	t.Helper()
	for _, signed := range []bool{false, true} {
		l, behind, ok := slowTake(b, many, signed)
		if many < 0 || many > 4096 {
			wantNoTake(t, b, many, signed, api.ErrArg)
		} else if !ok {
			wantNoTake(t, b, many, signed, api.ErrCorrupt)
		} else if got, rest, e := Take(b, many, signed); !slices.Equal(got, l) || !bytes.Equal(rest, behind) || e != api.OK {
			t.Fatalf("Take(%x, %d, %v) = %d, %x, %d; want %d, %x", b, many, signed, got, rest, e, l, behind)
		}
	}
}

// wantRun asks that l is laid down as this run, and taken back from it.
func wantRun(t *testing.T, l []int, signed bool, want []byte) {
	t.Helper()
	if got, e := Run(l, signed); !bytes.Equal(got, want) || e != api.OK {
		t.Fatalf("Run(%d, %v) = %x, %d; want %x", l, signed, got, e, want)
	}
	wantTake(t, want, signed, l)
}

// wantNoRun asks that Run refuses l, with nothing beside the error.
func wantNoRun(t *testing.T, l []int, signed bool) {
	t.Helper()
	if got, e := Run(l, signed); len(got) != 0 || e != api.ErrArg {
		t.Fatalf("Run(%d, %v) = %x, %d; want ErrArg", l, signed, got, e)
	}
}

// checkRun holds Run against all that l may be laid down as, and answers what
// the one that is chosen is called: "", if none may be.
func checkRun(t *testing.T, l []int, signed bool) string {
	t.Helper()
	c, ok := slowRun(l, signed)
	if ok {
		wantRun(t, l, signed, c.b)
	} else {
		wantNoRun(t, l, signed)
	}
	return c.name
}

// wantCut asks that so many of the numbers are one run.
func wantCut(t *testing.T, l []int, want int) {
	t.Helper()
	if got := Cut(l); got != want || slowCut(l) != want {
		t.Fatalf("Cut(%d) = %d, and %d slowly; want %d", l, got, slowCut(l), want)
	}
}

// wantPut asks that l is laid down as want, and taken back from it.
func wantPut(t *testing.T, l []int, signed bool, want []byte) {
	t.Helper()
	if got, e := Put(l, signed); !bytes.Equal(got, want) || e != api.OK {
		t.Fatalf("Put(%d, %v) = %x, %d; want %x", l, signed, got, e, want)
	}
	wantTake(t, want, signed, l)
}

// wantNoPut asks that Put refuses l, with nothing beside the error.
func wantNoPut(t *testing.T, l []int, signed bool, want api.Errno) {
	t.Helper()
	if got, e := Put(l, signed); len(got) != 0 || e != want {
		t.Fatalf("Put of %d numbers, %v = %x, %d; want the error %d", len(l), signed, got, e, want)
	}
}

// checkPut holds Put against the slower reckoning, whatever is handed in, and
// answers what the runs are called.
func checkPut(t *testing.T, l []int, signed bool) []string {
	t.Helper()
	want, called, e := slowPut(l, signed)
	if e == api.OK {
		wantPut(t, l, signed, want)
	} else {
		wantNoPut(t, l, signed, e)
	}
	return called
}

// with is l, with x at place i.
func with[T any](l []T, i int, x T) []T {
	l = slices.Clone(l)
	l[i] = x
	return l
}

// alikes are so many numbers that are all the same.
func alikes(many, x int) []int { return slices.Repeat([]int{x}, many) }

// rise are so many numbers that rise by the same from each to the next one.
func rise(many, first, by int) []int {
	l := make([]int, many)
	for i := range l {
		l[i] = first + by*i
	}
	return l
}

// wild are so many numbers below 2^bits, none of them as the one ahead of it.
func wild(many, bits int) []int {
	from := rand.New(rand.NewSource(int64(many*64 + bits)))
	l := make([]int, many)
	for i := range l {
		l[i] = from.Intn(1<<bits)&^1 | i&1
	}
	return l
}

// spiked are so many numbers of few bits, and some of many.
func spiked(many, bits int) []int {
	l := wild(many, bits)
	for i := 3; i < many; i += 40 {
		l[i] += 1 << (bits + 25)
	}
	return l
}

const (
	primes = "\xc4\x09\x02\x02\x4a\x28\xa6"                                         // delta's
	few    = "\x5e\x03\x5c\xa1\xab\x1e\xde\xad\xbe\xef"                             // direct's
	great  = "\x8c\x09\x2c\x21\x07\xd0\x3c\x00\xa7\x05\x0c\x9e\x46\xa1\x68\xfc\xe8" // patched's, of 7 bits
)

// someBytes are those of a run of each kind, by the two highest bits of the
// first byte; theirs are their numbers.
var someBytes = [4]string{"\x0a\x27\x10", few, great, primes}

var theirs = [4][]int{
	{10000, 10000, 10000, 10000, 10000},
	{23713, 43806, 57005, 48879},
	{2030, 2000, 2020, 1000000, 2040, 2050, 2060, 2070, 2080, 2090},
	{2, 3, 5, 7, 11, 13, 17, 19, 23, 29},
}

func TestPutAndTake(t *testing.T) { // P11.3, P11.4: the chapter's, and others by hand
	for _, c := range []struct {
		l      []int
		signed bool
		want   string
	}{
		{[]int{7, 7, 7, 7, 7}, true, "\x02\x0e"},
		{[]int{1}, false, "\x40\x00\x80"},
		{nil, false, ""},
		{nil, true, ""},
		{[]int{}, true, ""},
		{[]int{0}, false, "\x40\x00\x00"},
		{[]int{1}, true, "\x42\x00\x80"},
		{[]int{-1}, true, "\x40\x00\x80"},
		{[]int{7, 7}, false, "\x44\x01\xfc"},
		{[]int{7, 7, 7}, false, "\x00\x07"},
		{[]int{-1, -1, -1, -1}, true, "\x01\x01"},
		{alikes(10, 7), false, "\x07\x07"},
		{alikes(11, 7), false, "\xc0\x0a\x07\x00"},
		{theirs[0], false, someBytes[0]},
		{theirs[1], false, someBytes[1]},
		{theirs[2], false, someBytes[2]},
		{theirs[3], false, someBytes[3]},
		{[]int{1, 7, 7, 7, 7, 7}, false, "\x40\x00\x80\x02\x07"},
		{[]int{7, 7, 7, 9}, false, "\x00\x07\x46\x00\x90"},
		{[]int{7, 7, 7, 9, 9, 9}, false, "\x00\x07\x00\x09"},
		{[]int{7, 7, 9, 9, 9}, false, "\x46\x04\x77\x99\x90"},
		{alikes(512, 0), false, "\xc1\xff\x00\x00"},
		{alikes(600, 0), true, "\xc1\xff\x00\x00\xc0\x57\x00\x00"},
		{alikes(513, 0), false, "\xc1\xff\x00\x00\x40\x00\x00"},
		{alikes(515, 0), false, "\xc1\xff\x00\x00\x00\x00"},
		{slices.Concat(theirs[3], theirs[0], theirs[1]), false, primes + someBytes[0] + few},
		{slices.Concat(theirs[0], theirs[2]), false, someBytes[0] + great},
	} {
		wantPut(t, c.l, c.signed, []byte(c.want))
		checkPut(t, c.l, c.signed)
	}
	for bits, l := range theirs {
		wantRun(t, l, false, []byte(someBytes[bits]))
	}
}

func TestRunOfSoMany(t *testing.T) { // P11.1: 1 to 512, of numbers that are all the same and that are not
	for _, signed := range []bool{false, true} {
		for _, many := range []int{0, 1, 2, 3, 4, 9, 10, 11, 12, 511, 512, 513, 514, 1024, 4096, 5000} {
			lists := [][]int{alikes(many, 0), alikes(many, 1), alikes(many, 300), alikes(many, math.MaxInt)}
			for _, bits := range []int{1, 3, 12, 40, 62} {
				lists = append(lists, wild(many, bits), rise(many, 1<<bits>>1, 1<<bits>>20), wild(many, bits), spiked(many, bits/2+1))
			}
			for _, l := range lists {
				name := checkRun(t, l, signed)
				if (name == "") != (many < 1 || many > 512) {
					t.Fatalf("Run(%d, %v): %s", l, signed, name)
				}
				same := many > 0 && slices.Equal(l, alikes(many, l[0]))
				if (name == "repeat") != (same && many >= 3 && many <= 10) {
					t.Fatalf("Run(%d, %v): %s", l, signed, name)
				}
			}
			if many > 2 { // all the same, but for one
				for _, i := range []int{0, many / 2, many - 1} {
					if name := checkRun(t, with(alikes(many, 5), i, 6), signed); name == "repeat" {
						t.Fatal("what is not all the same is a repeat")
					}
				}
			}
		}
		wantNoRun(t, nil, signed)
		wantNoRun(t, []int{}, signed)
	}
}

func TestRunOfEachKind(t *testing.T) { // P11.1: of each there are numbers for which it alone is the shortest
	for _, c := range []struct {
		l    []int
		want string
	}{
		{[]int{7, 7, 7}, "repeat"},
		{alikes(10, 1<<40), "repeat"},
		{[]int{63}, "direct"},
		{[]int{5, 900, 17, 3}, "direct"},
		{wild(512, 20), "direct"},
		{[]int{8902, 8902}, "delta"},
		{rise(40, 100, 7), "delta"},
		{rise(512, 1<<60, -1<<40), "delta"},
		{alikes(30, 0), "delta"},
		{[]int{2, 1, 3, 0, 5, 1 << 40, 4, 2}, "patched 3"},
		{[]int{4294967375, 82, 80}, "patched 2"},
		{[]int{15, 8, 1 << 33, 3, 12}, "patched 4"},
		{[]int{13, 1 << 32, 14, 69}, "patched 6"},
		{[]int{13182, 16010, 13269, 549755827345}, "patched 12"},
		{[]int{88967, 84449, 4295051296}, "patched 13"},
		{[]int{111873, 137439012318, 58923}, "patched 16"},
		{[]int{1048598, 18, 549755813910}, "patched 21"},
		{[]int{274877906950, 3, 2097155}, "patched 24"},
		{[]int{16797943, 17938, 137438971296, 33575206}, "patched 26"},
		{[]int{274877907050, 16777318, 25, 268435463}, "patched 28"},
		{theirs[2], "patched 7"},
		{spiked(512, 3), "patched 3"},
		{spiked(512, 23), "patched 23"},
		{append(spiked(512, 30)[:511], 1<<60), "patched 30"},
		{append(wild(60, 40), 0, 1<<62), "patched 40"},
		{append(wild(60, 48), 0, 1<<62), "patched 48"},
		{append(wild(60, 56), 0, 1<<62), "patched 56"},
	} {
		if got := names(asShort(choices(c.l, false))); got != c.want {
			t.Errorf("%d: %s; want %s", c.l, got, c.want)
		}
		if got := checkRun(t, c.l, false); got != c.want {
			t.Errorf("%d: %s; want %s", c.l, got, c.want)
		}
		checkRun(t, c.l, true)
	}
}

func TestRunOfSomeAsShort(t *testing.T) { // P11.1: the first in the chapter's order
	for _, c := range []struct {
		l    []int
		want string
	}{
		{[]int{100, 101}, "direct, delta"},
		{[]int{2144, 2191}, "direct, delta"},
		{[]int{134217779, 72}, "direct, patched 4"},
		{[]int{536870936, 24, 549755813913}, "direct, patched 10"},
		{[]int{8591007915, 837750}, "direct, delta, patched 4"},
		{[]int{44, 45, 45, 45, 87}, "direct, delta, patched 1"},
		{[]int{28292, 28294, 28294}, "delta, patched 2"},
		{[]int{549756069812, 265512, 256721}, "delta, patched 16"},
		{[]int{134233232, 8306, 8161}, "delta, patched 8"},
		{[]int{27132, 27133, 27133}, "delta, patched 1, patched 2"},
		{[]int{1048600, 32, 32}, "delta, patched 1, patched 2, patched 5"},
		{[]int{2, 1, 4194306}, "patched 1, patched 2"},
		{[]int{4294967299, 4}, "patched 2, patched 3, patched 4"},
		{[]int{68719476740, 3}, "patched 7, patched 8"},
		{[]int{2, 68719476738, 2}, "patched 1, patched 2, patched 5, patched 7, patched 8"},
		{[]int{585707, 4295326558, 359269}, "patched 2, patched 18"},
		{[]int{2104437, 17179879823, 7762}, "patched 5, patched 21"},
	} {
		all := asShort(choices(c.l, false))
		if got := names(all); got != c.want {
			t.Errorf("%d: %s; want %s", c.l, got, c.want)
		}
		wantRun(t, c.l, false, all[0].b)
		checkRun(t, c.l, true)
	}
}

func TestRunOfWhatSomeRefuse(t *testing.T) { // P11.1: as far as they may be
	zigzag := slices.Repeat([]int{0, 1 << 40}, 256) // more patches than there may be, but with 40 bits and more
	for _, c := range []struct {
		l      []int
		signed bool
		want   string // all that may be
	}{
		{[]int{math.MaxInt, math.MinInt}, true, "direct"},        // too far for a Diff
		{[]int{math.MinInt, math.MinInt}, true, "direct, delta"}, // no base
		{[]int{math.MinInt, -1}, true, "direct, delta"},
		{alikes(3, math.MinInt), true, "repeat, direct, delta"},
		{[]int{math.MinInt}, true, "direct"},
		{[]int{-1, math.MaxInt}, true, "direct"},
		{[]int{0, math.MinInt, 5}, true, "direct"},
		{[]int{0, math.MinInt + 1, math.MaxInt}, true, "direct"},
		{zigzag, false, "direct, patched 48, patched 56"},
		{[]int{1 << 62, 1<<62 + 1, 1 << 62}, false, "direct, " + allPatched(1)},
		{[]int{1, 3, 2}, false, "direct, " + allPatched(1)},
		{[]int{5, 5, 3}, false, "direct, " + allPatched(1)}, // delta has no way to say that a 0 falls
		{[]int{5, 3, 3}, false, "direct, delta, " + allPatched(1)},
		{[]int{0, math.MaxInt, 0}, false, "direct, patched 7, patched 8, patched 15, patched 16, patched 23, patched 24, patched 32, patched 40, patched 48, patched 56"},
		{[]int{4}, false, "direct, " + allPatched(1)},
		{[]int{4, 4}, false, "direct, delta, " + allPatched(1)},
		{alikes(3, 4), false, "repeat, direct, delta, " + allPatched(1)},
		{alikes(11, 4), false, "direct, delta, " + allPatched(1)},
		{wild(512, 12), false, "direct, " + allPatched(12)},
	} {
		if got := names(choices(c.l, c.signed)); got != c.want {
			t.Errorf("%d: %s; want %s", c.l, got, c.want)
		}
		if name := checkRun(t, c.l, c.signed); name == "" {
			t.Errorf("%d is refused", c.l)
		}
	}
}

// allPatched are the names of runs with patches, from a width on.
func allPatched(width int) string {
	var out []choice
	for _, w := range patchWidths {
		if w >= width {
			out = append(out, choice{name: "patched " + strconv.Itoa(w)})
		}
	}
	return names(out)
}

func TestRunOfNumbersBelowZero(t *testing.T) { // P11.1: the first, one in the middle, the last
	for _, many := range []int{1, 2, 3, 10, 11, 511, 512, 513} {
		for _, x := range []int{-1, -2, -128, -1 << 40, math.MinInt + 1, math.MinInt} {
			for _, l := range [][]int{alikes(many, 0), alikes(many, 9), rise(many, 0, 3), wild(many, 10), spiked(many, 4)} {
				for _, i := range []int{0, many / 2, many - 1} {
					wantNoRun(t, with(l, i, x), false)
					if name := checkRun(t, with(l, i, x), true); (name == "") != (many > 512) {
						t.Fatalf("Run(%d, true): %q", with(l, i, x), name)
					}
				}
			}
			wantNoRun(t, alikes(many, x), false)
			checkRun(t, alikes(many, x), true)
		}
		if many <= 512 {
			checkRun(t, alikes(many, 0), false)
		}
	}
}

func TestRunOfEnds(t *testing.T) { // P11.1: the least and the greatest int
	ends := []int{math.MinInt, math.MinInt + 1, -1, 0, 1, math.MaxInt - 1, math.MaxInt}
	for _, a := range ends {
		for _, b := range ends {
			for _, many := range []int{1, 2, 3, 10, 11, 512} {
				for _, signed := range []bool{false, true} {
					for _, l := range [][]int{alikes(many, a), with(alikes(many, b), 0, a), with(alikes(many, a), many-1, b)} {
						if name := checkRun(t, l, signed); (name == "") != (!signed && slices.Min(l) < 0) {
							t.Fatalf("Run(%d, %v): %q", l, signed, name)
						}
					}
				}
			}
		}
	}
	wantRun(t, alikes(3, math.MinInt), true, []byte("\x38\xff\xff\xff\xff\xff\xff\xff\xff"))
	wantRun(t, alikes(10, math.MaxInt), false, []byte("\x3f\x7f\xff\xff\xff\xff\xff\xff\xff"))
	wantRun(t, []int{math.MinInt}, true, []byte("\x7e\x00\xff\xff\xff\xff\xff\xff\xff\xff"))
	wantRun(t, []int{math.MaxInt, 0}, false, []byte("\x8c\x01\x1e\x01\x00\xfe\x00\x00\xff\xff\xff\xff\xff\xff\xff"))
	wantRun(t, []int{math.MaxInt, math.MinInt}, true, []byte("\x7e\x01\xff\xff\xff\xff\xff\xff\xff\xfe\xff\xff\xff\xff\xff\xff\xff\xff"))
}

func TestCut(t *testing.T) { // P11.2: by hand
	for _, c := range []struct {
		l    []int
		want int
	}{
		{nil, 0},
		{[]int{}, 0},
		{[]int{1}, 1},
		{[]int{1, 2}, 2},
		{[]int{1, 1}, 2},
		{[]int{1, 1, 1}, 3},
		{[]int{1, 1, 1, 2}, 3},
		{[]int{1, 1, 1, 1}, 4},
		{[]int{1, 1, 1, 1, 2}, 4},
		{[]int{1, 1, 1, 2, 2, 2, 2, 2}, 3},
		{[]int{1, 1, 1, 2, 1, 1, 1}, 3},
		{[]int{1, 1, 2}, 3},
		{[]int{1, 1, 2, 2}, 4},
		{[]int{1, 2, 1, 1, 1}, 5},
		{[]int{1, 2, 2, 2}, 4},
		{[]int{1, 2, 2, 2, 2}, 5},          // 4 are too few
		{[]int{1, 2, 2, 2, 2, 3}, 6},       // with others behind, too
		{[]int{1, 2, 2, 2, 2, 2}, 1},       // at the place 1
		{[]int{1, 2, 2, 2, 2, 2, 2, 2}, 1}, // more than 5
		{[]int{1, 1, 2, 2, 2, 2}, 6},
		{[]int{1, 1, 2, 2, 2, 2, 2}, 2}, // at the place 2
		{[]int{1, 2, 3, 3, 3, 3, 3, 4}, 2},
		{[]int{1, 2, 1, 1, 1, 1, 1}, 2},
		{[]int{1, 2, 3, 4, 4, 4, 4, 4, 5, 5, 5, 5, 5}, 3}, // of two the first ones
		{[]int{1, 2, 2, 2, 2, 3, 3, 3, 3, 3}, 5},          // 4, and 5 behind them
		{[]int{0, 0, 1, 0, 0, 0, 0, 1, 1, 1, 1, 0, 0, 0, 0, 0, 1}, 11},    // the last 5 but one
		{[]int{1, -1, -1, -1, -1, -1}, 1},                                 // of both signs
		{[]int{math.MinInt, math.MinInt, math.MinInt, math.MaxInt}, 3},    // the ends
		{[]int{5, math.MaxInt, math.MaxInt, math.MaxInt, math.MaxInt}, 5}, // of them, too
	} {
		wantCut(t, c.l, c.want)
		wantCut(t, append(slices.Clone(c.l), 98, 99)[:len(c.l)], c.want)
	}
}

func TestCutOfMany(t *testing.T) { // P11.2: at most 512
	for many := 3; many < 1030; many++ {
		if many > 20 && many < 500 || many > 520 && many < 1000 {
			continue
		}
		wantCut(t, alikes(many, 4), min(many, 512))
		for _, behind := range [][]int{{5}, {5, 5, 5, 5, 5}, {5, 4, 4, 4, 4, 4}, wild(600, 20)} {
			wantCut(t, append(alikes(many, 4), behind...), min(many, 512))
		}
		differ := rise(many, 0, 1)
		wantCut(t, differ, min(many, 512))
		wantCut(t, with(differ, 1, 0), min(many, 512)) // the first 2 are the same, the third is not
	}
	for _, at := range []int{1, 2, 3, 4, 7, 100, 500, 509, 510, 511, 512, 513, 514, 600} {
		for same := 1; same < 12; same++ {
			for _, behind := range []int{0, 1, 2, 600} {
				want := min(at+same+behind, 512)
				if same >= 5 {
					want = min(at, 512)
				}
				wantCut(t, slices.Concat(rise(at, 0, 1), alikes(same, -1), rise(behind, 1000, 1)), want)
			}
		}
	}
	for _, many := range []int{512, 513, 1000, 4097, 1 << 20} {
		wantCut(t, slices.Repeat([]int{1, 1, 2, 2}, many/4+1), 512)
		wantCut(t, slices.Repeat([]int{1, 2, 2, 2, 2}, many/4+1), 512) // never 5
		if got := Cut(make([]int, many)); got != 512 {
			t.Errorf("Cut of %d noughts = %d", many, got)
		}
	}
}

func TestCutOfAllShortLists(t *testing.T) { // P11.2: of two numbers, up to 14 of them
	for many := range 15 {
		l := make([]int, many)
		for n := range 1 << many {
			for i := range l {
				l[i] = n >> i & 1
			}
			if got := Cut(l); got != slowCut(l) {
				t.Fatalf("Cut(%d) = %d; want %d", l, got, slowCut(l))
			}
		}
	}
}

func TestPutOfSoMany(t *testing.T) { // P11.3: at most 4096
	for _, signed := range []bool{false, true} {
		for _, many := range []int{0, 1, 2, 4095, 4096, 4097, 4098, 5000} {
			for _, l := range [][]int{alikes(many, 7), rise(many, 9, 2), wild(many, 3), wild(many, 62), spiked(many, 6), slices.Repeat([]int{1, 2, 2, 2, 2, 2}, many/6+1)[:many]} {
				if many > 4096 {
					wantNoPut(t, l, signed, api.ErrBig)
				} else {
					checkPut(t, l, signed)
				}
			}
		}
		wantNoPut(t, make([]int, 1<<20), signed, api.ErrBig)
	}
}

func TestPutOfNumbersBelowZero(t *testing.T) { // P11.3: in the first run, and in a later one
	for _, many := range []int{1, 2, 3, 10, 512, 513, 1024, 1025, 4096} {
		for _, l := range [][]int{alikes(many, 7), rise(many, 9, 2), wild(many, 3), spiked(many, 6)} {
			for _, i := range []int{0, 1, many / 2, many - 2, many - 1} {
				for _, x := range []int{-1, math.MinInt} {
					if i >= 0 && i < many {
						wantNoPut(t, with(l, i, x), false, api.ErrArg)
						checkPut(t, with(l, i, x), true)
					}
				}
			}
		}
	}
	wantNoPut(t, []int{3, -1}, false, api.ErrArg)
	wantNoPut(t, []int{7, 7, 7, -1}, false, api.ErrArg)
	wantNoPut(t, []int{7, -1, -1, -1, -1, -1}, false, api.ErrArg)
}

func TestPutOfRuns(t *testing.T) { // P11.3: one, two and many, of each kind
	pieces := []struct {
		name string
		l    []int
	}{{"repeat", alikes(7, 12345)}, {"direct", wild(512, 12)}, {"delta", rise(512, 77, 9)}, {"patched 4", spiked(512, 4)}, {"delta", alikes(512, 88)}}
	for i, a := range pieces {
		if got := checkPut(t, a.l, false); !slices.Equal(got, []string{a.name}) {
			t.Errorf("%s: %s", a.name, got)
		}
		for k, b := range pieces {
			both := slices.Concat(a.l, b.l)
			checkPut(t, slices.Concat(both, a.l[:3], b.l), true)
			if i == 0 && k == 0 { // all of them are the same
				continue
			}
			if got := checkPut(t, both, false); !slices.Equal(got, []string{a.name, b.name}) {
				t.Errorf("%s, %s: %s", a.name, b.name, got)
			}
			one, _ := Run(a.l, false)
			two, _ := Run(b.l, false)
			wantPut(t, both, false, append(one, two...))
		}
	}
	many := slices.Concat(pieces[1].l, pieces[0].l, pieces[2].l, pieces[3].l, pieces[4].l, []int{5}, pieces[0].l, []int{1, 2, 3})
	if got := strings.Join(checkPut(t, many, false), ", "); got != "direct, repeat, delta, patched 4, delta, direct, repeat, direct" {
		t.Errorf("many: %s", got)
	}
	small := slices.Repeat([]int{1, 2, 2, 2, 2, 2}, 682)
	if got := checkPut(t, small, true); len(got) != 2*682 {
		t.Errorf("%d runs; want %d", len(got), 2*682)
	}
}

func TestTakeOfSoMany(t *testing.T) { // P11.3: 0 to 4096
	for _, signed := range []bool{false, true} {
		for _, many := range []int{math.MinInt, -4096, -2, -1, 4097, 4098, 1 << 20, 1<<32 + 5, math.MaxInt} {
			for _, text := range []string{"", "\x02\x0e", primes, "\xff", few} {
				wantNoTake(t, []byte(text), many, signed, api.ErrArg)
			}
			long, _ := Put(alikes(4096, 1), signed)
			wantNoTake(t, append(long, "\x42\x00\x80"...), many, signed, api.ErrArg)
		}
		for _, l := range [][]int{alikes(4096, 3), alikes(4095, 3), wild(4096, 9), slices.Repeat([]int{1, 2, 2, 2, 2, 2}, 682)} {
			b, e := Put(l, signed)
			if e != api.OK {
				t.Fatal(e)
			}
			wantTake(t, b, signed, l)
			wantNoTake(t, b, len(l)-1, signed, api.ErrCorrupt)
			wantNoTake(t, b[:len(b)-1], len(l), signed, api.ErrCorrupt)
			if len(l) < 4096 {
				wantNoTake(t, b, len(l)+1, signed, api.ErrCorrupt)
			}
			checkTake(t, b, 1)
		}
		wantNoTake(t, bytes.Repeat([]byte("\x40\x00\x80"), 4097), 4097, signed, api.ErrArg)
		ones := []byte(strings.Repeat("\x40\x00\x00", 4097)) // as many runs as there may be
		got, rest, e := Take(ones, 4096, signed)
		if !slices.Equal(got, alikes(4096, 0)) || string(rest) != "\x40\x00\x00" || e != api.OK {
			t.Errorf("4096 runs of one: %d, %x, %d", len(got), rest, e)
		}
	}
}

func TestTakeOfEachKind(t *testing.T) { // P11.3: by the two highest bits of the first byte
	for a, l := range theirs {
		if int(someBytes[a][0])/64 != a {
			t.Fatalf("%x is of another kind", someBytes[a])
		}
		wantTake(t, []byte(someBytes[a]), false, l)
		for b, m := range theirs {
			both := []byte(someBytes[a] + someBytes[b])
			wantTake(t, both, false, slices.Concat(l, m))
			wantTake(t, append(both, someBytes[a]...), false, slices.Concat(l, m, l))
		}
		for bits := range 4 { // as another kind
			b := []byte(someBytes[a])
			b[0] = b[0]&0x3f | byte(bits)<<6
			for many := range 12 {
				checkTake(t, b, many)
			}
		}
	}
}

func TestTakeOfOtherMany(t *testing.T) { // P11.3: just so many, less, and more
	for a, l := range theirs {
		for b, m := range theirs {
			all := slices.Concat(l, m, []int{1})
			both := []byte(someBytes[a] + someBytes[b] + "\x40\x00\x80")
			behind := map[int]string{ // what is left, where a run ends
				0:               string(both),
				len(l):          someBytes[b] + "\x40\x00\x80",
				len(l) + len(m): "\x40\x00\x80",
				len(all):        "",
			}
			for many := range len(all) + 3 {
				checkTake(t, both, many)
				want, ok := behind[many]
				if !ok {
					wantNoTake(t, both, many, false, api.ErrCorrupt)
					continue
				}
				if got, rest, e := Take(both, many, false); !slices.Equal(got, all[:many]) || string(rest) != want || e != api.OK {
					t.Errorf("Take(%x, %d) = %d, %x, %d", both, many, got, rest, e)
				}
			}
		}
	}
	for _, many := range []int{4, 6} {
		wantNoTake(t, []byte("\x02\x0e"), many, true, api.ErrCorrupt)
	}
	wantTake(t, []byte("\x02\x0e"), true, alikes(5, 7))
}

func TestTakeOfNone(t *testing.T) { // P11.3: none, of 0
	for _, signed := range []bool{false, true} {
		for _, text := range []string{"", "\x00", "\xff\xff", "\x02\x0e", "\x48\x00\x01", primes} {
			l, rest, e := Take([]byte(text), 0, signed)
			if len(l) != 0 || string(rest) != text || e != api.OK {
				t.Errorf("Take(%x, 0, %v) = %d, %x, %d", text, signed, l, rest, e)
			}
		}
		if l, rest, e := Take(nil, 0, signed); len(l) != 0 || len(rest) != 0 || e != api.OK {
			t.Errorf("Take(none, 0, %v) = %d, %x, %d", signed, l, rest, e)
		}
		for _, many := range []int{1, 2, 512, 4095, 4096} {
			wantNoTake(t, nil, many, signed, api.ErrCorrupt)
			wantNoTake(t, []byte{}, many, signed, api.ErrCorrupt)
			wantNoTake(t, []byte(primes)[:0], many, signed, api.ErrCorrupt)
		}
	}
}

func TestTakeOfCutBytes(t *testing.T) { // P11.3: at each place
	for _, l := range [][]int{
		theirs[0], theirs[1], theirs[2], theirs[3],
		slices.Concat(theirs[3], theirs[0], theirs[1]),
		slices.Concat(theirs[0], theirs[2]),
		slices.Concat(alikes(9, 1<<40), spiked(90, 5), alikes(6, 2), rise(100, 1000, 3)),
		{math.MaxInt, 0, 7}, alikes(700, 1<<30),
	} {
		for _, signed := range []bool{false, true} {
			b, e := Put(l, signed)
			if e != api.OK {
				t.Fatal(e)
			}
			for n := range b {
				wantNoTake(t, b[:n], len(l), signed, api.ErrCorrupt)
				wantNoTake(t, bytes.Clone(b[:n]), len(l), signed, api.ErrCorrupt)
				checkTake(t, b[:n], len(l)/2)
			}
			wantTake(t, b, signed, l)
		}
	}
}

func TestTakeOfOtherRuns(t *testing.T) { // P11.3: such as Put would not have chosen
	for _, c := range []struct {
		b string
		l []int
	}{
		{"\x00\x07\x00\x07", alikes(6, 7)},                               // two repeats, not one
		{"\x02\x07\x40\x00\x80\x40\x00\x80", []int{7, 7, 7, 7, 7, 1, 1}}, // runs of one
		{"\x44\x02\xff\x80", alikes(3, 7)},                               // direct, what is all the same
		{"\xc0\x04\x07\x00", alikes(5, 7)},                               // delta, too
		{"\x84\x02\x00\x00\x07\x00\x00", alikes(3, 7)},                   // patched, too
		{"\x7e\x00\x00\x00\x00\x00\x00\x00\x00\x05", []int{5}},           // with more bits than need be
		{"\x4e\x01\x07\x08", []int{7, 8}},
		{"\xc0\x01\x01\x02", []int{1, 2}},                                                             // a delta of two
		{"\xc8\x02\x05\x02\x08", []int{5, 6, 7}},                                                      // with sizes that are all the same
		{"\x80\x00\x00\x00\x05\x00", []int{5}},                                                        // patched, with no patch
		{"\x80\x00\x00\x01\x05\x00\x00", []int{5}},                                                    // with a patch of 0
		{"\x84\x00\x40\x00\x00\x00\x05\x40", []int{7}},                                                // with a longer base
		{"\xbe\x00\x00\x00\x00\x00\x00\x00\x00\x00\x00\x00\x09", []int{9}},                            // of 64 bits
		{"\x4e\x00\x07\xc0\x01\x08\x02\x00\x09\x8e\x00\x00\x00\x05\x06", []int{7, 8, 9, 9, 9, 9, 11}}, // one of each kind
	} {
		wantTake(t, []byte(c.b), false, c.l)
		checkTake(t, []byte(c.b), len(c.l))
		if got, e := Put(c.l, false); string(got) == c.b || e != api.OK {
			t.Errorf("Put(%d) = %x, %d, which it should not choose", c.l, got, e)
		}
	}
	for _, l := range [][]int{alikes(8, 3), wild(40, 9), rise(60, 5, 5), spiked(100, 7), {5}, {9, 9}} { // each choice that there is
		for _, signed := range []bool{false, true} {
			for _, c := range choices(l, signed) {
				wantTake(t, c.b, signed, l)
				wantTake(t, slices.Concat(c.b, []byte("\x40\x00\x00"), c.b), signed, slices.Concat(l, []int{0}, l))
			}
		}
	}
}

func TestTakeOfWrongRuns(t *testing.T) { // P11.3: each kind
	for _, c := range []struct {
		b    string
		many int
		when string // "": always, "cut": if nothing stands behind, "unsigned": if it is not signed
	}{
		{"\x08\x00\x01", 3, ""},                                         // repeat: longer than need be
		{"\x38\x80\x00\x00\x00\x00\x00\x00\x00", 3, "unsigned"},         // no int is so great
		{"\x10\x01\x02", 3, "cut"},                                      // it is cut
		{"\x40\x00\x81", 1, ""},                                         // direct: a bit behind the last number
		{"\x7e\x00\xff\xff\xff\xff\xff\xff\xff\xff", 1, "unsigned"},     // no int is so great
		{"\x4e\x01\x07", 2, "cut"},                                      // it is cut
		{"\x80\x00\x00\x00\x05\x01", 1, ""},                             // patched: a bit behind the last number
		{"\x80\x00\x1f\x00\x05\x00", 1, ""},                             // no room for pairs
		{"\x80\x00\x00\x01\x05\x00\x80", 1, ""},                         // a place beyond
		{"\x80\x00\x00\x00\x85\x00", 1, "unsigned"},                     // below 0
		{"\x80\x00\x20\x00\x05", 1, "cut"},                              // it is cut
		{"\xc0\x00\x05\x00", 1, ""},                                     // delta: of one number
		{"\xc0\x01\x80\x00\x02", 2, ""},                                 // a number that is longer than need be
		{"\xc0\x01\x02\x05", 2, "unsigned"},                             // it falls below 0
		{"\xc2\x02\x05\x02\x41", 3, ""},                                 // a bit behind the last size
		{"\xc0\x01\xfe\xff\xff\xff\xff\xff\xff\xff\xff\x01\x02", 2, ""}, // beyond an int
		{"\xce\x03\x05\x02\x01", 4, "cut"},                              // it is cut
	} {
		for _, ahead := range []int{-1, 0, 1, 2, 3} { // alone, and behind a run of each kind
			b, many := []byte(c.b), c.many
			if ahead >= 0 {
				b, many = append([]byte(someBytes[ahead]), b...), many+len(theirs[ahead])
				// what is behind the last run is not asked
				if _, rest, e := Take(b, len(theirs[ahead]), false); string(rest) != c.b || e != api.OK {
					t.Errorf("Take(%x, %d, false): %x, %d", b, len(theirs[ahead]), rest, e)
				}
			}
			for _, rest := range rests {
				if c.when == "cut" && rest != "" {
					continue
				}
				b := append(bytes.Clone(b), rest...)
				for n := range c.many + 1 {
					wantNoTake(t, b, many+1-n, false, api.ErrCorrupt)
				}
				checkTake(t, b, many)
				if c.when != "unsigned" {
					wantNoTake(t, b, many, true, api.ErrCorrupt)
				} else if l, _, e := Take(b, many, true); len(l) != many || e != api.OK {
					t.Errorf("Take(%x, %d, true) = %d, %d", b, many, l, e)
				}
			}
		}
	}
}

// longestRun is one of so many bytes that none is longer: 512 numbers of 64
// bits, a base of 8 bytes, and 31 pairs of 64 bits. Its last pair has gap.
func longestRun(gap byte) []byte {
	b := []byte("\xbf\xff\xfe\xff\x80\x00\x00\x00\x00\x00\x00\x07")
	for i := range 512 {
		b = append(b, 0, 0, 0, 0, 0, 0, byte(i>>8), byte(i))
	}
	b = append(b, make([]byte, 31*8)...)
	b[len(b)-8] = gap
	return b
}

func TestTakeOfLongRuns(t *testing.T) { // P11.3: the longest of each kind, with much behind
	much := bytes.Repeat([]byte("\x40\x00\x80"), 3000)
	zeros := make([]byte, 510*8)
	for _, c := range []struct {
		b []byte
		l []int
	}{
		{longestRun(0), rise(512, -7, 1)},
		{longestRun(255), rise(512, -7, 1)},
		{append([]byte("\x7f\xff"), make([]byte, 512*8)...), alikes(512, 0)},
		{append([]byte("\xff\xff\xff\xff\xff\xff\xff\xff\xff\xff\xff\x01\x00"), zeros...), alikes(512, math.MinInt)},
		{append([]byte("\xff\xff\x00\xfe\xff\xff\xff\xff\xff\xff\xff\xff\x01"), zeros...), append([]int{0}, alikes(511, math.MaxInt)...)},
		{[]byte("\x3f\xff\xff\xff\xff\xff\xff\xff\xff"), alikes(10, math.MinInt)},
	} {
		wantTake(t, c.b, true, c.l)
		wantTake(t, bytes.Repeat(c.b, 3), true, slices.Repeat(c.l, 3))
		got, rest, e := Take(slices.Concat(c.b, much), len(c.l), true)
		if !slices.Equal(got, c.l) || !bytes.Equal(rest, much) || e != api.OK {
			t.Errorf("Take(%x .., %d) = %d, %d bytes, %d", c.b[:9], len(c.l), got, len(rest), e)
		}
		wantTake(t, slices.Concat(c.b, much[:9]), true, append(slices.Clone(c.l), -1, -1, -1))
		for _, n := range []int{1, 2, 8, len(c.b) - 1} {
			wantNoTake(t, c.b[:len(c.b)-n], len(c.l), true, api.ErrCorrupt)
		}
	}
	last := longestRun(0)
	last[len(last)-1] = 1 // with 64 bits no number has room for a patch
	wantNoTake(t, append(last, much...), 512, true, api.ErrCorrupt)
}

func TestTwoWrong(t *testing.T) { // R3
	wantNoRun(t, alikes(513, -1), false)                                    // P11.1: too many, and below 0
	wantNoPut(t, alikes(4097, -1), false, api.ErrBig)                       // P11.3: too many goes first
	wantNoPut(t, with(alikes(4097, 0), 0, -1), false, api.ErrBig)           // in the first run
	wantNoPut(t, with(wild(5000, 9), 4999, -1), false, api.ErrBig)          // in a later one
	wantNoPut(t, with(alikes(4096, 0), 4095, -1), false, api.ErrArg)        // not too many
	wantNoTake(t, nil, -1, true, api.ErrArg)                                // many goes first
	wantNoTake(t, []byte("\x08\x00\x01"), 4097, false, api.ErrArg)          // ahead of bytes that are wrong
	wantNoTake(t, []byte("\x40\x00\x81"), -1, false, api.ErrArg)            // and so with many below 0
	wantNoTake(t, []byte("\x02\x0e\x40\x00\x81"), 4, false, api.ErrCorrupt) // too many of one run, and the next is wrong
	wantNoTake(t, []byte("\x02\x0e\xc0"), 7, false, api.ErrCorrupt)         // too few, and the next is cut
}

// someNumbers are runs of each kind, one behind the other, and others.
func someNumbers(from *rand.Rand, pieces int) []int {
	var l []int
	for range pieces {
		bits := 1 + from.Intn(60)
		many := 1 + from.Intn(1<<(1+from.Intn(7)))
		base := from.Intn(1<<62) >> from.Intn(62)
		by := from.Intn(1<<bits) >> from.Intn(60)
		way := from.Intn(6)
		for i := range many {
			x := base
			switch way {
			case 0: // the same
			case 1:
				x += by * i // may go beyond, and come out on the other side
			case 2:
				x -= by / 64 * i
			case 3:
				x = from.Intn(1 << bits)
			case 4:
				x += from.Intn(1 << (bits/4 + 1))
				if from.Intn(15) == 0 {
					x += 1 << bits
				}
			case 5:
				x = from.Intn(1 << (bits/20 + 1))
			}
			l = append(l, x)
		}
	}
	return l
}

func TestSomeNumbers(t *testing.T) { // P11.1 to P11.4: with a bit turned, too, and cut
	from := rand.New(rand.NewSource(11))
	seen, tied, refused := map[string]int{}, map[string]int{}, 0
	for range 2500 {
		signed := from.Intn(3) > 0
		l := someNumbers(from, 1+from.Intn(4))
		called := checkPut(t, l, signed)
		for _, name := range called {
			seen[strings.Fields(name)[0]]++
		}
		wantCut(t, l, slowCut(l))
		one := l[:min(len(l), 1+from.Intn(30))]
		checkRun(t, one, signed)
		if mayBe(one, signed) {
			tied[kindsOf(asShort(choices(one, signed)))]++
		}
		b, e := Put(l, signed)
		if e != api.OK {
			refused++
			continue
		}
		b = append(b, "behind it all"...)
		checkTake(t, b[:from.Intn(len(b))], len(l))
		b[from.Intn(len(b))] ^= byte(1 << from.Intn(8))
		checkTake(t, b, len(l))
		checkTake(t, b, from.Intn(len(l)))
	}
	for _, name := range []string{"repeat", "direct", "delta", "patched"} {
		if seen[name] < 50 {
			t.Errorf("%s was chosen %d times", name, seen[name])
		}
	}
	for _, name := range []string{"direct, delta", "direct, patched", "delta, patched", "patched, patched"} {
		if tied[name] < 3 {
			t.Errorf("%s were as short %d times: %v", name, tied[name], tied)
		}
	}
	if refused < 10 {
		t.Errorf("%d were refused", refused)
	}
}

// kindsOf are the kinds of the first two of some choices.
func kindsOf(all []choice) string {
	var out []string
	for _, c := range all[:min(len(all), 2)] {
		out = append(out, strings.Fields(c.name)[0])
	}
	return strings.Join(out, ", ")
}

func TestShortNumbers(t *testing.T) { // P11.1, P11.3: all of up to 5 numbers of 3
	for _, three := range [][3]int{{0, 1, 2}, {-1, 0, 1}, {5, 1 << 20, 300}, {math.MinInt, 0, math.MaxInt}} {
		for many := range 6 {
			l := make([]int, many)
			all := int(math.Pow(3, float64(many)))
			for n := range all {
				for i := range l {
					l[i], n = three[n%3], n/3
				}
				for _, signed := range []bool{false, true} {
					checkRun(t, l, signed)
					checkPut(t, l, signed)
				}
			}
		}
	}
}

func TestTakeOfShortBytes(t *testing.T) { // P11.3: one, two, and three with some behind
	for c := range 256 {
		for _, many := range []int{0, 1, 2, 3, 5, 10, 512} {
			checkTake(t, []byte{byte(c)}, many)
		}
		for d := range 256 {
			for _, many := range []int{1, 3, 6} {
				checkTake(t, []byte{byte(c), byte(d)}, many)
				checkTake(t, []byte{byte(c), byte(d), 0, 0, 0, 2, 0, 0, 0, 0, 0, 0, 0}, many)
			}
			checkTake(t, append([]byte{byte(c), byte(d)}, make([]byte, 40)...), d+1)
			checkTake(t, append([]byte{byte(c), byte(d)}, "\x21\x03\x07\x09\x12\x34\x56\x78\x9a\xbc"...), d+1)
		}
	}
}

func TestOneBehindAnother(t *testing.T) { // P11.4: what stands behind is taken next
	from := rand.New(rand.NewSource(12))
	var all [][]int
	var together []byte
	for range 200 {
		l := someNumbers(from, 1+from.Intn(3))
		b, e := Put(l, true)
		if e != api.OK {
			t.Fatalf("Put(%d): %d", l, e)
		}
		all, together = append(all, l), append(together, b...)
	}
	for _, l := range all {
		got, rest, e := Take(together, len(l), true)
		if !slices.Equal(got, l) || e != api.OK {
			t.Fatalf("Take = %d, %d; want %d", got, e, l)
		}
		together = rest
	}
	if len(together) != 0 {
		t.Errorf("left: %x", together)
	}
}

// TestNumbersAreLeft: numbers that are handed in, and the room behind them,
// stay as they were, and what is answered is the caller's own.
func TestNumbersAreLeft(t *testing.T) { // R7
	for _, numbers := range [][]int{slices.Concat(theirs[0], theirs[2], []int{-4}), slices.Concat(theirs[3], theirs[1]), alikes(12, 5), {4, math.MinInt, 5, 5, 5, 5, 5, 5}} {
		for n := range len(numbers) + 1 { // some are refused
			for _, signed := range []bool{false, true} {
				for _, call := range []func([]int, bool) ([]byte, api.Errno){Run, Put} {
					l := slices.Clone(numbers)
					one, _ := call(l[:n], signed)
					two, _ := call(l[:n], signed)
					Cut(l[:n])
					want := bytes.Clone(one)
					clear(one[:cap(one)])
					if !slices.Equal(l, numbers) {
						t.Fatalf("%d numbers, %v: handed in is now %d", n, signed, l)
					}
					clear(l)
					if !bytes.Equal(two, want) {
						t.Fatalf("%d numbers, %v: an answer went with another: %x", n, signed, two)
					}
				}
			}
		}
	}
}

func TestBytesAreLeft(t *testing.T) { // R7
	text := someBytes[0] + someBytes[1] + someBytes[2] + someBytes[3] + "rest and room"
	for n := range len(text) + 1 { // some are refused
		for _, many := range []int{-1, 0, 5, 9, 19, 29} {
			b := []byte(text)
			l, rest, _ := Take(b[:n], many, false)
			m, behind, _ := Take(b[:n], many, false)
			wantL, wantRest := slices.Clone(l), bytes.Clone(rest)
			clear(l[:cap(l)])
			clear(rest[:cap(rest)])
			if string(b) != text {
				t.Fatalf("%d bytes, %d: handed in is now %q", n, many, b)
			}
			clear(b)
			if !slices.Equal(m, wantL) || !bytes.Equal(behind, wantRest) {
				t.Fatalf("%d bytes, %d: an answer went with another, or with what was handed in: %d, %x", n, many, m, behind)
			}
		}
	}
}

// TestRoomIsNotRead: what stands behind the end is not the list's.
func TestRoomIsNotRead(t *testing.T) { // R6
	l := []int{1, 7, 7, 7, 7, 7, 7, 7}
	for n := range len(l) + 1 {
		for _, m := range [][]int{l[:n], l[:n:n], l[min(n, 1):n]} {
			wantCut(t, m, slowCut(slices.Clone(m)))
			checkRun(t, m, false)
			checkPut(t, m, false)
		}
	}
	text := []byte(someBytes[0] + someBytes[1] + someBytes[2] + someBytes[3])
	for n := range len(text) + 1 {
		for _, many := range []int{0, 5, 9, 19, 29} {
			l, rest, ok := slowTake(bytes.Clone(text[:n]), many, false)
			for _, b := range [][]byte{text[:n], text[:n:n]} {
				got, behind, e := Take(b, many, false)
				if !slices.Equal(got, l) || !bytes.Equal(behind, rest) || ok != (e == api.OK) {
					t.Fatalf("Take(%x, %d) = %d, %x, %d; want %d, %x, %v", b, many, got, behind, e, l, rest, ok)
				}
			}
		}
	}
}

// numbersOf are those of bytes, eight for each, of which it keeps some bits.
func numbersOf(b []byte, bits int) []int {
	var l []int
	for ; len(b) >= 8; b = b[8:] {
		x := 0
		for _, c := range b[:8] {
			x = x<<8 | int(c)
		}
		l = append(l, x>>(64-(1+bits&63)))
	}
	return l
}

func FuzzRun(f *testing.F) { // P11.1
	f.Add([]byte("\x00\x00\x00\x00\x00\x00\x00\x02\x00\x00\x00\x00\x00\x00\x00\x01"), 63, false)
	f.Add([]byte("12345678abcdefgh8765432112345678"), 17, true)
	f.Add([]byte("\xff\xff\xff\xff\xff\xff\xff\xff\x00\x00\x00\x00\x00\x00\x00\x00"), 63, true)
	f.Fuzz(func(t *testing.T, b []byte, bits int, signed bool) {
		checkRun(t, numbersOf(b, bits), signed)
		l := []int{}
		for i, c := range b { // a byte each, but for a few
			x := int(c)
			if i%9 == 8 {
				x <<= bits & 63
			}
			l = append(l, x)
		}
		checkRun(t, l, signed)
		slices.Sort(l)
		checkRun(t, l, signed)
	})
}

func FuzzPut(f *testing.F) { // P11.2 to P11.4
	f.Add([]byte("\x07\x07\x07\x07\x07"), 3, true)
	f.Add([]byte("\x01\x02\x02\x02\x02\x02\x01\x01\x01\x03"), 0, false)
	f.Add([]byte("12345678abcdefgh87654321"), 17, false)
	f.Fuzz(func(t *testing.T, b []byte, bits int, signed bool) {
		var l []int
		for _, c := range b { // a number, and how often
			l = append(l, alikes(int(c>>4)+1, int(c&15)-bits&3)...)
		}
		for _, l := range [][]int{l, numbersOf(b, bits)} {
			wantCut(t, l, slowCut(l))
			checkPut(t, l, signed)
		}
	})
}

func FuzzTake(f *testing.F) { // P11.3
	f.Add([]byte(nil), 0)
	for bits, text := range someBytes {
		f.Add([]byte(text), len(theirs[bits]))
	}
	f.Add([]byte(someBytes[0]+someBytes[1]+someBytes[2]+someBytes[3]), 29)
	f.Add([]byte("\x02\x0e"), 4)
	f.Fuzz(func(t *testing.T, b []byte, many int) {
		checkTake(t, b, many)
		for n := range 30 {
			checkTake(t, b, n)
		}
	})
}
