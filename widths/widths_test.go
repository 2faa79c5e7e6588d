package widths

import (
	"math"
	"slices"
	"testing"
)

// wanted: the width of each code, by the chapter's rule.
func wanted() []int {
	var out []int
	for w := 1; w <= 24; w++ {
		out = append(out, w)
	}
	return append(out, 26, 28, 30, 32, 40, 48, 56, 64)
}

// far: numbers that are neither a code nor a width.
var far = []int{
	math.MinInt, math.MinInt + 1, -1 << 32, -1<<32 + 1, -1 << 31, -256, -65, -64, -33, -32, -31, -24, -2, -1,
	65, 66, 72, 96, 128, 255, 256, 256 + 8, 1<<16 + 1, 1 << 31, 1 << 32, 1<<32 + 1, 1<<32 + 24, 1 << 62, math.MaxInt - 1, math.MaxInt,
}

func TestOf(t *testing.T) { // P2.1
	if len(wanted()) != 32 {
		t.Fatalf("%d widths are wanted", len(wanted()))
	}
	for code, w := range wanted() {
		if got := Of(code); got != w {
			t.Errorf("Of(%d) = %d, want %d", code, got, w)
		}
	}
}

func TestOfNone(t *testing.T) { // P2.1
	for code := 32; code <= 300; code++ {
		if got := Of(code); got != 0 {
			t.Errorf("Of(%d) = %d, want 0", code, got)
		}
	}
	for _, code := range far {
		if got := Of(code); got != 0 {
			t.Errorf("Of(%d) = %d, want 0", code, got)
		}
	}
}

func TestCode(t *testing.T) { // P2.1
	for code, w := range wanted() {
		if got := Code(w); got != code {
			t.Errorf("Code(%d) = %d, want %d", w, got, code)
		}
	}
}

func TestCodeNone(t *testing.T) { // P2.1
	l := wanted()
	for w := -100; w <= 300; w++ {
		if got := Code(w); !slices.Contains(l, w) && got != -1 {
			t.Errorf("Code(%d) = %d, want -1", w, got)
		}
	}
	for _, w := range far {
		if got := Code(w); got != -1 {
			t.Errorf("Code(%d) = %d, want -1", w, got)
		}
	}
}

// closest: bits and the width for them, below, at and above each step of the widths.
var closest = []struct{ bits, want int }{
	{-1, 1}, {0, 1}, {1, 1}, {2, 2}, {3, 3}, {7, 7}, {8, 8}, {9, 9}, {15, 15}, {16, 16}, {17, 17}, {23, 23}, {24, 24},
	{25, 26}, {26, 26}, {27, 28}, {28, 28}, {29, 30}, {30, 30}, {31, 32}, {32, 32},
	{33, 40}, {34, 40}, {39, 40}, {40, 40}, {41, 48}, {47, 48}, {48, 48}, {49, 56}, {55, 56}, {56, 56},
	{57, 64}, {63, 64}, {64, 64}, {65, 0}, {66, 0}, {128, 0},
}

func TestClosest(t *testing.T) { // P2.1
	for _, c := range closest {
		if got := Closest(c.bits); got != c.want {
			t.Errorf("Closest(%d) = %d, want %d", c.bits, got, c.want)
		}
	}
}

func TestClosestIsLeast(t *testing.T) { // P2.1: has room, and the width below it has none
	for bits := 1; bits <= 64; bits++ {
		w := Closest(bits)
		at := slices.Index(wanted(), w)
		if at < 0 || w < bits {
			t.Errorf("Closest(%d) = %d: no width with room", bits, w)
		} else if at > 0 && wanted()[at-1] >= bits {
			t.Errorf("Closest(%d) = %d, but %d has room", bits, w, wanted()[at-1])
		}
	}
}

func TestClosestFar(t *testing.T) { // P2.1
	for _, bits := range far {
		want := 0
		if bits < 1 {
			want = 1
		}
		if got := Closest(bits); got != want {
			t.Errorf("Closest(%d) = %d, want %d", bits, got, want)
		}
	}
}

func TestBits(t *testing.T) { // P2.2
	for _, c := range []struct {
		x    uint64
		want int
	}{
		{0, 0}, {1, 1}, {2, 2}, {3, 2}, {4, 3}, {5, 3}, {7, 3}, {8, 4}, {9, 4}, {255, 8}, {256, 9}, {1000, 10},
		{math.MaxInt32, 31}, {math.MaxUint32, 32}, {math.MaxInt64, 63}, {math.MaxUint64 - 1, 64}, {math.MaxUint64, 64},
	} {
		if got := Bits(c.x); got != c.want {
			t.Errorf("Bits(%d) = %d, want %d", c.x, got, c.want)
		}
	}
}

func TestBitsAtEachPower(t *testing.T) { // P2.2: below, at and above 2^n
	for n := range 64 {
		power := uint64(1) << n
		if got := Bits(power - 1); got != n {
			t.Errorf("Bits(2^%d - 1) = %d", n, got)
		}
		if got := Bits(power); got != n+1 {
			t.Errorf("Bits(2^%d) = %d", n, got)
		}
		if got, want := Bits(power+1), max(n+1, 2); got != want {
			t.Errorf("Bits(2^%d + 1) = %d, want %d", n, got, want)
		}
	}
}

func TestMost(t *testing.T) { // P2.2
	for _, c := range []struct {
		l    []uint64
		want int
	}{
		{nil, 0}, {[]uint64{}, 0}, {[]uint64{0}, 0}, {[]uint64{0, 0, 0}, 0}, {[]uint64{1}, 1}, {[]uint64{0, 1, 0}, 1},
		{[]uint64{5, 9, 2}, 4}, {[]uint64{9, 5, 2}, 4}, {[]uint64{2, 5, 9}, 4},
		{[]uint64{3, 3, 3, 3}, 2}, {[]uint64{4, 4, 4, 4}, 3}, // neither their sum nor how many there are counts
		{[]uint64{1, 2, 4, 8}, 4}, {[]uint64{255, 256, 255}, 9},
		{[]uint64{math.MaxUint64, 0}, 64}, {[]uint64{0, math.MaxUint64}, 64}, {[]uint64{math.MaxUint64, math.MaxUint64}, 64},
		{[]uint64{math.MaxInt64, 1 << 63, 7}, 64}, {[]uint64{math.MaxInt64, math.MaxInt64}, 63},
	} {
		if got := Most(c.l); got != c.want {
			t.Errorf("Most(%d) = %d, want %d", c.l, got, c.want)
		}
	}
}

func TestMostAtEachPlace(t *testing.T) { // P2.2: a great number is seen wherever it stands, in a long list, too
	for n := 2; n <= 64; n++ {
		for _, at := range []int{0, 1, 255, 256, 510, 511} {
			l := slices.Repeat([]uint64{1}, 512)
			l[at] = 1 << (n - 1)
			if got := Most(l); got != n {
				t.Errorf("Most with 2^%d at %d = %d", n-1, at, got)
			}
		}
	}
}

func FuzzMost(f *testing.F) { // P2.2: held against Bits of each
	f.Add(uint64(0), uint64(0), uint64(0))
	f.Add(uint64(5), uint64(9), uint64(2))
	f.Add(uint64(math.MaxUint64), uint64(1)<<63, uint64(math.MaxInt64))
	f.Fuzz(func(t *testing.T, a, b, c uint64) {
		if got, want := Most([]uint64{a, b, c}), max(Bits(a), Bits(b), Bits(c)); got != want {
			t.Errorf("Most(%d, %d, %d) = %d, want %d", a, b, c, got, want)
		}
	})
}

func TestCodesAndWidths(t *testing.T) { // P2.3
	last := 0
	for code := range 32 {
		w := Of(code)
		if Code(w) != code {
			t.Errorf("Code(Of(%d)) = %d", code, Code(w))
		}
		if Closest(w) != w {
			t.Errorf("Closest(%d) = %d", w, Closest(w))
		}
		if w <= last {
			t.Errorf("Of(%d) = %d, Of(%d) = %d", code-1, last, code, w)
		}
		last = w
	}
	many := 0
	for w := -1; w <= 65; w++ {
		code := Code(w)
		if code < 0 {
			continue
		}
		many++
		if Of(code) != w {
			t.Errorf("Of(Code(%d)) = %d", w, Of(code))
		}
	}
	if many != 32 {
		t.Errorf("%d widths have a code", many)
	}
}

func TestHandedInIsLeft(t *testing.T) { // R7
	room := []uint64{7, 1, 900, 0, 5, 1 << 40}
	l := slices.Clone(room)
	for range 2 {
		if got := Most(l[:4]); got != 10 { // what stands behind the end is not the list's
			t.Errorf("Most = %d", got)
		}
	}
	if !slices.Equal(l, room) {
		t.Errorf("handed in is now %d", l)
	}
}
