package bits

import (
	"bytes"
	"math"
	"slices"
	"strings"
	"testing"

	"pilaster/api"
)

// far: numbers that are neither a width nor how many there may be.
var far = []int{
	math.MinInt, math.MinInt + 1, -1 << 62, -1 << 32, -1<<32 + 8, -1 << 31, -4097, -4096, -65, -64, -63, -8, -2, -1,
	4097, 4098, 5000, 1 << 16, 1<<16 + 8, 1 << 31, 1 << 32, 1<<32 + 1, 1<<32 + 8, 1 << 58, 1 << 60, 1 << 61, 1 << 62, math.MaxInt - 1, math.MaxInt,
}

// farWidths: numbers that are no width, those above among them.
func farWidths() []int {
	return append([]int{65, 66, 72, 127, 128, 255, 256, 256 + 8, 4096}, far...)
}

// greatest is one less than 2^width.
func greatest(width int) uint64 {
	if width == 64 {
		return math.MaxUint64
	}
	return 1<<width - 1
}

// mixed: so many numbers of a width, with its edges and some others among them.
func mixed(many, width int) []uint64 {
	top := greatest(width)
	out := make([]uint64, many)
	for i := range out {
		switch i % 5 {
		case 0:
			out[i] = top
		case 1:
			out[i] = top &^ (top >> 1) // the highest bit alone
		case 2:
			out[i] = top & 1
		case 3:
			out[i] = 0
		default:
			out[i] = uint64(i+1) * 0x9e3779b97f4a7c15 & top
		}
	}
	return out
}

// slow packs by a text of a letter a bit, as the chapter's words have it.
func slow(l []uint64, width int) []byte {
	var text strings.Builder
	for _, x := range l {
		for bit := width - 1; bit >= 0; bit-- {
			text.WriteByte('0' + byte(x>>bit&1))
		}
	}
	for text.Len()%8 != 0 {
		text.WriteByte('0')
	}
	letters := text.String()
	out := make([]byte, len(letters)/8)
	for i := range letters {
		if letters[i] == '1' {
			out[i/8] += 128 >> (i % 8)
		}
	}
	return out
}

// wantPack asks that Pack lays l down as want, and Unpack has it back, with
// whatever bytes behind.
func wantPack(t *testing.T, l []uint64, width int, want []byte) {
	t.Helper()
	b, e := Pack(l, width)
	if e != api.OK || !bytes.Equal(b, want) {
		t.Errorf("Pack of %d numbers, %d = %x, %d; want %x", len(l), width, b, e, want)
	}
	for _, rest := range []string{"", "\x00", "\xff", "\x07", "the rest"} {
		got, behind, e := Unpack(append(bytes.Clone(want), rest...), len(l), width)
		if e != api.OK || !slices.Equal(got, l) || string(behind) != rest {
			t.Errorf("Unpack of %d numbers, %d: %d, %x, %d; want %d, %x", len(l), width, got, behind, e, l, rest)
		}
	}
}

// wantNoPack asks that Pack refuses l by an error, with nothing beside it.
func wantNoPack(t *testing.T, l []uint64, width int, want api.Errno) {
	t.Helper()
	if b, e := Pack(l, width); len(b) != 0 || e != want {
		t.Errorf("Pack of %d numbers, %d = %x, %d; want %d", len(l), width, b, e, want)
	}
}

// wantNoUnpack asks that Unpack refuses b by an error, with nothing beside it.
func wantNoUnpack(t *testing.T, b []byte, many, width int, want api.Errno) {
	t.Helper()
	if l, rest, e := Unpack(b, many, width); len(l) != 0 || len(rest) != 0 || e != want {
		t.Errorf("Unpack of %d bytes, %d, %d = %d, %x, %d; want %d", len(b), many, width, l, rest, e, want)
	}
}

func TestSize(t *testing.T) { // P3.1
	for _, c := range []struct{ many, width, want int }{
		{0, 0, 0}, {0, 1, 0}, {0, 64, 0}, {1, 0, 0}, {4096, 0, 0},
		{1, 1, 1}, {7, 1, 1}, {8, 1, 1}, {9, 1, 2}, {16, 1, 2}, {17, 1, 3},
		{1, 7, 1}, {1, 8, 1}, {1, 9, 2}, {3, 3, 2}, {2, 4, 1}, {3, 5, 2}, {8, 3, 3}, {5, 13, 9},
		{1, 63, 8}, {1, 64, 8}, {2, 63, 16}, {8, 63, 63}, {2, 64, 16}, {512, 64, 4096},
		{4095, 1, 512}, {4096, 1, 512}, {4095, 3, 1536}, {4096, 63, 32256}, {4095, 64, 32760}, {4096, 64, 32768},
	} {
		if got := Size(c.many, c.width); got != c.want {
			t.Errorf("Size(%d, %d) = %d, want %d", c.many, c.width, got, c.want)
		}
	}
}

func TestSizeIsLeast(t *testing.T) { // P3.1: has room, and one byte less has none
	for width := 0; width <= 64; width++ {
		for many := 0; many <= 4096; many++ {
			got, bits := Size(many, width), many*width
			if got*8 < bits || got > 0 && (got-1)*8 >= bits || got < 0 {
				t.Fatalf("Size(%d, %d) = %d", many, width, got)
			}
		}
	}
}

func TestSizeNone(t *testing.T) { // P3.1
	for _, many := range far {
		for width := -1; width <= 65; width++ {
			if got := Size(many, width); got != 0 {
				t.Errorf("Size(%d, %d) = %d, want 0", many, width, got)
			}
		}
	}
	for _, width := range farWidths() {
		for _, many := range append([]int{0, 1, 2, 8, 512, 4095, 4096}, far...) {
			if got := Size(many, width); got != 0 {
				t.Errorf("Size(%d, %d) = %d, want 0", many, width, got)
			}
		}
	}
}

func TestPack(t *testing.T) { // P3.2
	for _, c := range []struct {
		l     []uint64
		width int
		want  string
	}{
		{[]uint64{1, 2, 3}, 3, "\x29\x80"}, // the chapter's
		{nil, 0, ""}, {nil, 5, ""}, {nil, 64, ""}, {[]uint64{}, 8, ""},
		{[]uint64{0}, 0, ""}, {[]uint64{0, 0, 0}, 0, ""},
		{[]uint64{1}, 1, "\x80"}, {[]uint64{1, 0, 1, 1}, 1, "\xb0"}, {[]uint64{0, 0, 0, 0, 0, 0, 0, 1}, 1, "\x01"},
		{[]uint64{1, 0, 0, 0, 0, 0, 0, 0, 1}, 1, "\x80\x80"},
		{[]uint64{1, 2, 3, 0}, 2, "\x6c"}, {[]uint64{0xa, 5}, 4, "\xa5"}, {[]uint64{0xa, 5, 0xf}, 4, "\xa5\xf0"},
		{[]uint64{0x15, 0x0a}, 5, "\xaa\x80"}, {[]uint64{0x41, 0x7f}, 7, "\x83\xfc"}, // cross the end of a byte
		{[]uint64{0x12, 0xff, 0}, 8, "\x12\xff\x00"},
		{[]uint64{0x155, 1}, 9, "\xaa\x80\x40"}, {[]uint64{0x1ff}, 9, "\xff\x80"},
		{[]uint64{0xabc, 0xdef}, 12, "\xab\xcd\xef"}, {[]uint64{0x1234, 0xabcd}, 16, "\x12\x34\xab\xcd"},
		{[]uint64{0x1ffff}, 17, "\xff\xff\x80"}, {[]uint64{0x123456, 1}, 24, "\x12\x34\x56\x00\x00\x01"},
		{[]uint64{1<<63 - 1}, 63, strings.Repeat("\xff", 7) + "\xfe"},
		{[]uint64{0, 1}, 63, strings.Repeat("\x00", 15) + "\x04"},
		{[]uint64{0x0123456789abcdef}, 64, "\x01\x23\x45\x67\x89\xab\xcd\xef"},
		{[]uint64{math.MaxUint64, 1}, 64, strings.Repeat("\xff", 8) + strings.Repeat("\x00", 7) + "\x01"},
	} {
		wantPack(t, c.l, c.width, []byte(c.want))
	}
}

func TestEachWidth(t *testing.T) { // P3.2, P3.3: held against a slower packing
	for width := 0; width <= 64; width++ {
		for many := range 40 {
			l := mixed(many, width)
			wantPack(t, l, width, slow(l, width))
		}
		for _, many := range []int{511, 512, 513, 4095, 4096} {
			l := mixed(many, width)
			wantPack(t, l, width, slow(l, width))
		}
	}
}

func TestPackEdgeOfWidth(t *testing.T) { // P3.2: 2^width is refused, one less is not, wherever it stands
	for width := 0; width <= 64; width++ {
		for _, at := range []int{0, 1, 8, 4095} {
			l := make([]uint64, 4096)
			l[at] = greatest(width)
			wantPack(t, l, width, slow(l, width))
			if width == 64 {
				continue
			}
			for _, x := range []uint64{1 << width, greatest(width+1) &^ 1, 1 << 63, math.MaxInt64, math.MaxUint64} {
				if x > greatest(width) {
					l[at] = x
					wantNoPack(t, l, width, api.ErrArg)
				}
			}
		}
	}
}

func TestPackWrong(t *testing.T) { // P3.2
	for _, width := range farWidths() {
		for _, l := range [][]uint64{nil, {}, {0}, {1}, {math.MaxUint64}, make([]uint64, 4096)} {
			wantNoPack(t, l, width, api.ErrArg)
		}
	}
	wantNoPack(t, []uint64{8}, 3, api.ErrArg)
	for width := 0; width <= 64; width++ {
		wantNoPack(t, make([]uint64, 4097), width, api.ErrBig)
	}
	wantNoPack(t, make([]uint64, 1<<20), 1, api.ErrBig)
}

func TestPackTwoWrong(t *testing.T) { // P3.2, R3: the width, then how many, then the numbers
	many, great := make([]uint64, 4097), make([]uint64, 4097)
	great[0], great[4096] = math.MaxUint64, math.MaxUint64
	for _, width := range farWidths() {
		wantNoPack(t, many, width, api.ErrArg)
		wantNoPack(t, great, width, api.ErrArg)
	}
	for width := 0; width <= 64; width++ {
		wantNoPack(t, great, width, api.ErrBig)
	}
}

func TestUnpackWrong(t *testing.T) { // P3.2
	for _, b := range [][]byte{nil, {0}, {0xff}, make([]byte, 40000)} {
		for _, width := range farWidths() {
			for _, many := range append([]int{0, 1, 4096}, far...) {
				wantNoUnpack(t, b, many, width, api.ErrArg)
			}
		}
		for _, many := range far {
			for width := range 65 {
				wantNoUnpack(t, b, many, width, api.ErrArg)
			}
		}
	}
}

func TestUnpackCut(t *testing.T) { // P3.2: fewer than Size bytes
	wantNoUnpack(t, []byte{0x29}, 3, 3, api.ErrCorrupt)
	for width := 1; width <= 64; width++ {
		for _, many := range []int{1, 2, 7, 8, 9, 4095, 4096} {
			b := slow(mixed(many, width), width)
			wantNoUnpack(t, nil, many, width, api.ErrCorrupt)
			wantNoUnpack(t, b[:0], many, width, api.ErrCorrupt) // the room behind the end is not the list's
			wantNoUnpack(t, b[:len(b)/2], many, width, api.ErrCorrupt)
			wantNoUnpack(t, b[:len(b)-1], many, width, api.ErrCorrupt)
		}
	}
}

func TestUnpackBitLeftOver(t *testing.T) { // P3.2: each bit behind the last number is 0
	wantNoUnpack(t, []byte{0x29, 0x81}, 3, 3, api.ErrCorrupt)
	for width := range 65 {
		for _, many := range []int{1, 2, 3, 5, 8, 9, 4095} {
			l := mixed(many, width)
			b := slow(l, width)
			for bit := range len(b)*8 - many*width {
				b[len(b)-1] ^= 1 << bit
				wantNoUnpack(t, b, many, width, api.ErrCorrupt)
				wantNoUnpack(t, append(bytes.Clone(b), 0, 0xff), many, width, api.ErrCorrupt)
				b[len(b)-1] ^= 1 << bit
			}
		}
	}
}

func TestUnpackNothing(t *testing.T) { // P3.2: of no bits no byte is asked, and all bytes stand behind
	for _, b := range []string{"", "\x00", "\xff", "\x01\x02"} {
		for width := range 65 {
			l, rest, e := Unpack([]byte(b), 0, width)
			if len(l) != 0 || string(rest) != b || e != api.OK {
				t.Errorf("Unpack(%x, 0, %d) = %d, %x, %d", b, width, l, rest, e)
			}
		}
		for _, many := range []int{1, 8, 4096} {
			l, rest, e := Unpack([]byte(b), many, 0)
			if !slices.Equal(l, make([]uint64, many)) || string(rest) != b || e != api.OK {
				t.Errorf("Unpack(%x, %d, 0) = %d, %x, %d", b, many, l, rest, e)
			}
		}
	}
}

// TestUnpackShort: two bytes are refused, or are just what Pack lays down of
// what Unpack answers, with what stands behind.
func TestUnpackShort(t *testing.T) { // P3.2, P3.3
	for many := 1; many <= 16; many++ {
		for width := 1; many*width <= 16; width++ {
			for first := range 256 {
				for _, second := range []byte{0, 1, 2, 4, 8, 16, 32, 64, 128, 0xaa, 0xff} {
					checkUnpack(t, []byte{byte(first), second}, many, width)
				}
			}
		}
	}
}

func FuzzUnpack(f *testing.F) { // P3.2, P3.3
	f.Add([]byte("\x29\x80"), 3, 3)
	f.Add([]byte("\x29\x81"), 3, 3)
	f.Add([]byte("\x29"), 3, 3)
	f.Add([]byte("\xff\xff\xff\xff\xff\xff\xff\xff\x00"), 1, 64)
	f.Add([]byte{}, -1, 65)
	f.Add(make([]byte, 600), 4096, 1)
	f.Fuzz(func(t *testing.T, b []byte, many, width int) { checkUnpack(t, b, many, width) })
}

// checkUnpack holds Unpack against Pack: bytes are taken, if they are long
// enough and Pack lays down just them, spare bits and all.
func checkUnpack(t *testing.T, b []byte, many, width int) {
	t.Helper()
	l, rest, e := Unpack(b, many, width)
	if many < 0 || many > 4096 || width < 0 || width > 64 {
		wantNoUnpack(t, b, many, width, api.ErrArg)
		return
	}
	size := (many*width + 7) / 8
	spare := size*8 - many*width
	if len(b) < size || spare > 0 && b[size-1]<<(8-spare) != 0 {
		wantNoUnpack(t, b, many, width, api.ErrCorrupt)
		return
	}
	if e != api.OK || len(l) != many || !bytes.Equal(rest, b[size:]) {
		t.Fatalf("Unpack(%x, %d, %d) = %d, %x, %d", b, many, width, l, rest, e)
	}
	if back, e := Pack(l, width); e != api.OK || !bytes.Equal(back, b[:size]) {
		t.Fatalf("Pack of Unpack(%x, %d, %d) = %x, %d", b, many, width, back, e)
	}
}

func FuzzPack(f *testing.F) { // P3.2, P3.3
	f.Add(uint64(1), uint64(2), uint64(3), 3)
	f.Add(uint64(8), uint64(0), uint64(0), 3)
	f.Add(uint64(math.MaxUint64), uint64(0), uint64(1), 64)
	f.Add(uint64(0), uint64(0), uint64(0), -1)
	f.Fuzz(func(t *testing.T, x, y, z uint64, width int) {
		l := []uint64{x, y, z}
		if width < 0 || width > 64 || max(x, y, z) > greatest(width) {
			wantNoPack(t, l, width, api.ErrArg)
			return
		}
		wantPack(t, l, width, slow(l, width))
	})
}

func TestUnpackOneBehindAnother(t *testing.T) { // P3.3: what stands behind is unpacked next
	var all []byte
	for width := range 65 {
		b, e := Pack(mixed(11, width), width)
		if e != api.OK {
			t.Fatalf("Pack, %d: %d", width, e)
		}
		all = append(all, b...)
	}
	for width := range 65 {
		l, rest, e := Unpack(all, 11, width)
		if e != api.OK || !slices.Equal(l, mixed(11, width)) {
			t.Fatalf("Unpack, %d: %d, %d", width, l, e)
		}
		all = rest
	}
	if len(all) != 0 {
		t.Errorf("left: %x", all)
	}
}

// TestHandedInIsLeft: what is handed in, and the spare room behind it, stays
// as it was, and what is answered is the caller's own.
func TestHandedInIsLeft(t *testing.T) { // R7
	numbers := []uint64{1, 2, 3, 4, 5, 6}
	l := slices.Clone(numbers)
	one, _ := Pack(l[:3], 3)
	two, _ := Pack(l[:3], 3)
	clear(one[:cap(one)])
	if !slices.Equal(l, numbers) || string(two) != "\x29\x80" {
		t.Errorf("Pack: handed in is now %d, another answer %x", l, two)
	}

	room := []byte("\x29\x80rest and room")
	b := bytes.Clone(room)
	first, rest, _ := Unpack(b[:6], 3, 3)
	second, other, _ := Unpack(b[:6], 3, 3)
	clear(first[:cap(first)])
	clear(rest[:cap(rest)])
	if !bytes.Equal(b, room) {
		t.Errorf("Unpack: handed in is now %q", b)
	}
	if !slices.Equal(second, []uint64{1, 2, 3}) || string(other) != "rest" {
		t.Errorf("Unpack: another answer is now %d, %q", second, other)
	}
	clear(b)
	if !slices.Equal(second, []uint64{1, 2, 3}) || string(other) != "rest" {
		t.Errorf("Unpack: an answer went with what was handed in: %d, %q", second, other)
	}
}
