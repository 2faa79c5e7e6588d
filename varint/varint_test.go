package varint

import (
	"bytes"
	"math"
	"strings"
	"testing"

	"pilaster/api"
)

// forms: numbers at the edges of each count of bytes, with their bytes.
var forms = []struct {
	x    uint64
	want string
}{
	{0, "\x00"},
	{1, "\x01"},
	{127, "\x7f"},
	{128, "\x80\x01"},
	{300, "\xac\x02"},
	{1<<14 - 1, "\xff\x7f"},
	{1 << 14, "\x80\x80\x01"},
	{1<<21 - 1, "\xff\xff\x7f"},
	{1 << 21, "\x80\x80\x80\x01"},
	{1<<28 - 1, strings.Repeat("\xff", 3) + "\x7f"},
	{1 << 28, strings.Repeat("\x80", 4) + "\x01"},
	{1<<35 - 1, strings.Repeat("\xff", 4) + "\x7f"},
	{1 << 35, strings.Repeat("\x80", 5) + "\x01"},
	{1<<42 - 1, strings.Repeat("\xff", 5) + "\x7f"},
	{1 << 42, strings.Repeat("\x80", 6) + "\x01"},
	{1<<49 - 1, strings.Repeat("\xff", 6) + "\x7f"},
	{1 << 49, strings.Repeat("\x80", 7) + "\x01"},
	{1<<56 - 1, strings.Repeat("\xff", 7) + "\x7f"},
	{1 << 56, strings.Repeat("\x80", 8) + "\x01"},
	{1<<63 - 1, strings.Repeat("\xff", 8) + "\x7f"},
	{1 << 63, strings.Repeat("\x80", 9) + "\x01"},
	{1<<63 + 1, "\x81" + strings.Repeat("\x80", 8) + "\x01"},
	{math.MaxUint64, strings.Repeat("\xff", 9) + "\x01"},
}

// corrupt: bytes that do not begin with a number's form.
var corrupt = []string{
	"",                                 // no bytes
	"\x80",                             // cut
	"\xff\xff\xff",                     // cut
	strings.Repeat("\x80", 9),          // cut ahead of the tenth
	strings.Repeat("\xff", 10),         // ten, and more should come
	"\x80\x00",                         // last byte 0
	"\xac\x82\x00",                     // last byte 0
	"\x80\x00\x01",                     // last byte 0, with bytes behind
	strings.Repeat("\xff", 9) + "\x00", // tenth 0
	strings.Repeat("\xff", 9) + "\x02", // tenth too great
	strings.Repeat("\xff", 9) + "\x03",
	strings.Repeat("\x80", 9) + "\x7f",
	strings.Repeat("\x80", 9) + "\x81\x00", // eleven
	strings.Repeat("\xff", 10) + "\x01",    // eleven
	strings.Repeat("\x80", 40) + "\x01",    // far too many
}

func TestPut(t *testing.T) { // P1.1
	for _, f := range forms {
		for _, front := range []string{"", "a", "\x80\x80", "some bytes"} {
			if got := Put([]byte(front), f.x); string(got) != front+f.want {
				t.Errorf("Put(%q, %d) = %x, want %x", front, f.x, got, front+f.want)
			}
		}
		if got := Put(nil, f.x); string(got) != f.want {
			t.Errorf("Put(nil, %d) = %x, want %x", f.x, got, f.want)
		}
	}
}

func TestTake(t *testing.T) { // P1.1
	for _, f := range forms {
		for _, rest := range []string{"", "\x00", "\x09", "\x80", "\xff\xff", "the rest"} {
			x, got, e := Take([]byte(f.want + rest))
			if x != f.x || string(got) != rest || e != api.OK {
				t.Errorf("Take(%x %x) = %d, %x, %d", f.want, rest, x, got, e)
			}
		}
	}
}

func TestTakeCut(t *testing.T) { // P1.1
	for _, f := range forms {
		for n := range len(f.want) {
			wantCorrupt(t, f.want[:n])
		}
	}
}

func TestTakeCorrupt(t *testing.T) { // P1.1
	for _, s := range corrupt {
		wantCorrupt(t, s)
	}
	if x, rest, e := Take(nil); x != 0 || len(rest) != 0 || e != api.ErrCorrupt {
		t.Errorf("Take(nil) = %d, %x, %d", x, rest, e)
	}
}

func TestTakeTenthByte(t *testing.T) { // P1.1: just 1 ends ten bytes
	for c := range 256 {
		s := strings.Repeat("\x85", 9) + string([]byte{byte(c)})
		if c != 1 {
			wantCorrupt(t, s)
		} else if _, rest, e := Take([]byte(s)); len(rest) != 0 || e != api.OK {
			t.Errorf("Take(%x): %x, %d", s, rest, e)
		}
	}
}

// wantCorrupt asks that each way to take refuses s, with nothing beside the error.
func wantCorrupt(t *testing.T, s string) {
	t.Helper()
	if x, rest, e := Take([]byte(s)); x != 0 || len(rest) != 0 || e != api.ErrCorrupt {
		t.Errorf("Take(%x) = %d, %x, %d", s, x, rest, e)
	}
	for _, signed := range []bool{true, false} {
		if x, rest, e := TakeInt([]byte(s), signed); x != 0 || len(rest) != 0 || e != api.ErrCorrupt {
			t.Errorf("TakeInt(%x, %t) = %d, %x, %d", s, signed, x, rest, e)
		}
	}
}

// TestTakeJustPut: of all short bytes those are taken that Put lays down, no
// others; of longer ones, those made of bytes at the edges are tried.
func TestTakeJustPut(t *testing.T) { // P1.1, P1.4
	var all []byte
	for c := range 256 {
		all = append(all, byte(c))
	}
	checkAll(t, all, nil, 2)
	checkAll(t, []byte{0, 1, 2, 0x7f, 0x80, 0x81, 0xff}, nil, 5)
	checkAll(t, []byte{0, 1, 2, 0x7f, 0x80, 0x81, 0xff}, bytes.Repeat([]byte{0x80}, 8), 4)
}

// checkAll tries front with up to n of the letters behind it.
func checkAll(t *testing.T, letters, front []byte, n int) {
	t.Helper()
	checkTake(t, front)
	if n == 0 {
		return
	}
	for _, c := range letters {
		checkAll(t, letters, append(front[:len(front):len(front)], c), n-1)
	}
}

func FuzzTake(f *testing.F) { // P1.1, P1.4
	for _, g := range forms {
		f.Add([]byte(g.want))
		f.Add([]byte(g.want + "\x80\x00"))
	}
	for _, s := range corrupt {
		f.Add([]byte(s))
	}
	f.Fuzz(func(t *testing.T, b []byte) { checkTake(t, b) })
}

// checkTake holds Take against a slower reading of P1.1: the bytes up to the
// first without its highest bit are a number's form, if Put makes just them.
func checkTake(t *testing.T, b []byte) {
	t.Helper()
	end := 0
	for i, c := range b {
		if c < 0x80 {
			end = i + 1
			break
		}
	}
	var want uint64
	ok := false
	if end > 0 {
		for i := end - 1; i >= 0; i-- {
			want = want<<7 | uint64(b[i]&0x7f)
		}
		ok = bytes.Equal(Put(nil, want), b[:end])
	}
	x, rest, e := Take(b)
	if !ok {
		if x != 0 || len(rest) != 0 || e != api.ErrCorrupt {
			t.Fatalf("Take(%x) = %d, %x, %d; want ErrCorrupt", b, x, rest, e)
		}
		return
	}
	if x != want || !bytes.Equal(rest, b[end:]) || e != api.OK {
		t.Fatalf("Take(%x) = %d, %x, %d; want %d, %x", b, x, rest, e, want, b[end:])
	}
}

// zigs: numbers with a sign, and what Zig makes of them.
var zigs = []struct {
	x int
	u uint64
}{
	{0, 0}, {-1, 1}, {1, 2}, {-2, 3}, {2, 4}, {-64, 127}, {64, 128}, {150, 300}, {-151, 301},
	{1<<31 - 1, 1<<32 - 2}, {-1 << 31, 1<<32 - 1},
	{1 << 62, 1 << 63}, {-1 << 62, 1<<63 - 1}, {-1<<62 - 1, 1<<63 + 1},
	{math.MaxInt - 1, math.MaxUint64 - 3}, {math.MinInt + 1, math.MaxUint64 - 2},
	{math.MaxInt, math.MaxUint64 - 1}, {math.MinInt, math.MaxUint64},
}

func TestZigZag(t *testing.T) { // P1.2
	for _, z := range zigs {
		if got := Zig(z.x); got != z.u {
			t.Errorf("Zig(%d) = %d, want %d", z.x, got, z.u)
		}
		if got := Zag(z.u); got != z.x {
			t.Errorf("Zag(%d) = %d, want %d", z.u, got, z.x)
		}
	}
	for x := range 1 << 12 {
		if Zig(x) != uint64(2*x) || Zag(uint64(2*x)) != x {
			t.Errorf("of %d: %d, %d", x, Zig(x), Zag(uint64(2*x)))
		}
		if y := -x - 1; Zig(y) != uint64(-2*y-1) || Zag(uint64(-2*y-1)) != y {
			t.Errorf("of %d: %d, %d", y, Zig(y), Zag(uint64(-2*y-1)))
		}
	}
}

func TestPutIntSigned(t *testing.T) { // P1.3
	for _, z := range zigs {
		b := PutInt([]byte("ab"), z.x, true)
		if want := Put([]byte("ab"), z.u); !bytes.Equal(b, want) {
			t.Errorf("PutInt(ab, %d, true) = %x, want %x", z.x, b, want)
		}
		x, rest, e := TakeInt(append(b[2:], "end"...), true)
		if x != z.x || string(rest) != "end" || e != api.OK {
			t.Errorf("TakeInt of %d: %d, %x, %d", z.x, x, rest, e)
		}
	}
}

func TestPutIntNotSigned(t *testing.T) { // P1.3
	for _, f := range forms {
		b := PutInt([]byte("ab"), int(f.x), false) // from 2^63 on: an int below 0
		if string(b) != "ab"+f.want {
			t.Errorf("PutInt(ab, %d, false) = %x, want %x", int(f.x), b, "ab"+f.want)
		}
	}
	for _, c := range []struct {
		x    int
		want string
	}{
		{-1, strings.Repeat("\xff", 9) + "\x01"},
		{-2, "\xfe" + strings.Repeat("\xff", 8) + "\x01"},
		{math.MinInt, strings.Repeat("\x80", 9) + "\x01"},
	} {
		if got := PutInt(nil, c.x, false); string(got) != c.want {
			t.Errorf("PutInt(nil, %d, false) = %x, want %x", c.x, got, c.want)
		}
	}
}

func TestTakeIntNotSigned(t *testing.T) { // P1.3: 2^63 and above is refused
	for _, f := range forms {
		x, rest, e := TakeInt([]byte(f.want+"end"), false)
		if f.x > math.MaxInt {
			if x != 0 || len(rest) != 0 || e != api.ErrCorrupt {
				t.Errorf("TakeInt of %d: %d, %x, %d", f.x, x, rest, e)
			}
		} else if x != int(f.x) || string(rest) != "end" || e != api.OK {
			t.Errorf("TakeInt of %d: %d, %x, %d", f.x, x, rest, e)
		}
	}
}

// ladder: numbers that rise, around each power of 2.
func ladder() []uint64 {
	out := []uint64{0}
	for i := range 64 {
		for _, x := range []uint64{1<<i - 1, 1 << i, 1<<i + 1} {
			if x > out[len(out)-1] {
				out = append(out, x)
			}
		}
	}
	return append(out, math.MaxUint64-1, math.MaxUint64)
}

func TestTakenAsPut(t *testing.T) { // P1.4
	var all []byte
	for _, x := range ladder() {
		all = Put(all, x)
		all = PutInt(all, int(x), true)
		all = PutInt(all, -int(x), true)
		all = PutInt(all, int(x>>1), false)
	}
	for _, x := range ladder() {
		var u uint64
		var a, b, c int
		var e1, e2, e3, e4 api.Errno
		u, all, e1 = Take(all)
		a, all, e2 = TakeInt(all, true)
		b, all, e3 = TakeInt(all, true)
		c, all, e4 = TakeInt(all, false)
		if u != x || a != int(x) || b != -int(x) || c != int(x>>1) || e1|e2|e3|e4 != api.OK {
			t.Fatalf("of %d: %d %d %d %d, %d %d %d %d", x, u, a, b, c, e1, e2, e3, e4)
		}
	}
	if len(all) != 0 {
		t.Errorf("left: %x", all)
	}
}

func TestLessNeedsNoMore(t *testing.T) { // P1.4
	last := 1
	for _, x := range ladder() {
		n := len(Put(nil, x))
		if n < last || n > 10 {
			t.Errorf("%d needs %d bytes, one that is less %d", x, n, last)
		}
		last = n
	}
	if last != 10 {
		t.Errorf("the greatest needs %d bytes", last)
	}
}

// TestHandedInIsLeft: what is handed in, and the spare room behind it, stays
// as it was, and what is answered is the caller's own.
func TestHandedInIsLeft(t *testing.T) { // R7
	room := []byte("abcdefghijklmnopqrstuvwxyz")
	put := map[string]func([]byte) []byte{
		"Put":               func(b []byte) []byte { return Put(b, math.MaxUint64) },
		"PutInt signed":     func(b []byte) []byte { return PutInt(b, -300, true) },
		"PutInt not signed": func(b []byte) []byte { return PutInt(b, 300, false) },
	}
	for name, call := range put {
		for n := range 4 {
			b := bytes.Clone(room)
			one, two := call(b[:n]), call(b[:n])
			scrub(one)
			if !bytes.Equal(b, room) {
				t.Errorf("%s: handed in is now %q", name, b)
			}
			if !bytes.Equal(two, call(bytes.Clone(room[:n]))) {
				t.Errorf("%s: two answers share memory", name)
			}
		}
	}
	take := map[string]func([]byte) []byte{
		"Take":               func(b []byte) []byte { _, r, _ := Take(b); return r },
		"TakeInt signed":     func(b []byte) []byte { _, r, _ := TakeInt(b, true); return r },
		"TakeInt not signed": func(b []byte) []byte { _, r, _ := TakeInt(b, false); return r },
	}
	for name, call := range take {
		for n := range 4 {
			b := bytes.Clone(room)
			scrub(call(b[:n+1]))
			if !bytes.Equal(b, room) {
				t.Errorf("%s: handed in is now %q", name, b)
			}
		}
	}
}

// scrub writes over a list and the spare room behind its end.
func scrub(b []byte) {
	clear(b[:cap(b)])
}
