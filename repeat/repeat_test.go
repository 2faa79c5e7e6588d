package repeat

import (
	"bytes"
	"math"
	"math/big"
	"math/rand"
	"strings"
	"testing"

	"pilaster/api"
)

// farTimes: numbers that are not how often a repeat's number may stand.
var farTimes = []int{math.MinInt, math.MinInt + 1, math.MinInt + 3, -1 << 32, -256, -8, -5, -4, -3, -2, -1, 0, 1, 2, 11, 12, 13, 18, 19, 66, 67, 74, 259, 266, 1 << 31, 1 << 32, 1<<32 + 3, 1<<32 + 10, math.MaxInt - 2, math.MaxInt - 1, math.MaxInt}

// rests: what may stand behind.
var rests = []string{"", "\x00", "\xff", "\x00\x00", "\x00\x01 and another", "\x40\x41 and more"}

// edges are the numbers about each power of two, of both signs, and the least
// and the greatest one.
func edges() []int {
	l := []int{math.MinInt, math.MinInt + 1, math.MaxInt - 1, math.MaxInt, 300, 10000, 65280, -300, -10000}
	for i := range 63 {
		for d := -2; d <= 2; d++ {
			l = append(l, 1<<i+d, -1<<i+d)
		}
	}
	return l
}

// plain is how a number stands: itself, or 2 x, or -2 x - 1.
func plain(x int, signed bool) *big.Int {
	u := big.NewInt(int64(x))
	if !signed {
		return u
	}
	u.Mul(u, big.NewInt(2))
	if x < 0 {
		u.Neg(u)
		u.Sub(u, big.NewInt(1))
	}
	return u
}

// slowPut is the chapter's words, a byte of the number at a time, the lowest
// first; whether they make a repeat of x.
func slowPut(x, times int, signed bool) ([]byte, bool) {
	if times < 3 || times > 10 || !signed && x < 0 {
		return nil, false
	}
	u, number := plain(x, signed), []byte{}
	for {
		low := new(big.Int)
		u.DivMod(u, big.NewInt(256), low)
		number = append([]byte{byte(low.Uint64())}, number...)
		if u.Sign() == 0 {
			break
		}
	}
	return append([]byte{byte(8*(len(number)-1) + (times - 3))}, number...), true
}

// slowTake asks of each length and each times whether b begins with what Put
// lays down.
func slowTake(b []byte, signed bool) (x, times int, rest []byte, ok bool) {
	for n := 2; n <= min(len(b), 9); n++ {
		x, ok := standing(b[1:n], signed)
		if !ok {
			continue
		}
		for times := 3; times <= 10; times++ {
			if want, ok := slowPut(x, times, signed); ok && bytes.Equal(b[:n], want) {
				return x, times, b[n:], true
			}
		}
	}
	return 0, 0, nil, false
}

// standing is the number that bytes say, and whether it is an int.
func standing(number []byte, signed bool) (int, bool) {
	u := new(big.Int)
	for _, c := range number {
		u.Mul(u, big.NewInt(256))
		u.Add(u, big.NewInt(int64(c)))
	}
	if signed {
		odd := u.Bit(0) == 1
		if u.Div(u, big.NewInt(2)); odd {
			u.Add(u, big.NewInt(1))
			u.Neg(u)
		}
	}
	return int(u.Int64()), u.IsInt64()
}

// wantTake asks that b, with whatever bytes behind it, is taken as x, so often.
func wantTake(t *testing.T, b []byte, signed bool, x, times int) {
	t.Helper()
	for _, rest := range rests {
		y, n, behind, e := Take(append(bytes.Clone(b), rest...), signed)
		if e != api.OK || y != x || n != times || string(behind) != rest {
			t.Fatalf("Take(%x, %v) with %x behind = %d, %d, %x, %d; want %d, %d", b, signed, rest, y, n, behind, e, x, times)
		}
	}
}

// wantPut asks that x is laid down as want, and taken back from it, and from
// no beginning of it.
func wantPut(t *testing.T, x, times int, signed bool, want []byte) {
	t.Helper()
	if got, e := Put(x, times, signed); e != api.OK || !bytes.Equal(got, want) {
		t.Fatalf("Put(%d, %d, %v) = %x, %d; want %x", x, times, signed, got, e, want)
	}
	wantTake(t, want, signed, x, times)
	for n := range want {
		wantNoTake(t, want[:n], signed)
	}
}

// wantNoPut asks that Put refuses x, with nothing beside the error.
func wantNoPut(t *testing.T, x, times int, signed bool) {
	t.Helper()
	if got, e := Put(x, times, signed); len(got) != 0 || e != api.ErrArg {
		t.Fatalf("Put(%d, %d, %v) = %x, %d; want ErrArg", x, times, signed, got, e)
	}
}

// checkPut holds Put against the slower reckoning, whatever is handed in.
func checkPut(t *testing.T, x, times int, signed bool) {
	t.Helper()
	if want, ok := slowPut(x, times, signed); ok {
		wantPut(t, x, times, signed, want)
	} else {
		wantNoPut(t, x, times, signed)
	}
}

// wantNoTake asks that Take refuses b, with nothing beside the error.
func wantNoTake(t *testing.T, b []byte, signed bool) {
	t.Helper()
	if x, times, rest, e := Take(b, signed); x != 0 || times != 0 || len(rest) != 0 || e != api.ErrCorrupt {
		t.Fatalf("Take(%x, %v) = %d, %d, %x, %d; want ErrCorrupt", b, signed, x, times, rest, e)
	}
}

// wantNone asks that Take refuses b, signed or not, whatever stands behind.
func wantNone(t *testing.T, b []byte) {
	t.Helper()
	for _, rest := range rests {
		for _, signed := range []bool{false, true} {
			wantNoTake(t, append(bytes.Clone(b), rest...), signed)
		}
	}
}

// checkTake holds Take against the slower reckoning, whatever b is.
func checkTake(t *testing.T, b []byte) {
	t.Helper()
	for _, signed := range []bool{false, true} {
		x, times, behind, ok := slowTake(b, signed)
		if !ok {
			wantNoTake(t, b, signed)
			continue
		}
		if y, n, rest, e := Take(b, signed); e != api.OK || y != x || n != times || !bytes.Equal(rest, behind) {
			t.Fatalf("Take(%x, %v) = %d, %d, %x, %d; want %d, %d, %x", b, signed, y, n, rest, e, x, times, behind)
		}
	}
}

func TestPutAndTake(t *testing.T) { // P7.1: the chapter's, and others by hand
	for _, c := range []struct {
		x, times int
		signed   bool
		want     string
	}{
		{10000, 5, false, "\x0a\x27\x10"}, // the chapter's
		{-1, 3, true, "\x00\x01"},         // the chapter's
		{0, 3, false, "\x00\x00"},
		{0, 10, false, "\x07\x00"},
		{0, 3, true, "\x00\x00"},
		{0, 10, true, "\x07\x00"},
		{1, 3, true, "\x00\x02"},
		{1, 4, false, "\x01\x01"},
		{255, 3, false, "\x00\xff"},
		{255, 3, true, "\x08\x01\xfe"},
		{256, 3, false, "\x08\x01\x00"},
		{127, 9, true, "\x06\xfe"},
		{-128, 9, true, "\x06\xff"},
		{128, 9, true, "\x0e\x01\x00"},
		{-129, 9, true, "\x0e\x01\x01"},
		{65535, 10, false, "\x0f\xff\xff"},
		{65536, 10, false, "\x17\x01\x00\x00"},
		{-32768, 7, true, "\x0c\xff\xff"},
		{-32769, 7, true, "\x14\x01\x00\x01"},
		{0x010203, 8, false, "\x15\x01\x02\x03"},
		{0xffffff, 8, false, "\x15\xff\xff\xff"},
		{0x01020304, 6, false, "\x1b\x01\x02\x03\x04"},
		{0x0102030405, 6, false, "\x23\x01\x02\x03\x04\x05"},
		{0x010203040506, 6, false, "\x2b\x01\x02\x03\x04\x05\x06"},
		{0x01020304050607, 6, false, "\x33\x01\x02\x03\x04\x05\x06\x07"},
		{0x0102030405060708, 6, false, "\x3b\x01\x02\x03\x04\x05\x06\x07\x08"},
		{math.MaxInt, 3, false, "\x38\x7f\xff\xff\xff\xff\xff\xff\xff"},
		{math.MaxInt, 10, false, "\x3f\x7f\xff\xff\xff\xff\xff\xff\xff"},
		{math.MaxInt, 3, true, "\x38\xff\xff\xff\xff\xff\xff\xff\xfe"},
		{math.MinInt, 3, true, "\x38\xff\xff\xff\xff\xff\xff\xff\xff"},
		{math.MinInt, 10, true, "\x3f\xff\xff\xff\xff\xff\xff\xff\xff"},
	} {
		wantPut(t, c.x, c.times, c.signed, []byte(c.want))
		checkPut(t, c.x, c.times, c.signed)
	}
	wantNoPut(t, -1, 3, false) // the chapter's
	wantNoPut(t, 1, 2, true)   // the chapter's
}

func TestEdges(t *testing.T) { // P7.1, P7.2: the first and the last number of each number of bytes
	for n := 1; n <= 7; n++ {
		last := 1<<(8*n) - 1
		for times := 3; times <= 10; times++ {
			head := byte(8*(n-1) + times - 3)
			ones := bytes.Repeat([]byte{0xff}, n)
			one := append([]byte{1}, make([]byte, n)...) // has a byte more
			wantPut(t, last, times, false, append([]byte{head}, ones...))
			wantPut(t, last+1, times, false, append([]byte{head + 8}, one...))
			half := 1 << (8*n - 1)
			wantPut(t, -half, times, true, append([]byte{head}, ones...))
			wantPut(t, half, times, true, append([]byte{head + 8}, one...))
			ones[n-1], one[n] = 0xfe, 1
			wantPut(t, half-1, times, true, append([]byte{head}, ones...))
			wantPut(t, -half-1, times, true, append([]byte{head + 8}, one...))
		}
	}
}

func TestEachTimes(t *testing.T) { // P7.1, P7.2: 3 to 10, of numbers about each power of two
	for _, x := range edges() {
		for times := -3; times <= 20; times++ {
			checkPut(t, x, times, false)
			checkPut(t, x, times, true)
		}
	}
}

func TestShortNumbers(t *testing.T) { // P7.1, P7.2: all of one byte and of two
	for x := -66000; x <= 66000; x++ {
		times := 3 + x&7
		checkPut(t, x, times, false)
		checkPut(t, x, times, true)
	}
}

func TestPutOfWrongTimes(t *testing.T) { // P7.1: and of a number that may not be, too: two things wrong at once
	for _, times := range farTimes {
		for _, x := range []int{0, 1, -1, 255, 256, -256, 10000, math.MinInt, math.MaxInt} {
			wantNoPut(t, x, times, true)
			wantNoPut(t, x, times, false)
		}
	}
}

func TestPutOfWrongNumbers(t *testing.T) { // P7.1: below 0 and not signed
	for times := 3; times <= 10; times++ {
		for _, x := range edges() {
			if x < 0 {
				wantNoPut(t, x, times, false)
			}
		}
	}
}

func TestTakeOfShortBytes(t *testing.T) { // P7.1: none, one, two, and all first bytes
	wantNoTake(t, nil, false)
	wantNoTake(t, nil, true)
	wantNoTake(t, []byte{}, false)
	wantNoTake(t, []byte("\x00\x01")[:0], true)
	for c := range 256 {
		wantNoTake(t, []byte{byte(c)}, false)
		wantNoTake(t, []byte{byte(c)}, true)
		for d := range 256 {
			checkTake(t, []byte{byte(c), byte(d)})
			checkTake(t, []byte{byte(c), byte(d), 0})
		}
		for _, d := range []byte{0, 1, 2, 0x7f, 0x80, 0xfe, 0xff} {
			checkTake(t, []byte{byte(c), d, 1, 2, 3, 4, 5, 6, 7, 8})
			checkTake(t, []byte{byte(c), 0, d, 1, 2, 3, 4, 5, 6, 7, 8})
		}
	}
}

func TestTakeOfOtherRuns(t *testing.T) { // P7.1: the two highest bits of the first byte are not 00
	for c := range 64 {
		for kind := 1; kind <= 3; kind++ {
			number := append(bytes.Repeat([]byte{0x11}, c/8+1), "behind"...)
			wantNone(t, append([]byte{byte(kind<<6 | c)}, number...))
			want, _ := slowPut(int(number[0]), 3+c%8, false)
			if kind == 1 && c < 8 { // the same bytes are a repeat where the bits are
				wantTake(t, want, false, 0x11, 3+c%8)
			}
		}
	}
	wantNone(t, []byte("\x40\x01"))
	wantNone(t, []byte("\x80\x01"))
	wantNone(t, []byte("\xc0\x01"))
	wantNone(t, []byte("\x40\x01\x02\x03\x04\x05\x06\x07\x08\x09")) // what a ninth byte would be
}

func TestTakeCut(t *testing.T) { // P7.1: at each place; the room behind the end is not the list's
	for n := 1; n <= 8; n++ {
		for times := 3; times <= 10; times++ {
			b := append([]byte{byte(8*(n-1) + times - 3)}, "\x12\x34\x56\x78\x9a\xbc\xde\xf0"[:n]...)
			for cut := range b {
				wantNoTake(t, b[:cut], false)
				wantNoTake(t, b[:cut], true)
			}
			checkTake(t, b)
			if _, _, _, e := Take(b, false); e != api.OK {
				t.Errorf("Take(%x, false): %d", b, e)
			}
		}
	}
}

func TestTakeOfLongNumbers(t *testing.T) { // P7.1: in more bytes than they need, for each number of bytes
	wantTake(t, []byte("\x00\x00"), false, 0, 3) // a nought in one byte is none of them
	wantTake(t, []byte("\x07\x00"), true, 0, 10)
	for n := 2; n <= 8; n++ {
		for times := 3; times <= 10; times++ {
			for noughts := 1; noughts <= n; noughts++ {
				for _, c := range []byte{1, 0x7f, 0x80, 0xff} {
					number := append(make([]byte, noughts), bytes.Repeat([]byte{c}, n-noughts)...)
					wantNone(t, append([]byte{byte(8*(n-1) + times - 3)}, number...))
				}
			}
		}
		// A nought is one too many at the front alone.
		number := append([]byte{1}, make([]byte, n-1)...)
		wantTake(t, append([]byte{byte(8 * (n - 1))}, number...), false, 1<<(8*(n-1)), 3)
		wantTake(t, append([]byte{byte(8 * (n - 1))}, number...), true, 1<<(8*(n-1)-1), 3)
	}
	wantNone(t, []byte("\x08\x00\x01"))
	wantNone(t, []byte("\x08\x00\x00"))
}

func TestTakeOfGreatNumbers(t *testing.T) { // P7.1: 2^63 and above: of numbers that are signed alone
	for _, c := range []struct {
		number string
		x      int
	}{
		{"\x80\x00\x00\x00\x00\x00\x00\x00", 1 << 62},
		{"\x80\x00\x00\x00\x00\x00\x00\x01", -1<<62 - 1},
		{"\x80\x00\x00\x00\x00\x00\x00\x02", 1<<62 + 1},
		{"\xc0\x00\x00\x00\x00\x00\x00\x00", 3 << 61},
		{"\xff\xff\xff\xff\xff\xff\xff\xfd", math.MinInt + 1},
		{"\xff\xff\xff\xff\xff\xff\xff\xfe", math.MaxInt},
		{"\xff\xff\xff\xff\xff\xff\xff\xff", math.MinInt},
	} {
		for times := 3; times <= 10; times++ {
			b := append([]byte{byte(0x38 + times - 3)}, c.number...)
			wantTake(t, b, true, c.x, times)
			for _, rest := range rests {
				wantNoTake(t, append(bytes.Clone(b), rest...), false)
			}
		}
	}
	wantTake(t, []byte("\x38\x7f\xff\xff\xff\xff\xff\xff\xff"), false, math.MaxInt, 3)
	wantTake(t, []byte("\x38\x7f\xff\xff\xff\xff\xff\xff\xff"), true, -1<<62, 3)
	wantTake(t, []byte("\x30\xff\xff\xff\xff\xff\xff\xff"), false, 1<<56-1, 3) // its highest bit is no 2^63
}

func TestTwoWrong(t *testing.T) { // P7.1, R3
	wantNoPut(t, -1, 2, false)
	wantNoPut(t, math.MinInt, 11, false)
	wantNoPut(t, -1, math.MinInt, false)
	for _, b := range []string{"\x48\x00\x01", "\x40", "\x88\x00", "\xf8\xff", "\x10\x00\x00", "\x38\xff\xff"} { // wrong, cut, or longer than need be
		wantNoTake(t, []byte(b), false)
		wantNoTake(t, []byte(b), true)
	}
}

// someNumber is one of any number of bits, of both signs.
func someNumber(from *rand.Rand) int {
	x := int(from.Uint64() >> from.Intn(64))
	if from.Intn(2) == 0 {
		return ^x
	}
	return x
}

func TestLongNumbers(t *testing.T) { // P7.1, P7.2
	from := rand.New(rand.NewSource(1))
	for range 40000 {
		x, times := someNumber(from), from.Intn(12)
		checkPut(t, x, times, false)
		checkPut(t, x, times, true)
		b, ok := slowPut(x, times, true)
		if !ok {
			continue
		}
		b[from.Intn(len(b))] ^= byte(1 << from.Intn(8))
		b = append(b, "behind it all"...)
		checkTake(t, b)
		checkTake(t, b[:from.Intn(len(b))])
	}
}

func TestOneBehindAnother(t *testing.T) { // P7.2: what stands behind is taken next
	from := rand.New(rand.NewSource(2))
	type put struct {
		x, times int
		signed   bool
	}
	var all []put
	var together []byte
	for range 300 {
		p := put{someNumber(from), 3 + from.Intn(8), true}
		if p.x >= 0 {
			p.signed = from.Intn(2) == 0
		}
		b, e := Put(p.x, p.times, p.signed)
		if e != api.OK {
			t.Fatalf("Put(%d, %d, %v): %d", p.x, p.times, p.signed, e)
		}
		all, together = append(all, p), append(together, b...)
	}
	for _, p := range all {
		x, times, rest, e := Take(together, p.signed)
		if x != p.x || times != p.times || e != api.OK {
			t.Fatalf("Take = %d, %d, %d; want %d, %d", x, times, e, p.x, p.times)
		}
		together = rest
	}
	if len(together) != 0 {
		t.Errorf("left: %x", together)
	}
}

// TestAnswersAreOwn: what is answered is the caller's own, and shares nothing
// with another answer.
func TestAnswersAreOwn(t *testing.T) { // R7
	for _, x := range edges() {
		first, _ := Put(x, 7, true)
		second, _ := Put(x, 7, true)
		clear(first[:cap(first)])
		if want, _ := slowPut(x, 7, true); !bytes.Equal(second, want) {
			t.Errorf("Put(%d, 7, true): an answer went with another: %x", x, second)
		}
	}
}

// TestBytesAreLeft: bytes that are handed in, and the room behind them, stay
// as they were, and what is answered is the caller's own.
func TestBytesAreLeft(t *testing.T) { // R7
	const text = "\x0a\x27\x10rest and room"
	for n := range len(text) + 1 { // some are refused
		for _, signed := range []bool{false, true} {
			b := []byte(text)
			_, _, rest, _ := Take(b[:n], signed)
			_, _, behind, _ := Take(b[:n], signed)
			want := strings.Clone(string(rest))
			clear(rest[:cap(rest)])
			if string(b) != text {
				t.Errorf("Take of %d bytes: handed in is now %q", n, b)
			}
			clear(b)
			if string(behind) != want {
				t.Errorf("Take of %d bytes: an answer went with another, or with what was handed in: %x", n, behind)
			}
		}
	}
}

// TestRoomIsNotRead: what stands behind the end is not the list's.
func TestRoomIsNotRead(t *testing.T) { // R6
	b := []byte("\x38\x7f\xff\xff\xff\xff\xff\xff\xff\x00\x00")
	for n := range len(b) + 1 {
		checkTake(t, b[:n])
		checkTake(t, b[:n:n])
	}
}

func FuzzPut(f *testing.F) { // P7.1, P7.2
	f.Add(10000, 5, false)
	f.Add(-1, 3, true)
	f.Add(-1, 3, false)
	f.Add(1, 2, true)
	f.Add(math.MinInt, 10, true)
	f.Fuzz(func(t *testing.T, x, times int, signed bool) {
		checkPut(t, x, times, signed)
		checkPut(t, x, 3+times&7, signed)
	})
}

func FuzzTake(f *testing.F) { // P7.1
	f.Add([]byte(nil))
	f.Add([]byte("\x0a\x27\x10"))
	f.Add([]byte("\x08\x00\x01"))
	f.Add([]byte("\x38\xff\xff\xff\xff\xff\xff\xff\xff\x01"))
	f.Add([]byte("\x40\x01"))
	f.Fuzz(func(t *testing.T, b []byte) {
		checkTake(t, b)
		if len(b) > 0 { // few first bytes are a repeat's
			b = bytes.Clone(b)
			b[0] &= 0x3f
			checkTake(t, b)
		}
	})
}
