package boolrle

import (
	"bytes"
	"math"
	"math/rand"
	"slices"
	"strconv"
	"strings"
	"testing"

	"pilaster/api"
	"pilaster/byterle"
)

// farMany: numbers that are not how many truths there may be.
var farMany = []int{math.MinInt, math.MinInt + 1, -1 << 32, -4097, -4096, -16, -9, -8, -7, -2, -1, 4097, 4098, 4103, 4104, 4105, 8192, 1 << 16, 1 << 31, 1 << 32, 1<<32 + 3, math.MaxInt - 7, math.MaxInt - 1, math.MaxInt}

// rests: what may stand behind.
var rests = []string{"", "\x00", "\xff", "\x00\x00", "\x80 and more", "\x07\x07\x07"}

// row is truths as they are written: t is true, all else false.
func row(text string) []bool {
	l := make([]bool, len(text))
	for i := range l {
		l[i] = text[i] == 't'
	}
	return l
}

// all is so many truths that are all the same.
func all(n int, t bool) []bool { return slices.Repeat([]bool{t}, n) }

// turns is so many truths, turn about.
func turns(n int, t bool) []bool {
	l := make([]bool, n)
	for i := range l {
		l[i] = t
		t = !t
	}
	return l
}

// show tells truths by how many they are, and the first of them.
func show(l []bool) string {
	var text strings.Builder
	text.WriteString(strconv.Itoa(len(l)) + " truths: ")
	for _, t := range l[:min(len(l), 40)] {
		text.WriteByte("ft"[digit(t)-'0'])
	}
	return text.String()
}

// digit is a truth as the digit of a number.
func digit(t bool) byte {
	if t {
		return '1'
	}
	return '0'
}

// slowBytes are the bytes of truths, the chapter's words a truth at a time: as
// digits, with noughts behind the last one till its byte is full.
func slowBytes(l []bool) []byte {
	var digits []byte
	for _, t := range l {
		digits = append(digits, digit(t))
	}
	for len(digits)%8 != 0 {
		digits = append(digits, '0')
	}
	var out []byte
	for eight := range slices.Chunk(digits, 8) {
		x, err := strconv.ParseUint(string(eight), 2, 8)
		if err != nil {
			panic(err)
		}
		out = append(out, byte(x))
	}
	return out
}

// laid is bytes laid down by the layer below.
func laid(b []byte) []byte {
	out, e := byterle.Put(b)
	if e != api.OK {
		panic("too many bytes")
	}
	return out
}

// slowPut is the chapter's words.
func slowPut(l []bool) []byte { return laid(slowBytes(l)) }

// slowTake is the chapter's words: so many truths, the bytes behind, and
// whether that is what b begins with.
func slowTake(b []byte, many int) (l []bool, rest []byte, ok bool) {
	need := 0
	for need*8 < many {
		need++
	}
	packed, rest, e := byterle.Take(b, need)
	if e != api.OK {
		return nil, nil, false
	}
	for _, c := range packed {
		digits := strconv.FormatUint(uint64(c), 2)
		digits = strings.Repeat("0", 8-len(digits)) + digits
		for i := range digits {
			if len(l) < many {
				l = append(l, digits[i] == '1')
			} else if digits[i] == '1' {
				return nil, nil, false
			}
		}
	}
	return l, rest, true
}

// slowCount is how many are true: those that are left when the others are gone.
func slowCount(l []bool) int {
	return len(slices.DeleteFunc(slices.Clone(l), func(t bool) bool { return !t }))
}

// wantTake asks that b, with whatever bytes behind it, is taken as want.
func wantTake(t *testing.T, b []byte, want []bool) {
	t.Helper()
	for _, rest := range rests {
		got, behind, e := Take(append(bytes.Clone(b), rest...), len(want))
		if e != api.OK || !slices.Equal(got, want) || string(behind) != rest {
			t.Fatalf("Take(%x, %d) with %x behind = %s, %x, %d; want %s", b, len(want), rest, show(got), behind, e, show(want))
		}
	}
}

// wantPut asks that l is laid down as want, and taken back from it.
func wantPut(t *testing.T, l []bool, want []byte) {
	t.Helper()
	if got, e := Put(l); e != api.OK || !bytes.Equal(got, want) {
		t.Fatalf("Put(%s) = %x, %d; want %x", show(l), got, e, want)
	}
	wantTake(t, want, l)
}

// wantBoth holds Put and Take of l against the slower reckoning.
func wantBoth(t *testing.T, l []bool) {
	t.Helper()
	wantPut(t, l, slowPut(l))
}

// wantNoPut asks that Put refuses l, with nothing beside the error.
func wantNoPut(t *testing.T, l []bool) {
	t.Helper()
	if got, e := Put(l); len(got) != 0 || e != api.ErrBig {
		t.Errorf("Put(%s) = %x, %d; want ErrBig", show(l), got, e)
	}
}

// wantNoTake asks that Take refuses b by an error, with nothing beside it.
func wantNoTake(t *testing.T, b []byte, many int, want api.Errno) {
	t.Helper()
	if got, rest, e := Take(b, many); len(got) != 0 || len(rest) != 0 || e != want {
		t.Fatalf("Take(%x, %d) = %s, %x, %d; want %d", b, many, show(got), rest, e, want)
	}
}

// checkTake holds Take against the slower reckoning, whatever b and many are.
func checkTake(t *testing.T, b []byte, many int) {
	t.Helper()
	if many < 0 || many > 4096 {
		wantNoTake(t, b, many, api.ErrArg)
		return
	}
	want, behind, ok := slowTake(b, many)
	if !ok {
		wantNoTake(t, b, many, api.ErrCorrupt)
		return
	}
	if got, rest, e := Take(b, many); e != api.OK || !slices.Equal(got, want) || !bytes.Equal(rest, behind) {
		t.Fatalf("Take(%x, %d) = %s, %x, %d; want %s, %x", b, many, show(got), rest, e, show(want), behind)
	}
}

// eachRow goes through all rows of up to so many truths.
func eachRow(most int, see func([]bool)) {
	for n := range most + 1 {
		l := make([]bool, n)
		for x := range 1 << n {
			for i := range l {
				l[i] = x>>i&1 == 1
			}
			see(l)
		}
	}
}

func TestPutAndTake(t *testing.T) { // P6.1: the chapter's, and others by hand
	for text, want := range map[string]string{
		"tft":                              "\xff\xa0", // the chapter's
		"":                                 "",
		"t":                                "\xff\x80",
		"f":                                "\xff\x00",
		"ft":                               "\xff\x40",
		"tf":                               "\xff\x80",
		"ffffffft":                         "\xff\x01",
		"tfffffff":                         "\xff\x80",
		"ttttttt":                          "\xff\xfe",
		"tttttttt":                         "\xff\xff",
		"ttttttttt":                        "\xfe\xff\x80",
		"tfffffffft":                       "\xfe\x80\x40",
		"ttffttfftftftftf":                 "\xfe\xcc\xaa",
		"ffffffffffffffff":                 "\xfe\x00\x00",
		"fffffffffffffffft":                "\xfd\x00\x00\x80",
		"ttttttttttttttttttttttt":          "\xfd\xff\xff\xfe",
		"tttttttttttttttttttttttt":         "\x00\xff",
		"ffffffffffffffffffffffff":         "\x00\x00",
		"fffffffffffffffffffff":            "\x00\x00", // the noughts behind the last one are the run's
		"tftftftftftftftftftftftf":         "\x00\xaa",
		"tftftftftftftftftftftft":          "\x00\xaa",
		"ttttttttttttttttttttttttt":        "\x00\xff\xff\x80",
		"fffffffffffffffffffffffffft":      "\x00\x00\xff\x20",
		"fttfttttffffffffffffffffffffffff": "\xff\x6f\x00\x00",
	} {
		wantPut(t, row(text), []byte(want))
	}
	wantNoTake(t, []byte{0xff, 0xa1}, 3, api.ErrCorrupt) // the chapter's
}

func TestNoTruths(t *testing.T) { // P6.1: nothing is laid down, and no byte is asked
	for _, l := range [][]bool{nil, {}, all(3, true)[:0]} {
		wantPut(t, l, nil)
	}
	for _, b := range []string{"", "\x00", "\x7f", "\x80", "\xff", "\x00a", "\xffa", "\xfea", "\xff\xa0", "\x80abc", strings.Repeat("\xff", 5000)} {
		if got, rest, e := Take([]byte(b), 0); len(got) != 0 || string(rest) != b || e != api.OK {
			t.Errorf("Take(%x, 0) = %s, %x, %d", b, show(got), rest, e)
		}
	}
	if got, rest, e := Take(nil, 0); len(got) != 0 || len(rest) != 0 || e != api.OK {
		t.Errorf("Take(nil, 0) = %s, %x, %d", show(got), rest, e)
	}
	if n := Count(nil); n != 0 {
		t.Errorf("Count(nil) = %d", n)
	}
	if n := Count(all(3, true)[:0]); n != 0 {
		t.Errorf("Count of no truths with room behind = %d", n)
	}
}

func TestShortRows(t *testing.T) { // P6.1, P6.2: all of them
	eachRow(13, func(l []bool) {
		wantBoth(t, l)
		if n := Count(l); n != slowCount(l) {
			t.Fatalf("Count(%s) = %d; want %d", show(l), n, slowCount(l))
		}
	})
}

func TestRowsOfOneKind(t *testing.T) { // P6.1, P6.2: about a byte's end, and a run's of 3 and of 130 bytes
	for _, n := range []int{1, 2, 6, 7, 8, 9, 10, 14, 15, 16, 17, 18, 23, 24, 25, 31, 32, 33, 1024, 1031, 1032, 1033, 1039, 1040, 1041, 1047, 1048, 1049, 4088, 4089} {
		for _, l := range [][]bool{all(n, true), all(n, false), turns(n, true), turns(n, false)} {
			wantBoth(t, l)
			for i := range l[:min(n, 40)] { // and one of them is the other
				l[i] = !l[i]
				wantBoth(t, l)
				l[i] = !l[i]
			}
			l[n-1] = !l[n-1]
			wantBoth(t, l)
		}
	}
	// 1032 truths are 129 bytes.
	wantPut(t, all(1032, true), []byte("\x7e\xff"))
	wantPut(t, all(1032, false), []byte("\x7e\x00"))
	wantPut(t, turns(1032, true), []byte("\x7e\xaa"))
	wantPut(t, turns(1032, false), []byte("\x7e\x55"))
	wantPut(t, all(1033, true), []byte("\x7e\xff\xff\x80"))
	wantPut(t, all(1040, true), []byte("\x7f\xff"))
	wantPut(t, all(1048, true), []byte("\x7f\xff\xff\xff"))
}

func TestPutOfMost(t *testing.T) { // P6.1: 4096 truths, and no more
	// 512 bytes: runs of 130, 130, 130 and 122.
	wantPut(t, all(4096, true), []byte("\x7f\xff\x7f\xff\x7f\xff\x77\xff"))
	wantPut(t, all(4096, false), []byte("\x7f\x00\x7f\x00\x7f\x00\x77\x00"))
	wantPut(t, turns(4096, true), []byte("\x7f\xaa\x7f\xaa\x7f\xaa\x77\xaa"))
	wantPut(t, all(4095, true), []byte("\x7f\xff\x7f\xff\x7f\xff\x76\xff\xff\xfe"))
	wantPut(t, all(4095, false), []byte("\x7f\x00\x7f\x00\x7f\x00\x77\x00"))
	wantPut(t, turns(4095, true), []byte("\x7f\xaa\x7f\xaa\x7f\xaa\x77\xaa"))
	from := rand.New(rand.NewSource(3))
	for _, n := range []int{4095, 4096} {
		for _, l := range [][]bool{all(n, true), all(n, false), turns(n, true), turns(n, false), someTruths(from, n), someTruths(from, n)} {
			wantBoth(t, l)
		}
	}
	for _, n := range []int{4097, 4098, 4104, 8192, 1 << 16} {
		for _, l := range [][]bool{all(n, true), all(n, false), turns(n, true)} {
			wantNoPut(t, l)
		}
	}
}

func TestTakeOfEachMany(t *testing.T) { // P6.1: 0 to 4096, of bytes that are enough, and no more than its own parts
	long := bytes.Repeat([]byte("\xff\xa5"), 520) // each byte a part of its own
	for many := -20; many <= 4120; many++ {
		checkTake(t, long, many)
	}
	noughts := bytes.Repeat([]byte("\xff\x00"), 512)
	for many := range 4097 {
		got, rest, e := Take(noughts, many)
		if e != api.OK || len(got) != many || Count(got) != 0 || len(rest) != len(noughts)-(many+7)/8*2 {
			t.Fatalf("Take of noughts, %d: %s, %d bytes behind, %d", many, show(got), len(rest), e)
		}
	}
	wantTake(t, []byte("\xff\x80"), []bool{true})
	wantTake(t, []byte("\xff\x00"), []bool{false})
	wantNoTake(t, nil, 1, api.ErrCorrupt)
	wantNoTake(t, nil, 4096, api.ErrCorrupt)
	wantTake(t, []byte("\x7f\xff\x7f\xff\x7f\xff\x77\xff"), all(4096, true))
	wantTake(t, bytes.Repeat([]byte("\xff\xff"), 512), all(4096, true))
	wantNoTake(t, bytes.Repeat([]byte("\xff\xff"), 511), 4096, api.ErrCorrupt)
}

func TestTakeOfWrongMany(t *testing.T) { // P6.1, R3: told ahead of what is wrong with the bytes
	for _, many := range farMany {
		for _, b := range []string{"", "\x00", "\xff", "\x00\xff", "\x7f", "\x80abc", "\xff\xa0", "\xff\xa1", "\xff\xff"} {
			wantNoTake(t, []byte(b), many, api.ErrArg)
		}
		wantNoTake(t, bytes.Repeat([]byte("\x7f\xff"), 40), many, api.ErrArg)
	}
	wantNoTake(t, bytes.Repeat([]byte("\xff\x00"), 513), 4097, api.ErrArg) // it is just what stands there
	wantNoTake(t, bytes.Repeat([]byte("\xff\xff"), 513), 4097, api.ErrArg)
	wantNoTake(t, bytes.Repeat([]byte("\xff\xff"), 513), 4103, api.ErrArg)
}

// spare tells how many bits stand behind the last one of so many truths.
func spare(many int) int {
	n := 0
	for (many+n)%8 != 0 {
		n++
	}
	return n
}

func TestBitsBehind(t *testing.T) { // P6.1: each of them, and all sets of them, behind 1 to 7 truths past a full byte
	for _, full := range []int{0, 1, 2, 3, 4, 127, 128, 129, 130, 131, 510, 511} {
		for past := 1; past <= 7; past++ {
			many := full*8 + past
			for _, l := range [][]bool{all(many, true), all(many, false), turns(many, true), turns(many, false)} {
				b := slowBytes(l)
				for set := 1; set < 1<<spare(many); set++ {
					b[full] |= byte(set)
					wantNoTake(t, laid(b), many, api.ErrCorrupt)
					wantNoTake(t, append(laid(b), "\xff\x00"...), many, api.ErrCorrupt)
					// The same bytes are truths where so many are asked for.
					if got, rest, e := Take(laid(b), full*8+8); e != api.OK || len(rest) != 0 || !bytes.Equal(slowBytes(got), b) {
						t.Fatalf("Take(%x, %d) = %s, %x, %d", laid(b), full*8+8, show(got), rest, e)
					}
					b[full] &^= byte(set)
				}
				wantTake(t, laid(b), l)
			}
		}
	}
}

func TestNoBitsBehind(t *testing.T) { // P6.1: truths that fill their bytes: no bit is refused, of the last byte or behind it
	for _, full := range []int{1, 2, 3, 4, 128, 129, 130, 131, 511, 512} {
		for c := range 256 {
			b := bytes.Repeat([]byte{0x5a}, full)
			b[full-1] = byte(c)
			want, _, ok := slowTake(laid(b), full*8)
			if !ok || len(want) != full*8 {
				t.Fatalf("the slower reckoning refuses %x", laid(b))
			}
			wantPut(t, want, laid(b))
		}
	}
}

func TestTakeOfEachByte(t *testing.T) { // P6.1: one byte, and two, with 0 to 24 truths asked for
	for c := range 256 {
		for many := range 25 {
			checkTake(t, []byte{0xff, byte(c)}, many)
			checkTake(t, []byte{0xff, byte(c), 0xff, 0x80, 1}, many)
			for _, other := range []byte{0, 1, 0x7f, 0x80, 0xa5, 0xff, byte(c)} {
				checkTake(t, []byte{0xfe, other, byte(c)}, many)
				checkTake(t, []byte{0xfe, byte(c), other}, many)
				checkTake(t, []byte{0xff, other, 0xff, byte(c)}, many)
			}
			checkTake(t, []byte{0, byte(c)}, many)
		}
	}
}

func TestTakeCut(t *testing.T) { // P6.1: at each place; the room behind the end is not the list's
	from := rand.New(rand.NewSource(4))
	for _, l := range [][]bool{row("t"), row("tft"), row("tfffffffft"), all(24, true), all(25, true), turns(1032, true), turns(1041, true), someTruths(from, 1024), someTruths(from, 1025), someTruths(from, 4095), all(4096, true)} {
		b := slowPut(l)
		for n := range b {
			wantNoTake(t, b[:n], len(l), api.ErrCorrupt)
		}
		wantTake(t, b, l)
	}
	for c := range 256 {
		wantNoTake(t, []byte{byte(c)}, 1, api.ErrCorrupt)
		wantNoTake(t, []byte{byte(c)}, 8, api.ErrCorrupt)
		wantNoTake(t, []byte{0, 0, byte(c)}, 25, api.ErrCorrupt)
	}
}

func TestTakeOfParts(t *testing.T) { // P6.1: a run or a list goes past the bytes that are needed, or they come to fewer
	for c := range 256 {
		// Noughts, so that no bit behind a last truth is to blame.
		b, has := []byte{byte(c), 0}, c+3
		if c >= 128 {
			b, has = append([]byte{byte(c)}, make([]byte, 256-c)...), 256-c
		}
		for need := 1; need <= 140; need++ {
			for _, many := range []int{need*8 - 7, need*8 - 1, need * 8} {
				if need == has {
					wantTake(t, b, all(many, false))
					continue
				}
				wantNoTake(t, b, many, api.ErrCorrupt)
			}
		}
		wantNoTake(t, b, 4096, api.ErrCorrupt)
	}
	wantNoTake(t, []byte("\xff\xa0"), 9, api.ErrCorrupt)                     // fewer, by one truth
	wantNoTake(t, []byte("\xfe\xa0\x00"), 8, api.ErrCorrupt)                 // past it, by a byte
	wantNoTake(t, []byte("\xff\x00\x00\x00"), 16, api.ErrCorrupt)            // a run of 3 past 2
	wantNoTake(t, []byte("\xff\x00\xfe\x00\x00"), 16, api.ErrCorrupt)        // a list of 2 past 2
	wantNoTake(t, bytes.Repeat([]byte("\x7f\x00"), 4), 4096, api.ErrCorrupt) // 520 bytes
	wantNoTake(t, append(bytes.Repeat([]byte("\xff\x00"), 511), "\xfe\x00\x00"...), 4096, api.ErrCorrupt)
}

func TestTakeOfOtherParts(t *testing.T) { // P6.1: parts that Put does not lay down so are whole, too
	wantTake(t, []byte("\xff\xff\xff\x80"), row("ttttttttt"))
	wantTake(t, []byte("\xfd\xff\xff\xff"), all(24, true))
	wantTake(t, []byte("\xff\xff\xff\xff\xff\xff"), all(24, true))
	wantTake(t, []byte("\x00\x00\x00\x00"), all(48, false))
	wantTake(t, []byte("\x00\x00\xff\x00"), all(25, false))
}

func TestTwoWrong(t *testing.T) { // P6.1, R3
	for _, b := range []string{"\xff\xa1", "\xff", "", "\x00\xff", "\xfe\xa1"} {
		for _, many := range []int{-1, 4097, math.MinInt, math.MaxInt} {
			wantNoTake(t, []byte(b), many, api.ErrArg) // by many, and by the bytes
		}
	}
	wantNoTake(t, []byte("\xfe\xff\xff"), 3, api.ErrCorrupt)     // past what is needed, and bits behind
	wantNoTake(t, []byte("\x00\xff"), 15, api.ErrCorrupt)        // a run that is, and bits behind
	wantNoTake(t, []byte("\xff\xff\xfe\xff"), 9, api.ErrCorrupt) // cut, and bits behind
}

func TestCount(t *testing.T) { // P6.1: of rows that Put refuses, too
	for _, n := range []int{1, 8, 255, 256, 257, 4095, 4096, 4097, 8192, 65535, 65536, 65537, 1 << 20} {
		if got := Count(all(n, true)); got != n {
			t.Errorf("Count of %d that are true = %d", n, got)
		}
		if got := Count(all(n, false)); got != 0 {
			t.Errorf("Count of %d that are false = %d", n, got)
		}
		if got := Count(turns(n, true)); got != (n+1)/2 {
			t.Errorf("Count of %d, turn about from true = %d", n, got)
		}
		if got := Count(turns(n, false)); got != n/2 {
			t.Errorf("Count of %d, turn about from false = %d", n, got)
		}
		l := make([]bool, n)
		l[n-1] = true
		if got := Count(l); got != 1 {
			t.Errorf("Count of %d, the last one true = %d", n, got)
		}
	}
	if got := Count(row("tft")); got != 2 {
		t.Errorf("Count(tft) = %d", got)
	}
	if got := Count(all(9, true)[:4]); got != 4 {
		t.Errorf("Count of 4 with room behind = %d", got)
	}
}

// someTruths are so many, of stretches that are one, the other, turn about, or
// by chance.
func someTruths(from *rand.Rand, n int) []bool {
	var l []bool
	for len(l) < n {
		size := 1 + from.Intn(1<<from.Intn(12))
		switch from.Intn(3) {
		case 0:
			l = append(l, all(size, from.Intn(2) == 0)...)
		case 1:
			l = append(l, turns(size, from.Intn(2) == 0)...)
		default:
			for range size {
				l = append(l, from.Intn(2) == 0)
			}
		}
	}
	return l[:n]
}

func TestLongRows(t *testing.T) { // P6.1, P6.2
	from := rand.New(rand.NewSource(1))
	for range 400 {
		l := someTruths(from, from.Intn(4097))
		wantBoth(t, l)
		if n := Count(l); n != slowCount(l) {
			t.Fatalf("Count(%s) = %d; want %d", show(l), n, slowCount(l))
		}
		b := slowPut(l)
		if len(b) > 0 {
			b[from.Intn(len(b))] ^= byte(1 << from.Intn(8))
		}
		checkTake(t, b, len(l))
		checkTake(t, b, from.Intn(4097))
	}
}

func TestOneBehindAnother(t *testing.T) { // P6.2: what stands behind is taken next
	from := rand.New(rand.NewSource(2))
	var rows [][]bool
	var together []byte
	for n := range 300 {
		l := someTruths(from, n)
		b, e := Put(l)
		if e != api.OK {
			t.Fatalf("Put of %d truths: %d", n, e)
		}
		rows, together = append(rows, l), append(together, b...)
	}
	for n, l := range rows {
		got, rest, e := Take(together, n)
		if e != api.OK || !slices.Equal(got, l) {
			t.Fatalf("Take of %d truths = %s, %d", n, show(got), e)
		}
		together = rest
	}
	if len(together) != 0 {
		t.Errorf("left: %x", together)
	}
}

// TestTruthsAreLeft: truths that are handed in, and the room behind them, stay
// as they were, and what is answered is the caller's own.
func TestTruthsAreLeft(t *testing.T) { // R7
	room := row("tfttftttftfttftt")
	for n := range len(room) + 1 {
		l := slices.Clone(room)
		want := slowPut(l[:n])
		first, _ := Put(l[:n])
		second, _ := Put(l[:n])
		Count(l[:n])
		clear(first[:cap(first)])
		if !slices.Equal(l, room) {
			t.Errorf("Put of %d: handed in is now %s", n, show(l))
		}
		clear(l)
		if !bytes.Equal(second, want) {
			t.Errorf("Put of %d: an answer went with another, or with what was handed in: %x", n, second)
		}
	}
}

// TestBytesAreLeft: bytes that are handed in, and the room behind them, stay
// as they were, and what is answered is the caller's own.
func TestBytesAreLeft(t *testing.T) { // R7
	const text = "\xfe\xa5\x80\xffrest and room"
	for _, many := range []int{0, 9, 12, 16, 24, 10, -1, 4097} { // some are refused
		b := []byte(text)
		truths, rest, _ := Take(b[:7], many)
		other, behind, _ := Take(b[:7], many)
		wantTruths, wantRest := slices.Clone(truths), bytes.Clone(rest)
		for i := range truths[:cap(truths)] {
			truths[:cap(truths)][i] = true
		}
		if !bytes.Equal(rest, wantRest) {
			t.Errorf("Take(.., %d): two lists of one answer share: %x", many, rest)
		}
		clear(rest[:cap(rest)])
		if string(b) != text {
			t.Errorf("Take(.., %d): handed in is now %q", many, b)
		}
		clear(b)
		if !slices.Equal(other, wantTruths) || !bytes.Equal(behind, wantRest) {
			t.Errorf("Take(.., %d): an answer went with another, or with what was handed in: %s, %x", many, show(other), behind)
		}
	}
}

// TestRoomIsNotRead: what stands behind the end is not the list's.
func TestRoomIsNotRead(t *testing.T) { // R6
	long := all(64, true)
	for n := range len(long) {
		wantPut(t, long[:n], slowPut(all(n, true)))
	}
	b := []byte("\xfe\xff\x80\xff\x80")
	for n := range b {
		for many := range 26 {
			checkTake(t, b[:n], many)
			if got, rest, e := Take(b[:n], many); e == api.OK {
				other, behind, _ := Take(bytes.Clone(b[:n]), many)
				if !slices.Equal(got, other) || !bytes.Equal(rest, behind) {
					t.Errorf("Take(%x, %d) reads the room behind", b[:n], many)
				}
			}
		}
	}
}

func FuzzPut(f *testing.F) { // P6.1, P6.2
	f.Add([]byte(nil), uint8(0), uint16(0))
	f.Add([]byte("\xa0"), uint8(5), uint16(0))
	f.Add([]byte("\xff\xff"), uint8(7), uint16(131))
	f.Add([]byte("\xaa"), uint8(1), uint16(511))
	f.Fuzz(func(t *testing.T, b []byte, cut uint8, more uint16) {
		var l []bool
		for _, c := range b {
			for i := range 8 {
				l = append(l, c>>i&1 == 1)
			}
		}
		if len(l) > 0 { // its last truths some times more, for runs that are long
			l = append(l, slices.Repeat(l[len(l)-8:], int(more)%520)...)
			l = l[:len(l)-int(cut)%8]
		}
		if Count(l) != slowCount(l) {
			t.Fatalf("Count(%s) = %d", show(l), Count(l))
		}
		if len(l) > 4096 {
			wantNoPut(t, l)
			return
		}
		wantBoth(t, l)
	})
}

func FuzzTake(f *testing.F) { // P6.1
	f.Add([]byte(nil), 0)
	f.Add([]byte("\xff\xa0"), 3)
	f.Add([]byte("\xff\xa1"), 3)
	f.Add([]byte("\x7f\xff\x00"), 1040)
	f.Add([]byte("\x80"), -1)
	f.Fuzz(func(t *testing.T, b []byte, many int) {
		checkTake(t, b, many)
		checkTake(t, b, many%1200)
	})
}
