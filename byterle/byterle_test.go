package byterle

import (
	"bytes"
	"math"
	"math/rand"
	"slices"
	"strconv"
	"strings"
	"testing"

	"pilaster/api"
)

// farMany: numbers that are not how many bytes there may be.
var farMany = []int{math.MinInt, math.MinInt + 1, -1 << 32, -4097, -4096, -256, -130, -3, -2, -1, 4097, 4098, 8192, 1 << 16, 1 << 31, 1 << 32, 1<<32 + 3, math.MaxInt - 1, math.MaxInt}

// slowPut is the chapter's words, a byte at a time: how often each byte stands
// from its place on is told from the back, and a list waits till it ends.
func slowPut(b []byte) []byte {
	ahead := make([]int, len(b)+1)
	for i := len(b) - 1; i >= 0; i-- {
		ahead[i] = 1
		if i+1 < len(b) && b[i+1] == b[i] {
			ahead[i] = ahead[i+1] + 1
		}
	}
	var out, list []byte
	end := func() {
		if len(list) > 0 {
			out = append(append(out, byte(-len(list))), list...)
		}
		list = nil
	}
	for i := 0; i < len(b); {
		if ahead[i] < 3 {
			if list = append(list, b[i]); len(list) == 128 {
				end()
			}
			i++
			continue
		}
		end()
		n := min(ahead[i], 130)
		out = append(out, byte(n-3), b[i])
		i += n
	}
	end()
	return out
}

// slowTake is the chapter's words a byte at a time: so many bytes, those
// behind, and whether that is what b begins with.
func slowTake(b []byte, many int) (out, rest []byte, ok bool) {
	run, list := 0, 0 // how often the next byte stands; how many bytes are the list's yet
	for len(out) < many || run > 0 || list > 0 {
		if len(b) == 0 {
			return nil, nil, false
		}
		c := b[0]
		b = b[1:]
		switch {
		case run > 0:
			for ; run > 0; run-- {
				out = append(out, c)
			}
		case list > 0:
			out = append(out, c)
			list--
		case c < 128:
			run = int(c) + 3
		default:
			list = 256 - int(c)
		}
	}
	return out, b, len(out) == many
}

// count: n bytes of which no two side by side are the same.
func count(n int) []byte {
	out := make([]byte, n)
	for i := range out {
		out[i] = byte(i)
	}
	return out
}

// same: n bytes that are all the same.
func same(c byte, n int) []byte { return bytes.Repeat([]byte{c}, n) }

// join lays rows of bytes one behind the other, in new memory.
func join(rows ...[]byte) []byte { return bytes.Join(rows, nil) }

// asList is b as a list of its own.
func asList(b []byte) []byte { return join([]byte{byte(256 - len(b))}, b) }

// show tells bytes by how many they are, and the first of them.
func show(b []byte) string {
	const digits = "0123456789abcdef"
	var text strings.Builder
	text.WriteString(strconv.Itoa(len(b)) + " bytes:")
	for _, c := range b[:min(len(b), 24)] {
		text.WriteByte(' ')
		text.WriteByte(digits[c/16])
		text.WriteByte(digits[c%16])
	}
	return text.String()
}

// wantTake asks that b, with whatever bytes behind it, is taken as want.
func wantTake(t *testing.T, b, want []byte) {
	t.Helper()
	for _, rest := range []string{"", "\x00", "\xff", "\x00\x00", "\x80 and more", "\x07\x07\x07"} {
		got, behind, e := Take(append(bytes.Clone(b), rest...), len(want))
		if e != api.OK || !bytes.Equal(got, want) || string(behind) != rest {
			t.Fatalf("Take(%s, %d) with %x behind = %s, %x, %d; want %s", show(b), len(want), rest, show(got), behind, e, show(want))
		}
	}
}

// wantPut asks that b is laid down as want, and taken back from it.
func wantPut(t *testing.T, b, want []byte) {
	t.Helper()
	if got, e := Put(b); e != api.OK || !bytes.Equal(got, want) {
		t.Fatalf("Put(%s) = %s, %d; want %s", show(b), show(got), e, show(want))
	}
	wantTake(t, want, b)
}

// wantBoth holds Put and Take of b against the slower reckoning.
func wantBoth(t *testing.T, b []byte) {
	t.Helper()
	wantPut(t, b, slowPut(b))
}

// wantNoPut asks that Put refuses b, with nothing beside the error.
func wantNoPut(t *testing.T, b []byte) {
	t.Helper()
	if got, e := Put(b); len(got) != 0 || e != api.ErrBig {
		t.Errorf("Put(%s) = %s, %d; want ErrBig", show(b), show(got), e)
	}
}

// wantNoTake asks that Take refuses b by an error, with nothing beside it.
func wantNoTake(t *testing.T, b []byte, many int, want api.Errno) {
	t.Helper()
	if got, rest, e := Take(b, many); len(got) != 0 || len(rest) != 0 || e != want {
		t.Fatalf("Take(%s, %d) = %s, %s, %d; want %d", show(b), many, show(got), show(rest), e, want)
	}
}

// checkTake holds Take against the slower reckoning, whatever b and many are.
func checkTake(t *testing.T, b []byte, many int) {
	t.Helper()
	if many < 0 || many > 4096 {
		wantNoTake(t, b, many, api.ErrArg)
		return
	}
	want, behind, ok := slowTake(b, many)
	if !ok {
		wantNoTake(t, b, many, api.ErrCorrupt)
		return
	}
	if got, rest, e := Take(b, many); e != api.OK || !bytes.Equal(got, want) || !bytes.Equal(rest, behind) {
		t.Fatalf("Take(%s, %d) = %s, %s, %d; want %s, %s", show(b), many, show(got), show(rest), e, show(want), show(behind))
	}
}

// eachRow goes through all rows of up to so many of these bytes.
func eachRow(letters string, most int, see func([]byte)) {
	row := make([]byte, 0, most)
	var more func()
	more = func() {
		see(row)
		if len(row) == most {
			return
		}
		for i := range len(letters) {
			row = append(row, letters[i])
			more()
			row = row[:len(row)-1]
		}
	}
	more()
}

func TestPutAndTake(t *testing.T) { // P5.1, P5.2: the chapter's, and others by hand
	for in, want := range map[string]string{
		"\x07\x07\x07\x07\x01\x02": "\x01\x07\xfe\x01\x02", // the chapter's
		"":                         "",
		"a":                        "\xffa",
		"aa":                       "\xfeaa",
		"aaa":                      "\x00a",
		"aaaa":                     "\x01a",
		"ab":                       "\xfeab",
		"aab":                      "\xfdaab",
		"abb":                      "\xfdabb",
		"abba":                     "\xfcabba",
		"aabb":                     "\xfcaabb",
		"aabbccdd":                 "\xf8aabbccdd",
		"aaab":                     "\x00a\xffb",
		"abbb":                     "\xffa\x00b",
		"aabbb":                    "\xfeaa\x00b",
		"abbbc":                    "\xffa\x00b\xffc",
		"aaabb":                    "\x00a\xfebb",
		"aaabbb":                   "\x00a\x00b",
		"aaabbaaa":                 "\x00a\xfebb\x00a",
		"abababab":                 "\xf8abababab",
		"\x00\x00\x00":             "\x00\x00",
		"\xff\xff\xff":             "\x00\xff",
		"\x80\x80\x80\xff\xff":     "\x00\x80\xfe\xff\xff",
		"\x00\xff\x00\x80":         "\xfc\x00\xff\x00\x80",
	} {
		wantPut(t, []byte(in), []byte(want))
	}
}

func TestNoBytes(t *testing.T) { // P5.1, P5.2: nothing is laid down, and nothing is asked
	for _, b := range [][]byte{nil, {}, []byte("aaa")[:0]} {
		wantPut(t, b, nil)
	}
	if got, rest, e := Take(nil, 0); len(got) != 0 || len(rest) != 0 || e != api.OK {
		t.Errorf("Take(nil, 0) = %x, %x, %d", got, rest, e)
	}
}

func TestTakeOfManyNought(t *testing.T) { // P5.2: all bytes stand behind, whole parts or not
	for _, b := range []string{"\x00", "\x7f", "\x80", "\xff", "\x00a", "\xffa", "\xfea", "\x80a", "\x01\x07\xfe\x01\x02", strings.Repeat("\xff", 5000)} {
		if got, rest, e := Take([]byte(b), 0); len(got) != 0 || string(rest) != b || e != api.OK {
			t.Errorf("Take(%s, 0) = %x, %s, %d", show([]byte(b)), got, show(rest), e)
		}
	}
}

func TestShortRows(t *testing.T) { // P5.1 to P5.3: all of them, of two and of three bytes
	eachRow("\x00\xff", 13, func(b []byte) { wantBoth(t, b) })
	eachRow("\x01\x80", 13, func(b []byte) { wantBoth(t, b) })
	eachRow("a\x00\xfe", 8, func(b []byte) { wantBoth(t, b) })
}

func TestSideBySide(t *testing.T) { // P5.1, P5.2: a run has room for 3 to 130
	for n, want := range map[int]string{
		1: "\xffx", 2: "\xfexx", 3: "\x00x", 4: "\x01x", 129: "\x7ex", 130: "\x7fx",
		131: "\x7fx\xffx", 132: "\x7fx\xfexx", 133: "\x7fx\x00x", 134: "\x7fx\x01x",
		259: "\x7fx\x7ex", 260: "\x7fx\x7fx", 261: "\x7fx\x7fx\xffx", 262: "\x7fx\x7fx\xfexx", 263: "\x7fx\x7fx\x00x",
	} {
		wantPut(t, same('x', n), []byte(want))
	}
}

func TestSideBySideAmongOthers(t *testing.T) { // P5.1: what a run leaves over goes into the list behind it
	for _, n := range []int{1, 2, 3, 4, 127, 128, 129, 130, 131, 132, 133, 134, 259, 260, 261, 262, 263} {
		for _, ahead := range []string{"", "a", "ab", "aa", "aaa", "bab"} {
			for _, behind := range []string{"", "a", "ab", "aa", "aaa", "bab", "ax", "axx", "axxx"} {
				wantBoth(t, join([]byte(ahead), same('x', n), []byte(behind)))
			}
		}
	}
	wantPut(t, append(same('x', 131), "ab"...), []byte("\x7fx\xfdxab"))
	wantPut(t, append(same('x', 132), "aaa"...), []byte("\x7fx\xfexx\x00a"))
	wantPut(t, append(same('x', 133), 'a'), []byte("\x7fx\x00x\xffa"))
	wantPut(t, append(same('x', 132), count(127)...), join([]byte("\x7fx"), asList(append([]byte("xx"), count(126)...)), asList([]byte{126})))
}

func TestEachCountOfEachByte(t *testing.T) { // P5.1 to P5.3
	for c := range 256 {
		for n := range 140 {
			wantBoth(t, same(byte(c), n))
		}
	}
	for n := range 1100 {
		wantBoth(t, same('x', n))
	}
}

func TestListsWithoutRuns(t *testing.T) { // P5.1: of at most 128 bytes
	for _, n := range []int{1, 2, 127, 128} {
		wantPut(t, count(n), asList(count(n)))
	}
	l := count(257)
	wantPut(t, l[:129], join(asList(l[:128]), asList(l[128:129])))
	wantPut(t, l[:255], join(asList(l[:128]), asList(l[128:255])))
	wantPut(t, l[:256], join(asList(l[:128]), asList(l[128:256])))
	wantPut(t, l, join(asList(l[:128]), asList(l[128:256]), asList(l[256:])))
	for n := range 600 {
		wantBoth(t, count(n))
	}
}

func TestListsAheadOfRuns(t *testing.T) { // P5.1: a list goes on up to the next run, or to 128 bytes
	for _, n := range []int{1, 2, 126, 127, 128} {
		for _, run := range []int{3, 4, 130} {
			wantPut(t, join(count(n), same(0xee, run)), join(asList(count(n)), []byte{byte(run - 3), 0xee}))
			wantPut(t, join(count(n), same(0xee, run), []byte{1}), join(asList(count(n)), []byte{byte(run - 3), 0xee, 0xff, 1}))
		}
	}
	l := count(130)
	wantPut(t, join(l[:129], same(0xee, 3)), join(asList(l[:128]), asList(l[128:129]), []byte{0, 0xee}))
	wantPut(t, join(l[:130], same(0xee, 3)), join(asList(l[:128]), asList(l[128:130]), []byte{0, 0xee}))
	// The run's byte itself is the list's last one, the 127th, the 128th and the 129th.
	for _, n := range []int{126, 127, 128} {
		wantPut(t, join(count(n), same(byte(n), 3)), join(asList(count(n)), []byte{0, byte(n)}))
	}
	for n := range 400 {
		for run := 1; run <= 4; run++ {
			wantBoth(t, join(count(n), same(0xee, run)))
			wantBoth(t, join(count(n), same(0xee, run), count(130)))
		}
	}
}

func TestTwoInLists(t *testing.T) { // P5.1: two equal bytes are no run: ahead, within, and at the end of a list
	two := []byte{0xee, 0xee}
	for _, n := range []int{0, 1, 2, 63, 125, 126} {
		l := join(count(n), two)
		wantPut(t, l, asList(l))
		wantPut(t, join(l, []byte("abc"), same('x', 3)), slowPut(join(l, []byte("abc"), same('x', 3))))
		l = join(two, count(n))
		wantPut(t, l, asList(l))
	}
	// One in the list that ends, one in the next.
	l := join(count(127), two, []byte{1})
	wantPut(t, l, join(asList(l[:128]), asList(l[128:])))
	// Three across the 128th byte are a run ahead of it.
	l = join(count(127), same(0xee, 3))
	wantPut(t, l, join(asList(l[:127]), []byte{0, 0xee}))
	pairs := make([]byte, 256)
	for i := range pairs {
		pairs[i] = byte(i / 2)
	}
	wantPut(t, pairs, join(asList(pairs[:128]), asList(pairs[128:])))
	wantPut(t, pairs[1:], join(asList(pairs[1:129]), asList(pairs[129:])))
}

func TestPutOfMost(t *testing.T) { // P5.1: 4096 bytes, and no more
	wantPut(t, same('x', 4095), append(bytes.Repeat([]byte("\x7fx"), 31), "\x3ex"...))
	wantPut(t, same('x', 4096), append(bytes.Repeat([]byte("\x7fx"), 31), "\x3fx"...))
	wantNoPut(t, same('x', 4097))
	most := count(4096)
	var want []byte
	for l := range slices.Chunk(most, 128) {
		want = append(want, asList(l)...)
	}
	wantPut(t, most, want)
	wantPut(t, most[:4095], join(want[:31*129], asList(most[31*128:4095])))
	wantNoPut(t, count(4097))
	wantNoPut(t, count(8192))
	wantNoPut(t, same(0, 1<<20))
}

func TestTakeOfEachHead(t *testing.T) { // P5.2: a run of 3 to 130, a list of 128 to 1
	for c := range 128 {
		wantTake(t, []byte{byte(c), 'x'}, same('x', c+3))
		wantTake(t, []byte{byte(c), byte(c)}, same(byte(c), c+3))
	}
	for c := 128; c < 256; c++ {
		l := count(256 - c)
		wantTake(t, join([]byte{byte(c)}, l), l)
		l = same(byte(c), 256-c) // a run would be shorter: it is whole all the same
		wantTake(t, join([]byte{byte(c)}, l), l)
	}
}

func TestTakeOfOtherParts(t *testing.T) { // P5.2: parts that Put does not lay down so are whole, too
	for b, want := range map[string]string{
		"\xffa\xffb\xffc":          "abc",
		"\xffa\xffa\xffa":          "aaa",
		"\xfdaaa":                  "aaa",
		"\x00a\x00a":               "aaaaaa",
		"\x00a\x01a":               "aaaaaaa",
		"\x00a\xffa":               "aaaa",
		"\xfeab\x00b":              "abbbb",
		"\xff\xff\xff\xff":         "\xff\xff",
		"\x00\x00\x00\x00\xff\x00": strings.Repeat("\x00", 7),
	} {
		wantTake(t, []byte(b), []byte(want))
	}
	wantTake(t, bytes.Repeat([]byte("\xffx"), 4096), same('x', 4096))
	wantTake(t, append(bytes.Repeat([]byte("\x00x"), 1365), "\xffx"...), same('x', 4096))
	wantTake(t, join(bytes.Repeat([]byte("\x7fx"), 31), []byte("\x3fx")), same('x', 4096))
}

func TestTakeFewerThanStand(t *testing.T) { // P5.2: parts that are not asked for stand behind
	all := "\x01\x07\xfe\x01\x02\x00\x09\xff\x05"
	for many, want := range map[int]int{0: 0, 4: 2, 6: 5, 9: 7, 10: 9} {
		got, rest, e := Take([]byte(all), many)
		if e != api.OK || string(got) != "\x07\x07\x07\x07\x01\x02\x09\x09\x09\x05"[:many] || string(rest) != all[want:] {
			t.Errorf("Take(%x, %d) = %x, %x, %d", all, many, got, rest, e)
		}
	}
	for _, many := range []int{1, 2, 3, 5, 7, 8, 11, 12, 4096} { // within a part, and behind them all
		wantNoTake(t, []byte(all), many, api.ErrCorrupt)
	}
	for behind := range 256 { // a part that is cut, or not, behind what is asked
		b := []byte{0, 'a', byte(behind)}
		if got, rest, e := Take(b, 3); string(got) != "aaa" || !bytes.Equal(rest, b[2:]) || e != api.OK {
			t.Errorf("Take(%x, 3) = %x, %x, %d", b, got, rest, e)
		}
	}
}

func TestTakeOfParts(t *testing.T) { // P5.2: a run or a list goes past many, or comes to fewer
	for c := range 256 {
		b := join([]byte{byte(c)}, count(128))
		size := c + 3
		if c >= 128 {
			size = 256 - c
			b = b[:1+size]
		} else {
			b = b[:2]
		}
		for many := 1; many <= 140; many++ {
			if many != size {
				wantNoTake(t, b, many, api.ErrCorrupt)
			}
		}
		wantNoTake(t, b, 4096, api.ErrCorrupt)
		if got, rest, e := Take(b, size); len(got) != size || len(rest) != 0 || e != api.OK {
			t.Errorf("Take(%s, %d) = %s, %x, %d", show(b), size, show(got), rest, e)
		}
	}
	wantNoTake(t, nil, 1, api.ErrCorrupt)
	wantNoTake(t, nil, 4096, api.ErrCorrupt)
	wantNoTake(t, []byte("\x01\x07\xfe\x01\x02"), 5, api.ErrCorrupt) // the chapter's
}

func TestTakeAtMost(t *testing.T) { // P5.2: 4096, and one part past it
	run, list := bytes.Repeat([]byte("\x7fx"), 32), bytes.Repeat(asList(count(128)), 33)
	wantNoTake(t, run, 4096, api.ErrCorrupt) // 4160
	wantTake(t, list[:32*129], bytes.Repeat(count(128), 32))
	if _, rest, e := Take(list, 4096); e != api.OK || !bytes.Equal(rest, asList(count(128))) {
		t.Errorf("Take of a list more: %s, %d", show(rest), e)
	}
	wantNoTake(t, list, 4095, api.ErrCorrupt)
	wantNoTake(t, list[:32*129-1], 4096, api.ErrCorrupt)
	wantNoTake(t, bytes.Repeat([]byte("\xffx"), 4095), 4096, api.ErrCorrupt)
	wantNoTake(t, join(bytes.Repeat([]byte("\xffx"), 4095), []byte("\xfexx")), 4096, api.ErrCorrupt)
	wantNoTake(t, join(bytes.Repeat([]byte("\xffx"), 4095), []byte("\x00x")), 4096, api.ErrCorrupt)
	wantNoTake(t, join(bytes.Repeat([]byte("\xffx"), 4095), []byte("\x7fx")), 4096, api.ErrCorrupt)
}

func TestTakeCut(t *testing.T) { // P5.2: at each place; the room behind the end is not the list's
	for _, l := range [][]byte{count(1), count(128), count(129), same('x', 3), same('x', 131), same('x', 260), []byte("\x07\x07\x07\x07\x01\x02"), join(count(5), same('x', 133), count(130), same(0, 4)), count(4096), same('x', 4096)} {
		b := slowPut(l)
		for n := range b {
			wantNoTake(t, b[:n], len(l), api.ErrCorrupt)
		}
		wantTake(t, b, l)
	}
	for c := range 256 {
		wantNoTake(t, []byte{byte(c)}, 1, api.ErrCorrupt)
		wantNoTake(t, []byte{byte(c)}, c+3, api.ErrCorrupt)
		wantNoTake(t, []byte{byte(c)}, 256-c, api.ErrCorrupt)
		wantNoTake(t, []byte{0, 'a', byte(c)}, 6, api.ErrCorrupt)
	}
}

func TestTakeOfWrongMany(t *testing.T) { // P5.2, R3: told ahead of what is wrong with the bytes
	for _, many := range farMany {
		for _, b := range []string{"", "\x00", "\xff", "\x00a", "\x7f", "\x80abc", "\x01\x07\xfe\x01\x02"} {
			wantNoTake(t, []byte(b), many, api.ErrArg)
		}
		wantNoTake(t, bytes.Repeat([]byte("\x7fx"), 40), many, api.ErrArg)
	}
	wantNoTake(t, bytes.Repeat([]byte("\xffx"), 4097), 4097, api.ErrArg) // it is just what stands there
}

func TestTakeOfShortBytes(t *testing.T) { // P5.2: all of them, held against the slower reckoning
	eachRow("\x00\x01\x02\xff\xfe\xfd", 6, func(b []byte) {
		for many := range 12 {
			checkTake(t, b, many)
		}
	})
	for first := range 256 {
		for second := range 256 {
			b := []byte{byte(first), byte(second), 3, 'x'}
			for _, many := range []int{-1, 0, 1, 2, 3, 4, 9, first + 3, 256 - first, first + 9, first + second + 6} {
				checkTake(t, b, many)
			}
		}
	}
}

// someBytes are so many bytes of runs and lists of any length.
func someBytes(from *rand.Rand, n int) []byte {
	var out []byte
	for len(out) < n {
		switch from.Intn(3) {
		case 0:
			out = append(out, same(byte(from.Intn(256)), 1+from.Intn(300))...)
		case 1:
			out = append(out, same(byte(from.Intn(4)), 1+from.Intn(4))...)
		default:
			out = append(out, count(1+from.Intn(300))...)
		}
	}
	return out[:n]
}

func TestLongRows(t *testing.T) { // P5.1 to P5.3
	from := rand.New(rand.NewSource(1))
	for range 400 {
		b := someBytes(from, from.Intn(4097))
		wantBoth(t, b)
		laid := slowPut(b)
		if len(laid) > 0 {
			laid[from.Intn(len(laid))] ^= byte(1 << from.Intn(8))
		}
		checkTake(t, laid, len(b))
		checkTake(t, laid, from.Intn(4097))
	}
}

func TestOneBehindAnother(t *testing.T) { // P5.3: what stands behind is taken next
	from := rand.New(rand.NewSource(2))
	var rows [][]byte
	var all []byte
	for n := range 200 {
		b := someBytes(from, n)
		laid, e := Put(b)
		if e != api.OK {
			t.Fatalf("Put of %d bytes: %d", n, e)
		}
		rows, all = append(rows, b), append(all, laid...)
	}
	for n, b := range rows {
		got, rest, e := Take(all, n)
		if e != api.OK || !bytes.Equal(got, b) {
			t.Fatalf("Take of %d bytes = %s, %d", n, show(got), e)
		}
		all = rest
	}
	if len(all) != 0 {
		t.Errorf("left: %s", show(all))
	}
}

// TestHandedInIsLeft: what is handed in, and the spare room behind it, stays
// as it was, and what is answered is the caller's own.
func TestHandedInIsLeft(t *testing.T) { // R7
	room := []byte("aaaabcdddd and room")
	b := bytes.Clone(room)
	first, _ := Put(b[:8])
	second, _ := Put(b[:8])
	clear(first[:cap(first)])
	if !bytes.Equal(b, room) {
		t.Errorf("Put: handed in is now %q", b)
	}
	clear(b)
	if string(second) != "\x01a\xfcbcdd" {
		t.Errorf("Put: an answer went with another, or with what was handed in: %q", second)
	}

	for _, many := range []int{0, 4, 6} {
		room = []byte("\x01a\xfebcrest and room")
		b = bytes.Clone(room)
		one, rest, _ := Take(b[:9], many)
		two, other, _ := Take(b[:9], many)
		wantTwo, wantOther := bytes.Clone(two), bytes.Clone(other)
		clear(one[:cap(one)])
		if !bytes.Equal(rest, other) {
			t.Errorf("Take(.., %d): two lists of one answer share: %q", many, rest)
		}
		clear(rest[:cap(rest)])
		if !bytes.Equal(b, room) {
			t.Errorf("Take(.., %d): handed in is now %q", many, b)
		}
		clear(b)
		if !bytes.Equal(two, wantTwo) || !bytes.Equal(other, wantOther) || string(two) != "aaaabc"[:many] {
			t.Errorf("Take(.., %d): an answer went with another, or with what was handed in: %q, %q", many, two, other)
		}
	}
}

// TestRoomIsNotRead: what stands behind the end is not the list's.
func TestRoomIsNotRead(t *testing.T) { // R6
	for _, n := range []int{1, 2, 3, 127, 128, 129, 130, 131, 132} {
		long := join(same('x', n), same('x', 200))
		wantPut(t, long[:n], slowPut(same('x', n)))
		long = join(count(n), same(byte(n-1), 200))
		wantPut(t, long[:n], slowPut(count(n)))
	}
	b := []byte("\x00a\xfebc")
	for n := range b {
		checkTake(t, b[:n], 3)
		checkTake(t, b[:n], 5)
	}
}

func FuzzPut(f *testing.F) { // P5.1 to P5.3
	f.Add([]byte(nil), uint16(0))
	f.Add([]byte("\x07\x07\x07\x07\x01\x02"), uint16(0))
	f.Add([]byte("abcc"), uint16(131))
	f.Add(count(128), uint16(2))
	f.Fuzz(func(t *testing.T, b []byte, more uint16) {
		if len(b) > 0 { // its last byte some times more, for runs that are long
			b = append(bytes.Clone(b), same(b[len(b)-1], int(more)%500)...)
		}
		if len(b) > 4096 {
			wantNoPut(t, b)
			return
		}
		wantBoth(t, b)
	})
}

func FuzzTake(f *testing.F) { // P5.2
	f.Add([]byte(nil), 0)
	f.Add([]byte("\x01\x07\xfe\x01\x02"), 6)
	f.Add([]byte("\x01\x07\xfe\x01\x02"), 5)
	f.Add([]byte("\x7fx\x00"), 130)
	f.Add([]byte("\x80"), -1)
	f.Fuzz(func(t *testing.T, b []byte, many int) {
		checkTake(t, b, many)
		checkTake(t, b, many%500)
	})
}
