package value

import (
	"math"
	"math/rand"
	"regexp"
	"slices"
	"strings"
	"testing"

	"pilaster/api"
)

// kinds are all those that columns have.
var kinds = []int{api.Bool, api.Int, api.Decimal, api.Date, api.Time, api.Text, api.Bytes}

// noKinds are numbers that are none.
var noKinds = []int{math.MinInt, math.MinInt + 1, -1 << 32, -1<<32 + 1, -256, -255, -8, -7, -6, -2, -1, 0, 8, 9, 10, 16, 255, 256, 257, 262, 1<<32 + 1, 1<<32 + 7, math.MaxInt - 1, math.MaxInt}

// null is what is nothing.
var null = api.Value{Null: true}

func number(n int) api.Value { return api.Value{N: n} }

func text(s string) api.Value { return api.Value{S: s} }

// laid are a letter's bits in so many bytes, whether it needs so many or not.
func laid(x, bytes int) string {
	if bytes == 1 {
		return string([]byte{byte(x)})
	}
	b := make([]byte, bytes)
	for i := bytes - 1; i > 0; i-- {
		b[i] = byte(0x80 | x%64)
		x /= 64
	}
	b[0] = byte(^(0xff >> bytes) | x)
	return string(b)
}

// needs is how many bytes a letter needs.
func needs(x int) int {
	switch {
	case x < 0x80:
		return 1
	case x < 0x800:
		return 2
	case x < 0x10000:
		return 3
	}
	return 4
}

// isLetter tells whether there is such a letter: no half of a pair is one.
func isLetter(x int) bool {
	return x >= 0 && x < 0xd800 || x > 0xdfff && x <= 0x10ffff
}

// firstLetter tells how many bytes the letter has that s begins with: 0, if it
// begins with none.
func firstLetter(s string) int {
	for n := 1; n <= 4 && n <= len(s); n++ {
		x := int(s[0])
		if n > 1 {
			x %= 1 << (7 - n)
		}
		for i := 1; i < n; i++ {
			x = x*64 + int(s[i])%64
		}
		if isLetter(x) && needs(x) == n && laid(x, n) == s[:n] {
			return n
		}
	}
	return 0
}

// slowRight tells whether s is letters, one behind the other.
func slowRight(s string) bool {
	for s != "" {
		n := firstLetter(s)
		if n == 0 {
			return false
		}
		s = s[n:]
	}
	return true
}

// slowMay is P12.1's words.
func slowMay(kind int, v api.Value) bool {
	if !slices.Contains(kinds, kind) {
		return false
	}
	if v.Null {
		return v == null
	}
	switch kind {
	case 1:
		return v == number(0) || v == number(1)
	case 2, 3, 4, 5:
		return v == number(v.N)
	case 6:
		return v == text(v.S) && len(v.S) < 301 && slowRight(v.S)
	}
	return v == text(v.S) && len(v.S) < 301
}

// slowCompare holds rows of numbers against each other: whether it is
// something, its number, its bytes.
func slowCompare(a, b api.Value) int {
	row := func(v api.Value) []int {
		l := []int{1, v.N}
		if v.Null {
			l[0] = 0
		}
		for i := range len(v.S) {
			l = append(l, int(v.S[i]))
		}
		return l
	}
	return slices.Compare(row(a), row(b))
}

var nameForm = regexp.MustCompile(`\A[a-z0-9_]{1,20}\z`)

// slowSchema is P12.3's words for columns.
func slowSchema(l []api.Col) api.Errno {
	count := map[string]int{}
	for _, c := range l {
		count[c.Name]++
		if !slices.Contains(kinds, c.Kind) || !nameForm.MatchString(c.Name) {
			return api.ErrSchema
		}
	}
	if len(l) < 1 || len(l) > 6 || len(count) != len(l) {
		return api.ErrSchema
	}
	return api.OK
}

// slowRow is P12.3's words for a row.
func slowRow(l []api.Col, r api.Row) api.Errno {
	good := len(l) == len(r)
	for i := 0; good && i < len(l); i++ {
		good = slowMay(l[i].Kind, r[i])
	}
	if good {
		return api.OK
	}
	return api.ErrType
}

// wantMay asks that May tells so, and that the slower reckoning does.
func wantMay(t *testing.T, kind int, v api.Value, want bool) {
	t.Helper()
	if got := May(kind, v); got != want || slowMay(kind, v) != want {
		t.Fatalf("May(%d, %#v) = %v, and %v slowly; want %v", kind, v, got, slowMay(kind, v), want)
	}
}

// wantText asks whether s may be a text; as bytes it may be in any case.
func wantText(t *testing.T, s string, want bool) {
	t.Helper()
	wantMay(t, api.Text, text(s), want)
	wantMay(t, api.Bytes, text(s), true)
}

// checkMay holds May against the slower reckoning, for kinds that are and that
// are not.
func checkMay(t *testing.T, v api.Value) {
	t.Helper()
	for _, kind := range slices.Concat(kinds, noKinds) {
		wantMay(t, kind, v, slowMay(kind, v))
	}
}

// wantCompare asks that Compare tells so of a and b, the contrary of b and a,
// and that Same goes with it.
func wantCompare(t *testing.T, a, b api.Value, want int) {
	t.Helper()
	if got, back := Compare(a, b), Compare(b, a); got != want || back != -want || slowCompare(a, b) != want {
		t.Fatalf("Compare(%#v, %#v) = %d, the other way round %d, and %d slowly; want %d", a, b, got, back, slowCompare(a, b), want)
	}
	if Same(a, b) != (want == 0) || Same(b, a) != (want == 0) {
		t.Fatalf("Same(%#v, %#v) = %v, the other way round %v", a, b, Same(a, b), Same(b, a))
	}
}

// wantSchema asks that Schema tells so, and that the slower reckoning does.
func wantSchema(t *testing.T, l []api.Col, want api.Errno) {
	t.Helper()
	if got := Schema(l); got != want || slowSchema(l) != want {
		t.Fatalf("Schema(%#v) = %d, and %d slowly; want %d", l, got, slowSchema(l), want)
	}
}

// wantRow asks that Row tells so, and that the slower reckoning does.
func wantRow(t *testing.T, l []api.Col, r api.Row, want api.Errno) {
	t.Helper()
	if got := Row(l, r); got != want || slowRow(l, r) != want {
		t.Fatalf("Row(%#v, %#v) = %d, and %d slowly; want %d", l, r, got, slowRow(l, r), want)
	}
}

// with is l, with x at place i.
func with[T any](l []T, i int, x T) []T {
	l = slices.Clone(l)
	l[i] = x
	return l
}

// columns are so many that may be, of the kinds in turn, and each with a name
// of its own.
func columns(many int) []api.Col {
	l := make([]api.Col, many)
	for i := range l {
		l[i] = api.Col{Name: "c_" + string(rune('a'+i)), Kind: kinds[i%len(kinds)]}
	}
	return l
}

// called is one column of that name, which may be of that kind.
func called(name string) []api.Col { return []api.Col{{Name: name, Kind: api.Int}} }

// row is one of those columns.
func row(l []api.Col) api.Row {
	var r api.Row
	for i, c := range l {
		if Number(c.Kind) {
			r = append(r, number(i%2))
		} else {
			r = append(r, text("é"))
		}
	}
	return r
}

func TestNumber(t *testing.T) { // P12.1
	for kind := -300; kind <= 300; kind++ {
		if got := Number(kind); got != (kind >= 1 && kind <= 5) {
			t.Errorf("Number(%d) = %v", kind, got)
		}
	}
	for _, kind := range noKinds {
		if Number(kind) {
			t.Errorf("Number(%d) = true", kind)
		}
	}
	for _, kind := range kinds {
		if got := Number(kind); got != (kind != api.Text && kind != api.Bytes) {
			t.Errorf("Number(%d) = %v", kind, got)
		}
	}
}

func TestMay(t *testing.T) { // P12.1: the chapter's, and others by hand
	for _, c := range []struct {
		kind int
		v    api.Value
		want bool
	}{
		{api.Bool, number(2), false},
		{api.Text, text("é"), true},
		{api.Text, text("\xff"), false},
		{api.Bytes, text("\xff"), true},
		{api.Bool, number(0), true},
		{api.Bool, number(1), true},
		{api.Bool, number(-1), false},
		{api.Bool, text("a"), false},
		{api.Bool, null, true},
		{api.Int, number(-5), true},
		{api.Int, number(math.MinInt), true},
		{api.Decimal, number(math.MaxInt), true},
		{api.Date, number(19000), true},
		{api.Date, text("2026-11-20"), false},
		{api.Time, api.Value{N: 1, S: "a"}, false},
		{api.Text, number(1), false},
		{api.Text, api.Value{N: 1, S: "a"}, false},
		{api.Text, text(""), true},
		{api.Text, text("\x00"), true},
		{api.Bytes, api.Value{N: -1, S: "a"}, false},
		{api.Bytes, null, true},
		{api.Text, api.Value{Null: true, S: "a"}, false},
		{api.Int, api.Value{Null: true, N: 1}, false},
		{0, number(0), false},
		{8, text("a"), false},
		{0, null, false},
		{8, null, false},
	} {
		wantMay(t, c.kind, c.v, c.want)
	}
}

func TestMayOfNothing(t *testing.T) { // P12.1: N is 0, and S empty
	for _, n := range []int{math.MinInt, -1, 0, 1, 2, math.MaxInt} {
		for _, s := range []string{"", "a", "\x00", "\xff", strings.Repeat("a", 300), strings.Repeat("a", 301)} {
			v := api.Value{Null: true, N: n, S: s}
			for _, kind := range kinds {
				wantMay(t, kind, v, n == 0 && s == "")
			}
			for _, kind := range noKinds {
				wantMay(t, kind, v, false)
			}
		}
	}
}

func TestMayOfNumbers(t *testing.T) { // P12.1: S is empty, and of Bool N 0 or 1
	for _, n := range []int{math.MinInt, math.MinInt + 1, -1 << 32, -256, -255, -2, -1, 0, 1, 2, 3, 255, 256, 257, 1 << 32, 1<<32 + 1, math.MaxInt - 1, math.MaxInt} {
		for _, kind := range []int{api.Int, api.Decimal, api.Date, api.Time} {
			wantMay(t, kind, number(n), true)
		}
		wantMay(t, api.Bool, number(n), n == 0 || n == 1)
		wantMay(t, api.Text, number(n), n == 0)
		wantMay(t, api.Bytes, number(n), n == 0)
		checkMay(t, number(n))
		for _, s := range []string{"a", "0", "1", "\x00", "\xff", strings.Repeat("a", 300), strings.Repeat("a", 301)} {
			for _, kind := range kinds[:5] {
				wantMay(t, kind, api.Value{N: n, S: s}, false)
			}
			checkMay(t, api.Value{N: n, S: s})
		}
	}
}

func TestMayOfSoManyBytes(t *testing.T) { // P12.1: 300 at most, however many letters they are
	for _, letter := range []string{"a", "\x00", "\x7f", "é", "€", "\ufffd", "\U0001f600", "\U0010ffff"} {
		for _, many := range []int{0, 1, 2, 3, 74, 75, 76, 99, 100, 101, 149, 150, 151, 299, 300, 301, 302, 4096, 70000} {
			s := strings.Repeat(letter, many)
			wantMay(t, api.Text, text(s), len(s) <= 300)
			wantMay(t, api.Bytes, text(s), len(s) <= 300)
			for _, more := range []string{"b", "ß", "中", "\U00010000"} { // the last letter ends at the bound, or goes past it
				s := s + more
				wantMay(t, api.Text, text(s), len(s) <= 300)
				wantMay(t, api.Text, text(more+s[:len(s)-len(more)]), len(s) <= 300)
			}
		}
	}
	for _, many := range []int{0, 1, 299, 300, 301, 1000} {
		s := strings.Repeat("\xff", many)
		wantMay(t, api.Bytes, text(s), many <= 300)
		wantMay(t, api.Text, text(s), many == 0)
		for _, n := range []int{math.MinInt, -1, 1, math.MaxInt} {
			wantMay(t, api.Bytes, api.Value{N: n, S: s}, false)
			wantMay(t, api.Text, api.Value{N: n, S: strings.Repeat("a", many)}, false)
		}
	}
	s := strings.Repeat("a", 299) + "é" // 300 letters, but a byte more
	wantMay(t, api.Text, text(s), false)
	wantMay(t, api.Bytes, text(s), false)
	wantMay(t, api.Text, text(s[1:]), true)
	wantMay(t, api.Text, text(s[:300]), false)
	wantMay(t, api.Bytes, text(s[:300]), true)
}

func TestMayOfEachLetter(t *testing.T) { // P12.1: rightly written, and cut at each place
	for x := range 0x110000 {
		s := laid(x, needs(x))
		if got := May(api.Text, text(s)); got != isLetter(x) {
			t.Fatalf("May(Text, %x), of U+%X = %v", s, x, got)
		}
		for i := 1; i < len(s); i++ {
			if May(api.Text, text(s[:i])) || May(api.Text, text(s[i:])) {
				t.Fatalf("%x, cut at %d: a piece may be a text", s, i)
			}
		}
	}
}

func TestMayOfLongerLetters(t *testing.T) { // P12.1: one that is longer than it need be
	for x := range 0x200000 {
		for bytes := needs(x) + 1; bytes <= 6; bytes++ {
			if s := laid(x, bytes); May(api.Text, text(s)) {
				t.Fatalf("May(Text, %x), of U+%X = true", s, x)
			}
		}
	}
}

func TestMayOfNoLetters(t *testing.T) { // P12.1: halves of pairs, and what is above U+10FFFF
	for x := 0xd800; x <= 0xdfff; x++ {
		wantText(t, laid(x, 3), false)
		wantText(t, laid(x, 4), false)
	}
	for high := 0xd800; high <= 0xdbff; high += 51 {
		for low := 0xdc00; low <= 0xdfff; low += 51 {
			wantText(t, laid(high, 3)+laid(low, 3), false)
		}
	}
	for x := 0x110000; x < 0x200000; x++ {
		if s := laid(x, 4); May(api.Text, text(s)) {
			t.Fatalf("May(Text, %x), of %x = true", s, x)
		}
	}
	for _, x := range []int{0x200000, 0x3ffffff} {
		wantText(t, laid(x, 5), false)
	}
	for _, x := range []int{0x4000000, 0x7fffffff} {
		wantText(t, laid(x, 6), false)
	}
}

func TestMayOfFewBytes(t *testing.T) { // P12.1: all there are of one and of two, and some of three and four
	some := []byte{0, 'a', 0x7f, 0x80, 0x8f, 0x90, 0x9f, 0xa0, 0xbd, 0xbf, 0xc0, 0xc1, 0xc2, 0xdf, 0xe0, 0xed, 0xef, 0xf0, 0xf4, 0xf5, 0xff}
	check := func(b ...byte) { wantText(t, string(b), slowRight(string(b))) }
	for a := range 256 {
		check(byte(a))
		for b := range 256 {
			check(byte(a), byte(b))
		}
		for _, b := range some {
			for _, c := range some {
				check(byte(a), b, c)
				for _, d := range some {
					check(byte(a), b, c, d)
				}
			}
		}
	}
}

func TestMayOfLetterForWhatIsWrong(t *testing.T) { // P12.1: U+FFFD itself, rightly written
	right := "\xef\xbf\xbd"
	if right != "\ufffd" {
		t.Fatal("that is not U+FFFD")
	}
	for _, s := range []string{right, right + right, "a" + right, right + "a", "é" + right + "€", strings.Repeat(right, 100)} {
		wantText(t, s, true)
		for _, wrong := range []string{"\xff", "\xef", "\xef\xbf", "\xbf\xbd", "\xbd", "\xf0\x8f\xbf\xbd"} {
			if len(s) > 290 {
				s = s[:270]
			}
			wantText(t, s+wrong, false)
			wantText(t, wrong+s, false)
			wantText(t, s+wrong+s[:3], false)
			wantText(t, right+wrong+right, false)
		}
	}
}

// wrongs are bytes that are not right, whatever stands about them: bytes that
// begin nothing, letters that are cut, or longer than they need be, halves of
// pairs, and what is above U+10FFFF.
var wrongs = []string{
	"\x80", "\xbf", "\xc0", "\xc1", "\xf5", "\xfe", "\xff",
	"\xc3", "\xe2", "\xe2\x82", "\xf0", "\xf0\x9f", "\xf0\x9f\x98", "\xef\xbf",
	"\xc0\x80", "\xc1\xbf", "\xe0\x80\x80", "\xe0\x9f\xbf", "\xf0\x80\x80\x80", "\xf0\x8f\xbf\xbf",
	"\xed\xa0\x80", "\xed\xad\xbf", "\xed\xae\x80", "\xed\xbf\xbf", "\xed\xa0\xbd\xed\xb8\x80",
	"\xf4\x90\x80\x80", "\xf7\xbf\xbf\xbf", "\xf8\x88\x80\x80\x80",
}

func TestMayOfWrongAmongRight(t *testing.T) { // P12.1: at the front, in the middle, at the end
	for _, wrong := range wrongs {
		for _, letter := range []string{"a", "é", "€", "\U0001f600", "\ufffd"} {
			for _, many := range []int{0, 1, 2, 20, 35} {
				s := strings.Repeat(letter, many)
				wantText(t, s, true)
				wantText(t, wrong+s, false)
				wantText(t, s+wrong, false)
				wantText(t, s+wrong+s, false)
			}
			full := strings.Repeat(letter, (300-len(wrong))/len(letter)) // as long as it may be
			for i := 0; i <= len(full); i += len(letter) {
				wantText(t, full[:i]+wrong+full[i:], false)
			}
		}
	}
}

func TestMayOfDrawn(t *testing.T) { // P12.1
	from := rand.New(rand.NewSource(12))
	pieces := append([]string{"a", "", "é", "€", "中", "\U0001f600", "\ufffd", "\x00"}, wrongs...)
	for range 20000 {
		v := api.Value{Null: from.Intn(8) == 0}
		if from.Intn(4) == 0 {
			v.N = from.Intn(5) - 2
		}
		for range from.Intn(4) {
			v.S += strings.Repeat(pieces[from.Intn(8)], from.Intn(60))
		}
		if from.Intn(3) == 0 {
			i := from.Intn(len(v.S) + 1)
			v.S = v.S[:i] + pieces[from.Intn(len(pieces))] + v.S[i:]
		}
		checkMay(t, v)
	}
}

func TestCompare(t *testing.T) { // P12.2: the chapter's, and others by hand
	for _, c := range []struct {
		a, b api.Value
		want int
	}{
		{null, number(0), -1},
		{number(3), number(-1), 1},
		{null, null, 0},
		{null, number(math.MinInt), -1},
		{null, text(""), -1},
		{null, text("a"), -1},
		{number(0), text(""), 0},
		{number(7), number(7), 0},
		{number(-1), number(0), -1},
		{number(9), number(10), -1},
		{number(math.MinInt), number(math.MaxInt), -1}, // their difference is no int
		{number(math.MinInt), number(1), -1},
		{number(math.MaxInt), number(-1), 1},
		{number(math.MinInt), number(math.MinInt), 0},
		{number(math.MaxInt), number(math.MaxInt - 1), 1},
		{text("a"), text("a"), 0},
		{text("a"), text("b"), -1},
		{text("a"), text("ab"), -1},
		{text("aa"), text("ab"), -1},
		{text("b"), text("ab"), 1},
		{text(""), text("\x00"), -1},
		{text("a"), text("a\x00"), -1},
		{text("Z"), text("a"), -1},
		{text("10"), text("9"), -1},
		{text("\x7f"), text("\x80"), -1},
		{text("\xff"), text("a"), 1},
		{text("é"), text("z"), 1},
		{text("\xff"), text("\xfe\xff"), 1},
		{text("\U00010000"), text("\uffff"), 1}, // bytes, not halves of pairs
		{api.Value{N: 1, S: "a"}, api.Value{N: 1, S: "b"}, -1},
		{api.Value{N: 1, S: "b"}, api.Value{N: 2, S: "a"}, -1},
		{api.Value{N: 1}, text("b"), 1},
		{api.Value{N: -1, S: "b"}, number(0), -1},
	} {
		wantCompare(t, c.a, c.b, c.want)
	}
}

// someNumbers and someTexts rise.
var (
	someNumbers = []int{math.MinInt, math.MinInt + 1, -1 << 32, -2, -1, 0, 1, 2, 1 << 32, math.MaxInt - 1, math.MaxInt}
	someTexts   = []string{
		"", "\x00", "\x00\x00", "\x00\xff", "A", "a", "a\x00", "aa", "ab", "a\x7f", "a\x80", "a\xff", "b", "ba",
		"\x7f", "\x80", "\x80\x00", "\xc3\xa9", "\xc3\xaa", "\xef\xbf\xbf", "\xf0\x90\x80\x80", "\xff", "\xff\x00", "\xff\xff",
	}
)

func TestCompareOfNumbers(t *testing.T) { // P12.2
	for i, n := range someNumbers {
		for j, m := range someNumbers {
			want := 0
			if i < j {
				want = -1
			} else if i > j {
				want = 1
			}
			wantCompare(t, number(n), number(m), want)
			for _, s := range someTexts { // N is ahead of S
				if i != j {
					wantCompare(t, api.Value{N: n, S: s}, number(m), want)
					wantCompare(t, api.Value{N: n}, api.Value{N: m, S: s}, want)
				}
				wantCompare(t, api.Value{N: n, S: s}, api.Value{N: m, S: s}, want)
			}
		}
	}
}

func TestCompareOfTexts(t *testing.T) { // P12.2: byte by byte
	long := strings.Repeat("m", 299)
	for i, s := range someTexts {
		for j, r := range someTexts {
			want := 0
			if i < j {
				want = -1
			} else if i > j {
				want = 1
			}
			for _, n := range someNumbers {
				wantCompare(t, api.Value{N: n, S: s}, api.Value{N: n, S: r}, want)
			}
			wantCompare(t, text(long+s), text(long+r), want)
			if i != j && !strings.HasPrefix(s, r) && !strings.HasPrefix(r, s) { // a later byte does not count
				wantCompare(t, text(s+"\xff"), text(r+"\x00"), want)
				wantCompare(t, text(s+"\x00"), text(r+"\xff"), want)
				wantCompare(t, text(s+long), text(r), want)
			}
		}
	}
	for a := range 256 {
		for b := range 256 {
			want := min(1, max(-1, a-b))
			wantCompare(t, text(laid(a, 1)), text(laid(b, 1)), want)
			wantCompare(t, text("é"+laid(a, 1)+"z"), text("é"+laid(b, 1)+"a"), slowCompare(text(laid(a, 1)+"z"), text(laid(b, 1)+"a")))
		}
	}
}

func TestCompareOfNothing(t *testing.T) { // P12.2: ahead of all else, whatever N and S; of two that are nothing by these
	for _, n := range someNumbers {
		for _, m := range someNumbers {
			for _, s := range someTexts {
				for _, r := range someTexts {
					a, b := api.Value{Null: true, N: n, S: s}, api.Value{N: m, S: r}
					wantCompare(t, a, b, -1)
					b.Null = true
					wantCompare(t, a, b, slowCompare(api.Value{N: n, S: s}, api.Value{N: m, S: r}))
				}
			}
		}
	}
	wantCompare(t, api.Value{Null: true, N: -1}, null, -1)
	wantCompare(t, api.Value{Null: true, S: "a"}, null, 1)
	wantCompare(t, api.Value{Null: true, N: 1}, api.Value{Null: true, S: "a"}, 1)
}

func TestSchema(t *testing.T) { // P12.3: by hand
	a, b := api.Col{Name: "a_1", Kind: api.Int}, api.Col{Name: "b", Kind: api.Text}
	for _, c := range []struct {
		l    []api.Col
		want api.Errno
	}{
		{[]api.Col{a, b}, api.OK},
		{[]api.Col{b, a}, api.OK},
		{[]api.Col{a}, api.OK},
		{[]api.Col{a, a}, api.ErrSchema},
		{[]api.Col{a, {Name: "a_1", Kind: api.Text}}, api.ErrSchema},
		{[]api.Col{a, {Name: "a_2", Kind: api.Int}}, api.OK},
		{nil, api.ErrSchema},
		{[]api.Col{}, api.ErrSchema},
		{called(""), api.ErrSchema},
		{called("A"), api.ErrSchema},
		{called("é"), api.ErrSchema},
		{called("a b"), api.ErrSchema},
		{called("0"), api.OK},
		{called("_"), api.OK},
		{called("w_id"), api.OK},
		{[]api.Col{{Name: "a"}}, api.ErrSchema},
		{[]api.Col{{Kind: api.Bool}}, api.ErrSchema},
		{[]api.Col{{Name: "a", Kind: 8}}, api.ErrSchema},
		{[]api.Col{a, {}}, api.ErrSchema},
	} {
		wantSchema(t, c.l, c.want)
	}
}

func TestSchemaOfSoMany(t *testing.T) { // P12.3: 1 to 6
	for many := range 27 {
		want := api.OK
		if many < 1 || many > 6 {
			want = api.ErrSchema
		}
		wantSchema(t, columns(many), want)
	}
	l := columns(6)
	for i := range l {
		for j := range l[:i] {
			wantSchema(t, l[j:i], api.OK)
			l[i], l[j] = l[j], l[i] // in any order
			wantSchema(t, l, api.OK)
		}
	}
	wantSchema(t, make([]api.Col, 100000), api.ErrSchema)
}

func TestSchemaOfKinds(t *testing.T) { // P12.3: 1 to 7, of each column
	for many := 1; many <= 6; many++ {
		l := columns(many)
		for i := range l {
			for kind := range 9 {
				want := api.OK
				if kind == 0 || kind == 8 {
					want = api.ErrSchema
				}
				wantSchema(t, with(l, i, api.Col{Name: "x", Kind: kind}), want)
			}
			for _, kind := range noKinds {
				wantSchema(t, with(l, i, api.Col{Name: "x", Kind: kind}), api.ErrSchema)
			}
		}
	}
	for _, kind := range kinds { // all of the same kind
		wantSchema(t, []api.Col{{Name: "a", Kind: kind}, {Name: "b", Kind: kind}, {Name: "c", Kind: kind}}, api.OK)
	}
}

func TestSchemaOfLongNames(t *testing.T) { // P12.3: 1 to 20 bytes
	for _, many := range []int{0, 1, 2, 18, 19, 20, 21, 22, 40, 256, 276, 70000} {
		want := api.OK
		if many < 1 || many > 20 {
			want = api.ErrSchema
		}
		for _, letter := range []string{"a", "z", "0", "9", "_"} {
			for i, l := range [][]api.Col{columns(1), columns(6), columns(6), columns(6)} {
				wantSchema(t, with(l, []int{0, 0, 3, 5}[i], api.Col{Name: strings.Repeat(letter, many), Kind: api.Bytes}), want)
			}
		}
	}
	wantSchema(t, called("abcdefghijklmnopqrst"), api.OK)
	wantSchema(t, called("abcdefghijklmnopqrstu"), api.ErrSchema)
	wantSchema(t, called("uvwxyz_0123456789"), api.OK)
	wantSchema(t, called(strings.Repeat("é", 10)), api.ErrSchema)
	wantSchema(t, called(strings.Repeat("a", 20)+"\x00"), api.ErrSchema)
}

func TestSchemaOfEachByte(t *testing.T) { // P12.3: at the front, in the middle, at the end, and alone
	for c := range 256 {
		b := laid(c, 1)
		want := api.OK
		if !strings.Contains("abcdefghijklmnopqrstuvwxyz0123456789_", b) {
			want = api.ErrSchema
		}
		for _, name := range []string{b, b + "a", "a" + b, "ab" + b + "cd", "_" + b, "0" + b + "9", b + strings.Repeat("k", 19), strings.Repeat("k", 19) + b, "kkkkkkkkk" + b + "kkkkkkkkkk"} {
			wantSchema(t, called(name), want)
			for _, i := range []int{0, 2, 5} {
				wantSchema(t, with(columns(6), i, called(name)[0]), want)
			}
		}
	}
}

func TestSchemaOfOtherLetters(t *testing.T) { // P12.3: a letter is one of a to z, a digit one of 0 to 9
	others := append([]string{"é", "ß", "ı", "ſ", "a\u0301", "\uff41", "\uff10", "\u0660", "\u00b2", "\uff3f", "\u203f", "中", "\ufffd", "\U0001d41a", "\U0001d7ce"}, wrongs...)
	for x := 0x80; x < 0x110000; x++ {
		if s := laid(x, needs(x)); Schema(called(s)) != api.ErrSchema {
			t.Fatalf("a column may be called %x", s)
		}
	}
	for _, s := range others {
		for _, name := range []string{s, s + "a", "a" + s, "a" + s + "b"} {
			wantSchema(t, called(name), api.ErrSchema)
		}
	}
}

func TestSchemaOfSameNames(t *testing.T) { // P12.3: no two, wherever they stand
	for many := 2; many <= 6; many++ {
		l := columns(many)
		for i := range l {
			for j := range i {
				for _, kind := range kinds { // of the same kind, and of others
					wantSchema(t, with(l, i, api.Col{Name: l[j].Name, Kind: kind}), api.ErrSchema)
					wantSchema(t, with(l, j, api.Col{Name: l[i].Name, Kind: kind}), api.ErrSchema)
				}
			}
		}
	}
	long := strings.Repeat("n", 19)
	for i, c := range "abcdefghijklmnopqrstuvwxyz0123456789_" {
		for j, d := range "abcdefghijklmnopqrstuvwxyz0123456789_" {
			want := api.OK
			if i == j {
				want = api.ErrSchema
			}
			for _, front := range []string{"", "a", long} { // they differ in the last byte alone
				l := []api.Col{{Name: front + string(c), Kind: api.Int}, {Name: "other", Kind: api.Int}, {Name: front + string(d), Kind: api.Int}}
				wantSchema(t, l, want)
				wantSchema(t, with(l, 1, l[0])[1:], want)
			}
		}
	}
	wantSchema(t, []api.Col{{Name: "a", Kind: 1}, {Name: "aa", Kind: 1}, {Name: "aaa", Kind: 1}}, api.OK) // one begins another
}

func TestSchemaOfTwoWrongs(t *testing.T) { // P12.3: the error is the same
	wrong := []api.Col{{}, {Name: "a"}, {Name: "a", Kind: 8}, {Name: "a", Kind: -1}, {Kind: 1}, {Name: "A", Kind: 7}, {Name: strings.Repeat("a", 21), Kind: 2}, {Name: "é\xff", Kind: 9}}
	for _, a := range wrong {
		for _, b := range wrong {
			wantSchema(t, []api.Col{a, b}, api.ErrSchema)
			wantSchema(t, with(with(columns(6), 1, a), 4, b), api.ErrSchema)
			wantSchema(t, with(with(columns(7), 0, a), 6, b), api.ErrSchema)
			wantSchema(t, append(columns(2), columns(2)[0], a, b), api.ErrSchema)
		}
	}
}

func TestRow(t *testing.T) { // P12.3: by hand
	l := []api.Col{{Name: "a", Kind: api.Int}, {Name: "b", Kind: api.Text}}
	for _, c := range []struct {
		r    api.Row
		want api.Errno
	}{
		{api.Row{number(1), text("x")}, api.OK},
		{api.Row{null, null}, api.OK},
		{api.Row{null, text("x")}, api.OK},
		{api.Row{number(1), null}, api.OK},
		{api.Row{number(0), number(0)}, api.OK}, // what is empty, too
		{nil, api.ErrType},
		{api.Row{}, api.ErrType},
		{api.Row{number(1)}, api.ErrType},
		{api.Row{text("x")}, api.ErrType},
		{api.Row{text("x"), number(1)}, api.ErrType},
		{api.Row{number(1), number(1)}, api.ErrType},
		{api.Row{text("x"), text("x")}, api.ErrType},
		{api.Row{number(1), text("x"), number(0)}, api.ErrType},
		{api.Row{number(1), text("x"), null}, api.ErrType},
		{api.Row{number(1), text("\xff")}, api.ErrType},
		{api.Row{number(1), {Null: true, S: "x"}}, api.ErrType},
	} {
		wantRow(t, l, c.r, c.want)
	}
}

func TestRowOfSoMany(t *testing.T) { // P12.3: as many values as columns
	for many := range 10 { // of no columns, and of more than may be, too
		l := columns(many)
		for values := range 12 {
			want := api.OK
			if values != many {
				want = api.ErrType
			}
			r := row(columns(values))
			wantRow(t, l, r, want)
			wantRow(t, l, slices.Repeat(api.Row{null}, values), want)
		}
		wantRow(t, l, make(api.Row, 100000), api.ErrType)
	}
	wantRow(t, nil, nil, api.OK)
	wantRow(t, []api.Col{}, api.Row{}, api.OK)
	wantRow(t, nil, api.Row{null}, api.ErrType)
}

func TestRowOfEachPlace(t *testing.T) { // P12.3: a value that may not be there
	l := append(columns(7), api.Col{Name: "more", Kind: api.Int})
	good := row(l)
	values := []api.Value{
		null, number(0), number(1), number(2), number(-1), text("a"), text("\xff"), text(strings.Repeat("a", 300)), text(strings.Repeat("a", 301)),
		{N: 1, S: "a"}, {Null: true, N: 1}, {Null: true, S: "a"},
	}
	for many := 1; many <= len(l); many++ {
		for i := range many {
			for _, v := range values {
				want := api.OK
				if !May(l[i].Kind, v) {
					want = api.ErrType
				}
				wantRow(t, l[:many], with(good[:many], i, v), want)
				for _, w := range values { // two that may not be
					r := with(good[:many], i, v)
					r[many-1-i] = w
					wantRow(t, l[:many], r, slowRow(l[:many], r))
				}
			}
			wantRow(t, l[:many], with(good[:many], i, null), api.OK)
			for _, kind := range noKinds { // nothing may be of what is no kind
				for _, v := range values {
					wantRow(t, with(l[:many], i, api.Col{Name: "x", Kind: kind}), with(good[:many], i, v), api.ErrType)
				}
			}
		}
	}
}

func TestRowOfAnyNames(t *testing.T) { // P12.3: of the columns their kinds alone count
	for _, name := range []string{"", "a", "A", "\xff", strings.Repeat("a", 21)} {
		for _, kind := range kinds {
			l := slices.Repeat([]api.Col{{Name: name, Kind: kind}}, 2)
			wantRow(t, l, row(l), api.OK)
			wantRow(t, l, api.Row{null, {N: 7, S: "a"}}, api.ErrType)
		}
	}
}

// someValues are some of all kinds, and some that are of none.
func someValues() []api.Value {
	l := []api.Value{
		null, {Null: true, N: 1}, {Null: true, N: -1}, {Null: true, S: "a"}, {Null: true, N: 1, S: "a"}, {Null: true, N: math.MinInt, S: "\xff"},
		{N: 1, S: "a"}, {N: 1, S: "b"}, {N: -1, S: "a"}, {N: math.MaxInt, S: "\xff"},
	}
	for _, n := range someNumbers {
		l = append(l, number(n))
	}
	for _, s := range someTexts {
		l = append(l, text(s))
	}
	return l
}

// drawn is a value of few numbers and letters, so that some are the same.
func drawn(from *rand.Rand) api.Value {
	v := api.Value{Null: from.Intn(5) == 0}
	if from.Intn(2) == 0 {
		v.N = someNumbers[from.Intn(len(someNumbers))]
	}
	if from.Intn(2) == 0 {
		for range from.Intn(4) {
			v.S += string([]byte{[]byte("\x00a\x80\xff")[from.Intn(4)]})
		}
	}
	return v
}

// checkOne asks that just one of the three holds of a and b.
func checkOne(t *testing.T, a, b api.Value) {
	t.Helper()
	ahead, behind, same := Compare(a, b) == -1, Compare(b, a) == -1, Same(a, b)
	held := 0
	for _, holds := range []bool{ahead, behind, same} {
		if holds {
			held++
		}
	}
	if held != 1 || same != Same(b, a) || same != (a == b) {
		t.Fatalf("%#v and %#v: ahead %v, behind %v, the same %v", a, b, ahead, behind, same)
	}
	wantCompare(t, a, b, slowCompare(a, b))
}

// checkThree asks that what stands ahead of what stands ahead does, too.
func checkThree(t *testing.T, a, b, c api.Value) {
	t.Helper()
	if Compare(a, b) <= 0 && Compare(b, c) <= 0 && Compare(a, c) != min(Compare(a, b), Compare(b, c)) {
		t.Fatalf("%#v, %#v and %#v: %d and %d, but %d", a, b, c, Compare(a, b), Compare(b, c), Compare(a, c))
	}
}

// checkNothing asks that v does not stand ahead of what is nothing, nor it of
// what is the same.
func checkNothing(t *testing.T, v api.Value) {
	t.Helper()
	if Compare(v, v) != 0 || !Same(v, v) {
		t.Fatalf("%#v is not what it is", v)
	}
	for _, kind := range kinds {
		if May(kind, v) && (Compare(v, null) < 0 || Same(v, null) != v.Null) {
			t.Fatalf("%#v stands ahead of what is nothing, or is it", v)
		}
	}
	for _, n := range someNumbers { // what is something does not stand ahead of any that is nothing
		if !v.Null && Compare(v, api.Value{Null: true, N: n, S: "a"}) != 1 {
			t.Fatalf("%#v is not behind what is nothing", v)
		}
	}
}

func TestOneOfThree(t *testing.T) { // P12.4: of chosen ones, all pairs and threes
	l := someValues()
	for _, a := range l {
		checkNothing(t, a)
		for _, b := range l {
			checkOne(t, a, b)
			for _, c := range l {
				checkThree(t, a, b, c)
			}
		}
	}
}

func TestOneOfThreeOfDrawn(t *testing.T) { // P12.4
	from := rand.New(rand.NewSource(4))
	for range 50000 {
		a, b, c := drawn(from), drawn(from), drawn(from)
		checkNothing(t, a)
		checkOne(t, a, b)
		checkThree(t, a, b, c)
	}
}

func TestSorted(t *testing.T) { // P12.4: so they stand in one order, however they stood
	from := rand.New(rand.NewSource(5))
	l := slices.Compact(slices.SortedFunc(slices.Values(someValues()), Compare))
	for i := 1; i < len(l); i++ {
		if Compare(l[i-1], l[i]) != -1 {
			t.Fatalf("%#v, and then %#v", l[i-1], l[i])
		}
	}
	for range 100 {
		m := slices.Clone(l)
		from.Shuffle(len(m), func(i, j int) { m[i], m[j] = m[j], m[i] })
		slices.SortFunc(m, Compare)
		if !slices.Equal(l, m) {
			t.Fatalf("%#v; want %#v", m, l)
		}
	}
}

func TestHandedInIsLeft(t *testing.T) { // R7, and R6: what stands behind the end is not read
	cols := append(columns(6), api.Col{Name: "c_a", Kind: 99}, api.Col{})
	values := append(row(columns(6)), api.Value{N: 5, S: "\xff"}, null)
	for i := range cols {
		for many := i; many <= len(cols); many++ {
			l, r := slices.Clone(cols), slices.Clone(values)
			for range 2 {
				wantSchema(t, l[i:many], slowSchema(slices.Clone(cols[i:many])))
				wantRow(t, l[i:many], r[i:many], slowRow(slices.Clone(cols[i:many]), slices.Clone(values[i:many])))
				wantRow(t, l[i:many], r[:many], slowRow(slices.Clone(cols[i:many]), slices.Clone(values[:many])))
			}
			if !slices.Equal(l, cols) || !slices.Equal(r, values) {
				t.Fatalf("handed in is now %#v, %#v", l, r)
			}
		}
	}
}

func FuzzMay(f *testing.F) { // P12.1
	f.Add(false, 2, "")
	f.Add(true, 0, "")
	f.Add(false, 0, "é")
	f.Add(false, 0, "\xff")
	f.Add(false, 0, "\xef\xbf\xbd")
	for _, s := range wrongs {
		f.Add(false, 0, s)
	}
	f.Fuzz(func(t *testing.T, nothing bool, n int, s string) {
		checkMay(t, api.Value{Null: nothing, N: n, S: s})
		checkMay(t, api.Value{Null: nothing, N: n})
		checkMay(t, text(s))
		checkMay(t, text("a"+s+"é"))
	})
}

func FuzzCompare(f *testing.F) { // P12.2, P12.4
	f.Add(true, 0, "", 0, "", 3, "a")
	f.Add(false, 3, "", -1, "", -1, "b")
	f.Add(false, 0, "a", 0, "ab", 0, "\xff")
	f.Fuzz(func(t *testing.T, nothing bool, n int, s string, m int, r string, k int, q string) {
		a, b, c := api.Value{Null: nothing, N: n, S: s}, api.Value{N: m, S: r}, api.Value{Null: nothing, N: k, S: q}
		for _, l := range [][]api.Value{{a, b, c}, {a, c, b}, {b, a, c}, {a, text(r), text(q)}, {text(s), text(r), text(q)}} {
			checkNothing(t, l[0])
			checkOne(t, l[0], l[1])
			checkThree(t, l[0], l[1], l[2])
		}
	})
}

func FuzzSchema(f *testing.F) { // P12.3
	f.Add("a", 1, "b", 6, 1, "x")
	f.Add("a_1", 2, "a_1", 7, -1, "\xff")
	f.Add("A", 0, "abcdefghijklmnopqrstu", 8, 0, "")
	f.Fuzz(func(t *testing.T, a string, kind int, b string, other, n int, s string) {
		l := []api.Col{{Name: a, Kind: kind}, {Name: b, Kind: other}}
		values := api.Row{number(n), text(s), {N: n, S: s}, null}
		for many := range 3 {
			wantSchema(t, l[:many], slowSchema(l[:many]))
			for i := range values {
				for j := range i + 1 {
					wantRow(t, l[:many], values[j:i], slowRow(l[:many], values[j:i]))
				}
			}
		}
	})
}
