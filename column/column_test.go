package column

import (
	"bytes"
	"fmt"
	"math"
	"math/rand"
	"slices"
	"strings"
	"testing"
	"unicode/utf8"

	"pilaster/api"
	"pilaster/boolrle"
	"pilaster/byterle"
	"pilaster/direct"
	"pilaster/ints"
	"pilaster/rle"
	"pilaster/texts"
)

// kinds are all that there are, first those of numbers, then those of texts.
var (
	kinds     = []int{1, 2, 3, 4, 5, 6, 7}
	ofNumbers = kinds[:5]
	ofLetters = kinds[5:]
)

// noKinds are none.
var noKinds = []int{math.MinInt, math.MinInt + 1, math.MinInt + 2, math.MinInt + 6, -1 << 32, -1<<32 + 2, -256, -254, -250, -7, -6, -2, -1, 0, 8, 9, 10, 16, 256, 257, 258, 262, 263, 1<<32 + 1, 1<<32 + 6, math.MaxInt - 1, math.MaxInt}

// farMany: ints that are not how many values there may be.
var farMany = []int{math.MinInt, math.MinInt + 1, -1 << 32, -1<<32 + 3, -4097, -4096, -9, -3, -2, -1, 4097, 4098, 4104, 8192, 1 << 16, 1 << 31, 1 << 32, 1<<32 + 3, math.MaxInt - 1, math.MaxInt}

// sizes: how many values there are where a byte, a run or all of them end.
var sizes = []int{0, 1, 2, 3, 4, 7, 8, 9, 10, 11, 16, 17, 23, 24, 25, 64, 511, 512, 513, 1040, 1041, 4088, 4089, 4095, 4096}

// rests: what may stand behind.
var rests = []string{"\x00", "\x01", "\x7f", "\x80", "\xff", "\x00\x00", "\x02\x0e", "\xff\x00", "\xff\x80", "\xff\x40", "\x40\x00\x80", "abc and more"}

// oddTexts are texts that are no right UTF-8.
var oddTexts = []string{"\xff", "\x80", "\xc3", "a\xff", "\xffa", "\xc0\x80", "\xed\xa0\x80", "\xf4\x90\x80\x80", "\xe2\x82", "aé\xc3", "\xef\xbf", strings.Repeat("a", 299) + "\xc3"}

// nothing is a value that is nothing.
var nothing = api.Value{Null: true}

// long is a text of so many bytes.
func long(many int) string { return strings.Repeat("x", many) }

// of are numbers as values.
func of(l ...int) []api.Value {
	out := make([]api.Value, len(l))
	for i, n := range l {
		out[i].N = n
	}
	return out
}

// ofTexts are texts as values.
func ofTexts(l ...string) []api.Value {
	out := make([]api.Value, len(l))
	for i, s := range l {
		out[i].S = s
	}
	return out
}

// with is l, with v at place i.
func with[T any](l []T, i int, v T) []T {
	l = slices.Clone(l)
	l[i] = v
	return l
}

// turns are so many values, these turn about.
func turns(many int, l ...api.Value) []api.Value {
	out := make([]api.Value, many)
	for i := range out {
		out[i] = l[i%len(l)]
	}
	return out
}

// told tells values by how many they are, and the first of them.
func told(l []api.Value) string {
	out := fmt.Sprintf("%d values:", len(l))
	for _, v := range l[:min(len(l), 16)] {
		if v.Null {
			out += " Null"
		}
		out += fmt.Sprintf(" %d%q", v.N, v.S[:min(len(v.S), 12)])
	}
	return out
}

// toldColumn tells a column.
func toldColumn(c api.Column) string {
	out := fmt.Sprintf("{%d, encoding %d, %d}", c.Many, c.Encoding, c.Texts)
	for _, s := range c.Streams {
		out += fmt.Sprintf(" %d: %d bytes %x", s.Kind, len(s.B), s.B[:min(len(s.B), 24)])
	}
	return out
}

// clone shares nothing with c.
func clone(c api.Column) api.Column {
	c.Streams = slices.Clone(c.Streams)
	for i := range c.Streams {
		c.Streams[i].B = bytes.Clone(c.Streams[i].B)
	}
	return c
}

// changed is a clone of c, changed.
func changed(c api.Column, change func(c *api.Column)) api.Column {
	c = clone(c)
	change(&c)
	return c
}

// sameStream tells whether two streams are of one kind, and of the same bytes.
func sameStream(a, b api.Stream) bool { return a.Kind == b.Kind && bytes.Equal(a.B, b.B) }

// same tells whether two columns are the same, stream by stream.
func same(a, b api.Column) bool {
	return a.Many == b.Many && a.Encoding == b.Encoding && a.Texts == b.Texts && slices.EqualFunc(a.Streams, b.Streams, sameStream)
}

// made is a column of these streams, whose kinds rise from Present on.
func made(many, encoding, words int, streams ...string) api.Column {
	c := api.Column{Many: many, Encoding: encoding, Texts: words}
	for i, s := range streams {
		c.Streams = append(c.Streams, api.Stream{Kind: 1 + i, B: []byte(s)})
	}
	return c
}

// truths are digits 0 and 1 as layer 6 has truths.
func truths(digits string) []byte {
	var packed []byte
	for i := range digits {
		if i%8 == 0 {
			packed = append(packed, 0)
		}
		packed[i/8] += (digits[i] - '0') << (7 - i%8)
	}
	b, e := byterle.Put(packed)
	if e != api.OK {
		panic(e)
	}
	return b
}

// row are numbers as layer 11 has them.
func row(l []int, signed bool) []byte {
	b, e := rle.Put(l, signed)
	if e != api.OK {
		panic(e)
	}
	return b
}

// presence is a stream that tells what is something, "" if all are.
func presence(l []api.Value) []byte {
	digits, whole := "", true
	for _, v := range l {
		if v.Null {
			digits, whole = digits+"0", false
		} else {
			digits += "1"
		}
	}
	if whole {
		return nil
	}
	return truths(digits)
}

// slowNumbers are numbers as chapter 14 has them.
func slowNumbers(kind int, l []int) []byte {
	digits := ""
	var thousands, left []int
	for _, n := range l {
		q := n / 1000
		if n%1000 < 0 {
			q--
		}
		thousands, left = append(thousands, q), append(left, n-q*1000)
		if kind == 1 {
			digits += fmt.Sprint(n)
		}
	}
	switch kind {
	case 1:
		return truths(digits)
	case 5:
		return append(row(thousands, true), row(left, false)...)
	}
	return row(l, true)
}

// slowTexts are texts as chapter 15 has them, behind no stream Present.
func slowTexts(l []string) api.Column {
	words := slices.Compact(slices.Sorted(slices.Values(l)))
	laid, size := words, []int{}
	if len(l) < 2*len(words) {
		laid = l
	}
	for _, s := range laid {
		size = append(size, len(s))
	}
	all := []byte(strings.Join(laid, ""))
	if len(l) < 2*len(words) {
		return api.Column{Encoding: 1, Streams: []api.Stream{{Kind: 2, B: all}, {Kind: 3, B: row(size, false)}}}
	}
	places := []int{}
	for _, s := range l {
		p, _ := slices.BinarySearch(words, s)
		places = append(places, p)
	}
	return api.Column{Encoding: 2, Texts: len(words), Streams: []api.Stream{{Kind: 2, B: row(places, false)}, {Kind: 3, B: row(size, false)}, {Kind: 4, B: all}}}
}

// mayBe is what chapter 12 says of a value of these kinds.
func mayBe(kind int, v api.Value) bool {
	switch {
	case v.Null:
		return v == nothing
	case kind == 1:
		return v == api.Value{} || v == api.Value{N: 1}
	case kind <= 5:
		return v.S == ""
	case kind == 6 && !utf8.ValidString(v.S):
		return false
	}
	return v.N == 0 && len(v.S) <= 300
}

// slowPut is P16.1's words.
func slowPut(kind int, l []api.Value) (api.Column, api.Errno) {
	if !slices.Contains(kinds, kind) {
		return api.Column{}, api.ErrArg
	}
	if len(l) > 4096 {
		return api.Column{}, api.ErrBig
	}
	var numbers []int
	var words []string
	for _, v := range l {
		if !mayBe(kind, v) {
			return api.Column{}, api.ErrType
		}
		if !v.Null {
			numbers, words = append(numbers, v.N), append(words, v.S)
		}
	}
	c := api.Column{Encoding: 1}
	if kind <= 5 {
		c.Streams = []api.Stream{{Kind: 2, B: slowNumbers(kind, numbers)}}
	} else {
		c = slowTexts(words)
	}
	c.Many = len(l)
	c.Streams = append([]api.Stream{{Kind: 1, B: presence(l)}}, c.Streams...)
	return c, api.OK
}

// slowPresence is which of so many values are something, as b tells it.
func slowPresence(b []byte, many int) ([]bool, bool) {
	if len(b) == 0 {
		return slices.Repeat([]bool{true}, many), true
	}
	l, rest, e := boolrle.Take(b, many)
	return l, e == api.OK && len(rest) == 0 && slices.Contains(l, false)
}

// slowSome are so many values that are something, of a column without Present.
func slowSome(kind int, c api.Column) (l []api.Value, ok bool) {
	if kind <= 5 {
		if c.Encoding != 1 || c.Texts != 0 || len(c.Streams) != 1 || c.Streams[0].Kind != 2 {
			return nil, false
		}
		l, e := ints.Take(kind, c.Streams[0].B, c.Many)
		return l, e == api.OK
	}
	words, e := texts.Take(c)
	for _, s := range words {
		if !mayBe(kind, api.Value{S: s}) {
			return nil, false
		}
		l = append(l, api.Value{S: s})
	}
	return l, e == api.OK
}

// slowTake is P16.2's words.
func slowTake(kind int, c api.Column) ([]api.Value, api.Errno) {
	if !slices.Contains(kinds, kind) || c.Many < 0 || c.Many > 4096 {
		return nil, api.ErrArg
	}
	if len(c.Streams) == 0 || c.Streams[0].Kind != 1 {
		return nil, api.ErrCorrupt
	}
	present, ok := slowPresence(c.Streams[0].B, c.Many)
	if !ok {
		return nil, api.ErrCorrupt
	}
	some := 0
	for _, there := range present {
		if there {
			some++
		}
	}
	l, ok := slowSome(kind, api.Column{Many: some, Encoding: c.Encoding, Texts: c.Texts, Streams: c.Streams[1:]})
	if !ok {
		return nil, api.ErrCorrupt
	}
	out := []api.Value{}
	for _, there := range present {
		if !there {
			out = append(out, nothing)
			continue
		}
		out, l = append(out, l[0]), l[1:]
	}
	return out, api.OK
}

// slowSize is a count of a column's bytes, one by one.
func slowSize(c api.Column) (n int) {
	for _, s := range c.Streams {
		for range s.B {
			n++
		}
	}
	return n
}

// wantPut asks that Put lays l down so.
func wantPut(t *testing.T, kind int, l []api.Value, want api.Column) {
	t.Helper()
	if got, e := Put(kind, l); e != api.OK || !same(got, want) {
		t.Fatalf("Put(%d, %s) = %s, %d; want %s", kind, told(l), toldColumn(got), e, toldColumn(want))
	}
}

// wantNoPut asks that Put refuses l by an error, with nothing beside it.
func wantNoPut(t *testing.T, kind int, l []api.Value, want api.Errno) {
	t.Helper()
	if got, e := Put(kind, l); e != want || !same(got, api.Column{}) {
		t.Fatalf("Put(%d, %s) = %s, %d; want the error %d", kind, told(l), toldColumn(got), e, want)
	}
}

// wantTake asks that Take tells so of c.
func wantTake(t *testing.T, kind int, c api.Column, want []api.Value) {
	t.Helper()
	if got, e := Take(kind, c); e != api.OK || !slices.Equal(got, want) {
		t.Fatalf("Take(%d, %s) = %s, %d; want %s", kind, toldColumn(c), told(got), e, told(want))
	}
}

// wantNoTake asks that Take refuses c by an error, with nothing beside it.
func wantNoTake(t *testing.T, kind int, c api.Column, want api.Errno) {
	t.Helper()
	if got, e := Take(kind, c); e != want || len(got) != 0 {
		t.Fatalf("Take(%d, %s) = %s, %d; want the error %d", kind, toldColumn(c), told(got), e, want)
	}
}

// wantCorrupt asks that Take refuses c for what it is.
func wantCorrupt(t *testing.T, kind int, c api.Column) {
	t.Helper()
	wantNoTake(t, kind, c, api.ErrCorrupt)
}

// wantSize asks that Size tells as many bytes.
func wantSize(t *testing.T, c api.Column, want int) {
	t.Helper()
	if got := Size(c); got != want {
		t.Fatalf("Size(%s) = %d; want %d", toldColumn(c), got, want)
	}
}

// checkTake holds Take against the slower reckoning, whatever it is given; what
// is taken can be laid down.
func checkTake(t *testing.T, kind int, c api.Column) {
	t.Helper()
	want, e := slowTake(kind, c)
	if e != api.OK {
		wantNoTake(t, kind, c, e)
		return
	}
	wantTake(t, kind, c, want)
	if len(want) != c.Many {
		t.Fatalf("Take(%d, %s) = %s", kind, toldColumn(c), told(want))
	}
	if _, e := Put(kind, want); e != api.OK {
		t.Fatalf("Put(%d, %s), of what was taken, = %d", kind, told(want), e)
	}
}

// wantBoth asks that l is laid down as P16.1 has it, and taken back; or that it
// is refused so.
func wantBoth(t *testing.T, kind int, l []api.Value) {
	t.Helper()
	want, e := slowPut(kind, l)
	if e != api.OK {
		wantNoPut(t, kind, l, e)
		return
	}
	wantPut(t, kind, l, want)
	wantTake(t, kind, want, l)
	wantSize(t, want, slowSize(want))
}

// ordinary are a few values of the kind, none of them nothing.
func ordinary(kind int) []api.Value {
	switch kind {
	case 1:
		return of(1, 0, 0, 1, 1)
	case 5:
		return of(1001, -1, 1001, math.MaxInt, 999, 1000, math.MinInt)
	case 6:
		return ofTexts("a", "", "é日😀", "ab", "\ufffd", "b\x00", long(300))
	case 7:
		return ofTexts("\xff", "a", "", "\x00\x80", "a\xc3", long(300))
	}
	return of(1, -1, 700, math.MaxInt, 0, math.MinInt, 12)
}

// lists are values of the kind that Put lays down, of few bytes, in each way.
func lists(kind int) [][]api.Value {
	some := ordinary(kind)
	from := rand.New(rand.NewSource(int64(kind)))
	out := [][]api.Value{
		nil, {nothing}, turns(9, nothing), turns(24, nothing), some[:1], some[:2], some,
		{some[0], nothing}, {nothing, some[0]}, {nothing, some[1], nothing}, {some[0], some[1], nothing, some[1]},
		turns(2, some[0]), turns(12, some[0], some[1]), turns(24, some[0], some[0], nothing), turns(13, append(some[:3:3], nothing)...),
		append(turns(9, nothing), some...), append(some[:len(some):len(some)], turns(9, nothing)...),
	}
	for _, nulls := range []int{0, 1, 5, 10} {
		out = append(out, drawn(from, kind, 20, 4, nulls), drawn(from, kind, 11, 20, nulls))
	}
	return out
}

// drawn are so many values of the kind by chance, of at most so many that are
// not the same; of 10 so many are nothing.
func drawn(from *rand.Rand, kind, many, choices, nulls int) []api.Value {
	choice := make([]api.Value, choices)
	shift, longest := from.Intn(64), []int{0, 1, 3, 12}[from.Intn(4)]
	for i := range choice {
		switch {
		case kind == 1:
			choice[i].N = from.Intn(2)
		case kind <= 5:
			choice[i].N = int(from.Uint64()) >> shift
		case kind == 6:
			choice[i].S = strings.Repeat([]string{"a", "é", "b", "日"}[from.Intn(4)], from.Intn(longest+1)) + "x😀"[:1+4*from.Intn(2)]
		default:
			b := make([]byte, from.Intn(longest+1))
			from.Read(b)
			choice[i].S = string(b)
		}
	}
	l := make([]api.Value, many)
	for i := range l {
		l[i] = choice[from.Intn(choices)]
		if from.Intn(10) < nulls {
			l[i] = nothing
		}
	}
	return l
}

// eachColumn calls f with each kind's lists, and how Put has to lay them down.
func eachColumn(t *testing.T, f func(kind int, l []api.Value, c api.Column)) {
	t.Helper()
	for _, kind := range kinds {
		for _, l := range lists(kind) {
			c, e := slowPut(kind, l)
			if e != api.OK {
				t.Fatal(kind, told(l), e)
			}
			f(kind, l, c)
		}
	}
}

func TestPut(t *testing.T) { // P16.1, P16.2: by hand, byte for byte
	n := nothing
	one := of(1)[0]
	for _, c := range []struct {
		kind int
		l    []api.Value
		want api.Column
	}{
		{2, []api.Value{n, one}, made(2, 1, 0, "\xff\x40", "\x42\x00\x80")}, // the chapter's
		{1, nil, made(0, 1, 0, "", "")},
		{2, []api.Value{}, made(0, 1, 0, "", "")},
		{5, nil, made(0, 1, 0, "", "")},
		{6, nil, made(0, 2, 0, "", "", "", "")},
		{7, []api.Value{}, made(0, 2, 0, "", "", "", "")},
		{1, of(1, 0, 1), made(3, 1, 0, "", "\xff\xa0")},
		{1, []api.Value{one, n, {}}, made(3, 1, 0, "\xff\xa0", "\xff\x80")},
		{1, []api.Value{n, n, one}, made(3, 1, 0, "\xff\x20", "\xff\x80")},
		{1, []api.Value{n}, made(1, 1, 0, "\xff\x00", "")},
		{2, []api.Value{n, n}, made(2, 1, 0, "\xff\x00", "")},
		{3, of(-1), made(1, 1, 0, "", "\x40\x00\x80")},
		{4, of(5), made(1, 1, 0, "", "\x46\x00\xa0")},
		{4, []api.Value{{N: 5}, n}, made(2, 1, 0, "\xff\x80", "\x46\x00\xa0")},
		{5, of(1001, 1001, 1001), made(3, 1, 0, "", "\x00\x02\x00\x01")},
		{5, []api.Value{{N: 1001}, n, {N: 1001}, {N: 1001}}, made(4, 1, 0, "\xff\xb0", "\x00\x02\x00\x01")},
		{5, turns(9, n), made(9, 1, 0, "\xfe\x00\x00", "")},
		{2, turns(24, n), made(24, 1, 0, "\x00\x00", "")},
		{6, ofTexts("ab", "c"), made(2, 1, 0, "", "abc", "\x42\x01\x90")},
		{6, []api.Value{{S: "ab"}, n, {S: "c"}}, made(3, 1, 0, "\xff\xa0", "abc", "\x42\x01\x90")},
		{6, ofTexts("b", "a", "b", "b"), made(4, 2, 2, "", "\x40\x03\xb0", "\x40\x01\xc0", "ab")},
		{7, []api.Value{{S: "b"}, n, {S: "a"}, {S: "b"}, {S: "b"}}, made(5, 2, 2, "\xff\xb8", "\x40\x03\xb0", "\x40\x01\xc0", "ab")},
		{6, []api.Value{n}, made(1, 2, 0, "\xff\x00", "", "", "")}, // of texts that are none
		{7, []api.Value{n, n}, made(2, 2, 0, "\xff\x00", "", "", "")},
		{7, ofTexts("\xff"), made(1, 1, 0, "", "\xff", "\x40\x00\x80")},
		{6, ofTexts(""), made(1, 1, 0, "", "", "\x40\x00\x00")}, // an empty text is something
		{6, []api.Value{n, {}}, made(2, 1, 0, "\xff\x40", "", "\x40\x00\x00")},
		{2, []api.Value{n, {}}, made(2, 1, 0, "\xff\x40", "\x40\x00\x00")}, // and so is 0
		{1, []api.Value{n, {}}, made(2, 1, 0, "\xff\x40", "\xff\x00")},
	} {
		wantPut(t, c.kind, c.l, c.want)
		wantTake(t, c.kind, c.want, c.l)
		wantBoth(t, c.kind, c.l)
	}
}

func TestPutOfEachList(t *testing.T) { // P16.1, P16.3: of each kind, of each number: all nothing, none, some
	eachColumn(t, func(kind int, l []api.Value, _ api.Column) { wantBoth(t, kind, l) })
	for _, kind := range kinds {
		some := ordinary(kind)
		for _, many := range sizes {
			for _, l := range [][]api.Value{
				turns(many, nothing), turns(many, some[0]), turns(many, some...), turns(many, nothing, some[1]), turns(many, some[1], nothing),
				turns(many, append(some[:2:2], nothing)...), turns(many, nothing, nothing, some[0], some[1], nothing),
			} {
				if many > 600 && kind > 5 { // the long one takes its time
					l = slices.Clone(l)
					for i, v := range l {
						l[i].S = v.S[:min(len(v.S), 2)]
						if !mayBe(kind, l[i]) {
							l[i].S = ""
						}
					}
				}
				wantBoth(t, kind, l)
			}
			for _, i := range []int{0, many / 2, many - 1} { // one that is nothing, and one that is not
				if many > 0 {
					wantBoth(t, kind, with(turns(many, some[0]), i, nothing))
					wantBoth(t, kind, with(turns(many, nothing), i, some[1]))
				}
			}
		}
	}
}

func TestPutOfEachShape(t *testing.T) { // P16.1: how many, the streams' kinds, their order, also of empty ones
	seen := map[string]int{}
	eachColumn(t, func(kind int, l []api.Value, _ api.Column) {
		c, e := Put(kind, l)
		shape := ""
		for _, s := range c.Streams {
			shape += fmt.Sprint(s.Kind)
		}
		want := "12"
		if kind > 5 && c.Encoding == api.Plain {
			want = "123"
		} else if kind > 5 {
			want = "1234"
		}
		whole := !slices.Contains(l, nothing)
		if e != api.OK || c.Many != len(l) || shape != want || whole != (len(c.Streams[0].B) == 0) || c.Encoding == api.Plain && c.Texts != 0 || kind <= 5 && c.Encoding != api.Plain {
			t.Fatalf("Put(%d, %s) = %s, %d", kind, told(l), toldColumn(c), e)
		}
		seen[shape]++
	})
	if len(seen) != 3 || seen["12"] < 50 || seen["123"] < 10 || seen["1234"] < 10 {
		t.Fatal(seen)
	}
}

func TestPutOfNoKind(t *testing.T) { // P16.1: whatever the values
	for _, kind := range noKinds {
		for _, l := range [][]api.Value{nil, {}, {nothing}, of(0), of(1), ofTexts("a"), {{N: 1, S: "a"}}, {{Null: true, N: 1}}, turns(4096, nothing), turns(4097, nothing), turns(4097, api.Value{N: 1, S: "a"})} {
			wantNoPut(t, kind, l, api.ErrArg)
		}
	}
}

func TestPutOfTooMany(t *testing.T) { // P16.1: 4096 at most, nothing counts too, and whether they may be is not asked
	for _, kind := range kinds {
		some := ordinary(kind)[:2]
		wrong := api.Value{N: 2, S: "a"}
		for _, many := range []int{4097, 4098, 4104, 8192, 1 << 16} {
			for _, l := range [][]api.Value{turns(many, nothing), turns(many, some...), turns(many, some[0], nothing), turns(many, wrong)} {
				wantNoPut(t, kind, l, api.ErrBig)
			}
			for _, i := range []int{0, many / 2, 4095, 4096, many - 1} {
				wantNoPut(t, kind, with(turns(many, some...), i, wrong), api.ErrBig)
				wantNoPut(t, kind, with(turns(many, some...), i, api.Value{Null: true, N: 1}), api.ErrBig)
				wantNoPut(t, kind, with(turns(many, some...), i, api.Value{S: long(301)}), api.ErrBig)
			}
		}
		for _, many := range []int{4094, 4095, 4096} {
			wantBoth(t, kind, turns(many, some...))
			wantBoth(t, kind, turns(many, some[0], nothing))
			wantNoPut(t, kind, with(turns(many, some...), many-1, wrong), api.ErrType)
		}
	}
}

func TestPutOfWrongValues(t *testing.T) { // P16.1: first, in the middle and last
	never := []api.Value{
		{N: 1, S: "a"}, {N: -1, S: "a"}, {N: math.MinInt, S: "\xff"}, {N: 1, S: long(301)},
		{Null: true, N: 1}, {Null: true, N: -1}, {Null: true, N: math.MaxInt}, {Null: true, S: "a"}, {Null: true, S: "\x00"}, {Null: true, N: 1, S: "a"}, {Null: true, S: long(301)},
	}
	wrong := map[int][]api.Value{1: of(2, -1, 3, 255, 256, 1<<32, 1<<32+1, math.MinInt, math.MinInt+1, math.MaxInt)}
	for _, kind := range ofNumbers {
		wrong[kind] = append(wrong[kind], ofTexts("a", "0", "1", "\x00", " ", "\xff", long(300), long(301))...)
	}
	for _, kind := range ofLetters {
		wrong[kind] = append(of(1, -1, 48, 1<<32, math.MinInt, math.MaxInt), ofTexts(long(301), long(302), long(556), long(1<<16), strings.Repeat("日", 101))...)
	}
	wrong[6] = append(wrong[6], ofTexts(oddTexts...)...)
	for _, kind := range kinds {
		for _, v := range append(wrong[kind], never...) {
			if mayBe(kind, v) {
				t.Fatal(kind, v)
			}
			for _, many := range []int{1, 2, 3, 9, 600} {
				for _, i := range []int{0, many / 2, many - 1} {
					for _, l := range [][]api.Value{turns(many, nothing), turns(many, ordinary(kind)...)} {
						wantNoPut(t, kind, with(l, i, v), api.ErrType)
					}
				}
			}
			for _, i := range []int{0, 2048, 4095} {
				wantNoPut(t, kind, with(turns(4096, ordinary(kind)[0]), i, v), api.ErrType)
			}
		}
	}
}

func TestPutOfEdges(t *testing.T) { // P16.1, P16.3: the least and the greatest that each kind may be, and beyond
	for n := -3; n <= 4; n++ {
		wantBoth(t, 1, of(n))
		wantBoth(t, 1, of(0, 1, n, 0))
		if _, e := Put(1, of(n)); (e == api.OK) != (n == 0 || n == 1) {
			t.Fatal(n, e)
		}
	}
	far := []int{math.MinInt, math.MinInt + 1, math.MinInt + 807, math.MinInt + 808, -1 << 32, -1001, -1000, -999, -1, 0, 1, 999, 1000, 1001, 1 << 32, math.MaxInt - 807, math.MaxInt - 806, math.MaxInt - 1, math.MaxInt}
	for _, kind := range ofNumbers[1:] {
		for _, n := range far {
			c, e := Put(kind, of(n))
			if e != api.OK {
				t.Fatal(kind, n, e)
			}
			wantTake(t, kind, c, of(n))
			for _, m := range far {
				wantBoth(t, kind, []api.Value{{N: n}, nothing, {N: m}, {N: n}})
			}
		}
		wantBoth(t, kind, of(far...))
		wantBoth(t, kind, turns(600, of(far...)...))
	}
}

func TestPutOfTexts(t *testing.T) { // P16.1, P16.3: each size, few words and many, right UTF-8 and not
	for _, kind := range ofLetters {
		for n := range 310 {
			for _, s := range []string{long(n), strings.Repeat("é", n/2) + "e"[:n%2], strings.Repeat("\x00", n)} {
				wantBoth(t, kind, ofTexts(s))
				wantBoth(t, kind, []api.Value{{S: s}, nothing, {S: s}})
				if _, e := Put(kind, ofTexts(s)); (e == api.OK) != (n <= 300) {
					t.Fatal(kind, n, e)
				}
			}
		}
		for words := 1; words <= 40; words++ {
			for _, d := range []int{-1, 0, 1} { // just twice as many texts as words, nothing does not count
				l := make([]api.Value, 0, 4*words)
				for i := range 2*words + d {
					l = append(l, api.Value{S: fmt.Sprintf("w%03d", i%words)}, nothing)
				}
				wantBoth(t, kind, l)
				c, e := Put(kind, l)
				if e != api.OK || c.Many != len(l) || (c.Encoding == api.Dictionary) != (d >= 0) || c.Texts != words*(c.Encoding-1) {
					t.Fatalf("Put(%d, %s), of %d words = %s, %d", kind, told(l), words, toldColumn(c), e)
				}
			}
		}
		full := slices.Repeat(ofTexts(long(300)), 4096)
		wantBoth(t, kind, full)
		for i := range full {
			full[i].S = fmt.Sprintf("%0300d", 4096-i)
		}
		wantBoth(t, kind, full)
		for i := range 2048 {
			full[2*i] = nothing
		}
		wantBoth(t, kind, full)
	}
	for _, s := range oddTexts {
		for _, l := range [][]api.Value{ofTexts(s), ofTexts("a", s), ofTexts(s, s, s), {nothing, {S: s}, nothing}} {
			wantNoPut(t, 6, l, api.ErrType)
			wantBoth(t, 7, l)
		}
	}
	for c := range 256 {
		s := string([]byte{byte(c)})
		for _, kind := range ofLetters {
			wantBoth(t, kind, ofTexts(s, "a"+s, s+s, ""))
			wantBoth(t, kind, ofTexts(s, s, s, s))
		}
	}
}

func TestTakeOfEachKind(t *testing.T) { // P16.2: of each column as each other kind
	rows := func(kind int) bool { return kind >= 2 && kind <= 4 }
	eachColumn(t, func(kind int, l []api.Value, c api.Column) {
		for _, as := range kinds {
			checkTake(t, as, c)
			right := !slices.ContainsFunc(l, func(v api.Value) bool { return !mayBe(as, v) })
			switch {
			case as == kind || rows(as) && rows(kind) || as > 5 && kind > 5 && right:
				wantTake(t, as, c, l)
			case (as > 5) != (kind > 5) || !right && as > 5:
				wantCorrupt(t, as, c)
			}
		}
		for _, as := range noKinds {
			wantNoTake(t, as, c, api.ErrArg)
			wantNoTake(t, as, changed(c, func(c *api.Column) { c.Streams = nil }), api.ErrArg)
			wantNoTake(t, as, changed(c, func(c *api.Column) { c.Many = -1 }), api.ErrArg)
		}
	})
	for _, kind := range append(noKinds, kinds...) {
		checkTake(t, kind, api.Column{})
		checkTake(t, kind, api.Column{Encoding: 1})
		checkTake(t, kind, api.Column{Encoding: 1, Streams: []api.Stream{{Kind: 1}}})
	}
}

func TestTakeOfCutStreams(t *testing.T) { // P16.2: each stream cut at each place
	eachColumn(t, func(kind int, _ []api.Value, c api.Column) {
		for i, s := range c.Streams {
			for n := range s.B {
				cut := changed(c, func(c *api.Column) { c.Streams[i].B = c.Streams[i].B[:n] })
				checkTake(t, kind, cut)
				checkTake(t, kind, changed(cut, func(c *api.Column) { c.Streams[i].B = s.B[n:] }))
				// Without a stream Present truths that stood alone are the first of more.
				if kind != 1 || i > 0 || n > 0 {
					wantCorrupt(t, kind, cut)
				}
			}
		}
	})
	wantTake(t, 1, made(2, 1, 0, "", "\xff\x80"), of(1, 0)) // that was 1 and Null
	wantCorrupt(t, 1, made(2, 1, 0, "\xff", "\xff\x80"))
}

func TestTakeOfBytesBehind(t *testing.T) { // P16.2
	eachColumn(t, func(kind int, l []api.Value, c api.Column) {
		for i, s := range c.Streams {
			for _, rest := range append(rests, string(s.B)+"\x00") {
				more := changed(c, func(c *api.Column) { c.Streams[i].B = append(c.Streams[i].B, rest...) })
				checkTake(t, kind, more)
				if i > 0 || len(s.B) > 0 || len(l) == 0 { // a stream Present that is not there may begin so
					wantCorrupt(t, kind, more)
				}
			}
		}
	})
	wantTake(t, 1, made(3, 1, 0, "\xff\xc0", "\xff\x80"), []api.Value{{N: 1}, {}, nothing}) // that was 1, 0, 0
	wantCorrupt(t, 2, made(2, 1, 0, "\xff\x40\x00", "\x42\x00\x80"))
	wantCorrupt(t, 2, made(2, 1, 0, "\xff\x40", "\x42\x00\x80\x42\x00\x80"))
}

func TestTakeOfTurnedBytes(t *testing.T) { // P16.2
	eachColumn(t, func(kind int, _ []api.Value, c api.Column) {
		by := 1 // of few bytes each to each other one, of more a few of them
		if slowSize(c) > 20 {
			by = 21
		}
		for i, s := range c.Streams {
			for k, was := range s.B {
				turned := clone(c)
				for mask := 1; mask < 256; mask += by {
					turned.Streams[i].B[k] = was ^ byte(mask)
					checkTake(t, kind, turned)
				}
				for bit := range 8 {
					turned.Streams[i].B[k] = was ^ 1<<bit
					checkTake(t, kind, turned)
				}
			}
		}
	})
}

func TestTakeOfOtherStreams(t *testing.T) { // P16.2: missing, twice, in another order, of another kind, none at all
	eachColumn(t, func(kind int, l []api.Value, c api.Column) {
		n := len(c.Streams)
		wantCorrupt(t, kind, changed(c, func(c *api.Column) { c.Streams = nil }))
		wantCorrupt(t, kind, changed(c, func(c *api.Column) { c.Streams = []api.Stream{} }))
		for i := range n {
			s := c.Streams[i]
			wantCorrupt(t, kind, changed(c, func(c *api.Column) { c.Streams = slices.Delete(c.Streams, i, i+1) }))
			wantCorrupt(t, kind, changed(c, func(c *api.Column) { c.Streams = c.Streams[:i] }))
			for k := range n + 1 {
				wantCorrupt(t, kind, changed(c, func(c *api.Column) { c.Streams = slices.Insert(c.Streams, k, s) }))
				wantCorrupt(t, kind, changed(c, func(c *api.Column) { c.Streams = slices.Insert(c.Streams, k, api.Stream{Kind: s.Kind}) }))
			}
			for k := range i {
				wantCorrupt(t, kind, changed(c, func(c *api.Column) { c.Streams[i], c.Streams[k] = c.Streams[k], c.Streams[i] }))
				wantCorrupt(t, kind, changed(c, func(c *api.Column) { // the bytes stay, the kinds change places
					c.Streams[i].Kind, c.Streams[k].Kind = c.Streams[k].Kind, c.Streams[i].Kind
				}))
			}
			for _, other := range []int{math.MinInt, -1, 0, 1, 2, 3, 4, 5, 257, 258, 1<<32 + 1, 1<<32 + 2, math.MaxInt} {
				if other != s.Kind {
					wantCorrupt(t, kind, changed(c, func(c *api.Column) { c.Streams[i].Kind = other }))
				}
			}
		}
		for _, more := range []int{-1, 0, 1, 2, 3, 4, 5} {
			wantCorrupt(t, kind, changed(c, func(c *api.Column) { c.Streams = append(c.Streams, api.Stream{Kind: more}) }))
		}
		wantTake(t, kind, changed(c, func(c *api.Column) { // empty ones that are there, not nil
			for i := range c.Streams {
				c.Streams[i].B = append([]byte{}, c.Streams[i].B...)
			}
		}), l)
	})
}

func TestTakeOfOtherEncodings(t *testing.T) { // P16.2
	eachColumn(t, func(kind int, _ []api.Value, c api.Column) {
		for _, encoding := range []int{math.MinInt, math.MinInt + 1, -2, -1, 0, 1, 2, 3, 4, 257, 258, 1<<32 + 1, 1<<32 + 2, math.MaxInt} {
			if encoding != c.Encoding {
				wantCorrupt(t, kind, changed(c, func(c *api.Column) { c.Encoding = encoding }))
			}
		}
	})
}

func TestTakeOfOtherNumbers(t *testing.T) { // P16.2: one less, one more, and beyond 0 to 4096
	eachColumn(t, func(kind int, l []api.Value, c api.Column) {
		for _, many := range farMany {
			wantNoTake(t, kind, changed(c, func(c *api.Column) { c.Many = many }), api.ErrArg)
			wantNoTake(t, kind, changed(c, func(c *api.Column) { c.Many, c.Streams, c.Encoding = many, nil, 0 }), api.ErrArg)
		}
		for _, many := range []int{0, 1, len(l) - 1, len(l) + 1, len(l) + 8, 2 * len(l), 4095, 4096} {
			other := changed(c, func(c *api.Column) { c.Many = many })
			checkTake(t, kind, other)
			// Truths fill their last byte up: of no other is it a few more, or less.
			if many != len(l) && kind != 1 && !slices.Contains(l, nothing) && many >= 0 {
				wantCorrupt(t, kind, other)
			}
		}
	})
	wantTake(t, 1, made(3, 1, 0, "", "\xff\x80"), of(1, 0, 0))
	wantTake(t, 1, made(8, 1, 0, "", "\xff\x80"), of(1, 0, 0, 0, 0, 0, 0, 0))
	wantCorrupt(t, 1, made(9, 1, 0, "", "\xff\x80"))
	for many, present := range map[int]string{2: "\xff\x40", 8: "\xff\x40", 9: "\xfe\x40\x00"} { // nothing behind what is something
		wantTake(t, 2, made(many, 1, 0, present, "\x42\x00\x80"), with(turns(many, nothing), 1, api.Value{N: 1}))
	}
	wantCorrupt(t, 2, made(1, 1, 0, "\xff\x40", "\x42\x00\x80"))
	wantCorrupt(t, 2, made(9, 1, 0, "\xff\x40", "\x42\x00\x80"))
	wantCorrupt(t, 2, made(0, 1, 0, "", "\x42\x00\x80"))
	wantCorrupt(t, 2, made(2, 1, 0, "", "\x42\x00\x80"))
	wantTake(t, 2, made(1, 1, 0, "", "\x42\x00\x80"), of(1))
}

func TestTakeOfOtherTexts(t *testing.T) { // P16.2: of numbers it is 0, of texts as chapter 15 has it
	eachColumn(t, func(kind int, l []api.Value, c api.Column) {
		near := []int{0, 1, 2, c.Texts - 1, c.Texts + 1, c.Many, len(l), 4095, 4096}
		for _, words := range append(near, farMany...) {
			other := changed(c, func(c *api.Column) { c.Texts = words })
			checkTake(t, kind, other)
			switch {
			case words == c.Texts || kind > 5 && c.Encoding == api.Plain: // there is nothing that it would tell
				wantTake(t, kind, other, l)
			default:
				wantCorrupt(t, kind, other)
			}
		}
	})
}

func TestTakeOfPresent(t *testing.T) { // P16.2: as chapter 13 takes it
	for _, c := range []struct {
		many int
		b    string
	}{
		{1, "\xff\x80"}, {3, "\xff\xe0"}, {8, "\xff\xff"}, {24, "\x00\xff"}, // all are something
		{3, "\xff\xa1"}, {3, "\xff\xb0"}, {1, "\xff\x40"}, // a bit behind the last one
		{3, "\xff"}, {3, "\x00"}, {3, "\x00\x40"}, {3, "\xfe\x40\x00"}, {9, "\xff\x40"}, {0, "\x00"}, {0, "\xff\x00"},
	} {
		data := slices.Repeat([]bool{true}, c.many)
		for n := range c.many + 1 {
			b, e := boolrle.Put(data[:n])
			if e != api.OK {
				t.Fatal(e)
			}
			wantCorrupt(t, 1, made(c.many, 1, 0, c.b, string(b)))
			wantCorrupt(t, 2, made(c.many, 1, 0, c.b, string(row(make([]int, n), true))))
			wantCorrupt(t, 6, made(c.many, 1, 0, c.b, "", string(row(make([]int, n), false))))
		}
	}
	wantTake(t, 2, made(3, 1, 0, "\xff\x00", ""), turns(3, nothing))
	wantTake(t, 7, made(3, 1, 0, "\xff\x00", "", ""), turns(3, nothing)) // no texts as they are
	wantTake(t, 7, made(3, 1, 9, "\xff\x00", "", ""), turns(3, nothing))
	wantTake(t, 7, made(3, 2, 0, "\xff\x00", "", "", ""), turns(3, nothing))
	for many := range 4 { // all of two bytes
		for x := range 1 << 16 {
			b := string([]byte{byte(x >> 8), byte(x)})
			for _, some := range []string{"", "\x42\x00\x80", "\x42\x01\xa0", "\x00\x02"} {
				if x&0x0f == 0 || x>>8 == 0xff {
					checkTake(t, 3, made(many, 1, 0, b, some))
				}
			}
		}
	}
}

func TestTakeOfWrongTexts(t *testing.T) { // P16.2: texts that may not be of the kind
	for _, s := range oddTexts {
		for _, l := range [][]string{{s}, {"a", s}, {s, "a"}, {"a", s, "b"}} {
			size := []int{}
			for _, s := range l {
				size = append(size, len(s))
			}
			c := made(len(l), 1, 0, "", strings.Join(l, ""), string(row(size, false)))
			wantTake(t, 7, c, ofTexts(l...))
			wantCorrupt(t, 6, c)
		}
		// A word that no text is, is not asked.
		word := made(2, 2, 2, "", string(row([]int{0, 0}, false)), string(row([]int{1, len(s)}, false)), "\x01"+s)
		wantTake(t, 7, word, ofTexts("\x01", "\x01"))
		wantTake(t, 6, word, ofTexts("\x01", "\x01"))
		for _, places := range [][]int{{1, 0}, {0, 1}, {1, 1}} {
			word.Streams[1].B = row(places, false)
			wantCorrupt(t, 6, word)
			checkTake(t, 7, word)
		}
	}
	// Two letters that are right, the bytes of the one cut by another length.
	wantTake(t, 6, made(2, 1, 0, "", "éé", string(row([]int{2, 2}, false))), ofTexts("é", "é"))
	wantCorrupt(t, 6, made(2, 1, 0, "", "éé", string(row([]int{1, 3}, false))))
	wantTake(t, 7, made(2, 1, 0, "", "éé", string(row([]int{1, 3}, false))), ofTexts("\xc3", "\xa9é"))
	for _, size := range []int{299, 300, 301, 302} {
		for _, kind := range ofLetters {
			c := made(2, 1, 0, "\xff\x40", long(size), string(row([]int{size}, false)))
			if size <= 300 {
				wantTake(t, kind, c, []api.Value{nothing, {S: long(size)}})
			} else {
				wantCorrupt(t, kind, c)
			}
		}
	}
}

func TestTakeOfOtherRuns(t *testing.T) { // P16.2: what Put would lay down otherwise is taken, if nothing is against it
	alone := func(l []int, signed bool) (out string) { // each number as a run of its own
		for _, n := range l {
			b, e := direct.Put([]int{n}, signed)
			if e != api.OK {
				t.Fatal(e)
			}
			out += string(b)
		}
		return out
	}
	wantTake(t, 2, made(4, 1, 0, "\xff\xb0", alone([]int{5, 5, 5}, true)), []api.Value{{N: 5}, nothing, {N: 5}, {N: 5}})
	wantTake(t, 5, made(3, 1, 0, "", alone([]int{1, 1, 1}, true)+alone([]int{1, 1, 1}, false)), of(1001, 1001, 1001))
	wantTake(t, 6, made(4, 1, 0, "", "aaaa", alone([]int{1, 1, 1, 1}, false)), ofTexts("a", "a", "a", "a")) // few words as they are
	wantTake(t, 6, made(1, 2, 1, "", alone([]int{0}, false), alone([]int{1}, false), "a"), ofTexts("a"))
	wantCorrupt(t, 5, made(1, 1, 0, "", alone([]int{1}, true)+alone([]int{1000}, false))) // 1000 and more is not what is left
	wantCorrupt(t, 5, made(1, 1, 0, "", alone([]int{math.MaxInt}, true)+alone([]int{0}, false)))
}

func TestSize(t *testing.T) { // P16.2
	wantSize(t, api.Column{}, 0)
	wantSize(t, api.Column{Many: 9, Encoding: 7, Texts: -5}, 0) // the streams alone
	wantSize(t, api.Column{Streams: []api.Stream{}}, 0)
	wantSize(t, made(0, 0, 0, "", "", ""), 0)
	wantSize(t, made(2, 1, 0, "\xff\x40", "\x42\x00\x80"), 5)
	wantSize(t, made(0, 0, 0, "a"), 1)
	wantSize(t, made(0, 0, 0, "", "", "abc", "", "de", "f"), 6)
	wantSize(t, api.Column{Streams: []api.Stream{{Kind: 3, B: []byte("ab")}, {Kind: -1, B: []byte("c")}, {Kind: 3, B: []byte("ab")}}}, 5) // whatever their kinds
	big := bytes.Repeat([]byte("x"), 1<<20)
	wantSize(t, api.Column{Streams: slices.Repeat([]api.Stream{{Kind: 2, B: big}}, 300)}, 300<<20)
	wantSize(t, api.Column{Streams: []api.Stream{{Kind: 1, B: big[:3]}, {Kind: 2, B: big[:0]}}}, 3) // the room behind is none
	eachColumn(t, func(kind int, l []api.Value, c api.Column) {
		laid, e := Put(kind, l)
		if e != api.OK {
			t.Fatal(e)
		}
		wantSize(t, laid, slowSize(c))
	})
}

func TestBackAgain(t *testing.T) { // P16.3: of values drawn, of which many are nothing, and few
	from := rand.New(rand.NewSource(16))
	for n := range 1500 {
		kind, nulls := kinds[n%7], []int{0, 1, 5, 9, 10}[n%5]
		many := from.Intn(120)
		if n%40 == 0 {
			many = from.Intn(4097)
		}
		for _, choices := range []int{1, 3, 1 + many/3, 1 + 2*many} {
			l := drawn(from, kind, many, choices, nulls)
			c, e := Put(kind, l)
			if e != api.OK {
				t.Fatalf("Put(%d, %s) = %d", kind, told(l), e)
			}
			wantTake(t, kind, c, l)
			if n%3 == 0 {
				wantBoth(t, kind, l)
			}
		}
	}
}

func TestTwoWrong(t *testing.T) { // R3: the error that the chapter names first
	wrongs := []func(c *api.Column){
		func(c *api.Column) { c.Encoding = 3 },
		func(c *api.Column) { c.Texts = -1 },
		func(c *api.Column) { c.Streams = c.Streams[1:] },
		func(c *api.Column) { c.Streams = nil },
		func(c *api.Column) { c.Streams[0].Kind = 2 },
		func(c *api.Column) { c.Streams[0].B = []byte{0xff} },
		func(c *api.Column) { c.Streams[1].B = append(c.Streams[1].B, 0) },
		func(c *api.Column) { c.Streams[1].B = []byte{0x40} },
		func(c *api.Column) { *c = api.Column{} },
	}
	eachColumn(t, func(kind int, _ []api.Value, c api.Column) {
		for _, wrong := range wrongs {
			bad := changed(c, wrong)
			for _, many := range farMany {
				wantNoTake(t, kind, changed(bad, func(c *api.Column) { c.Many = many }), api.ErrArg)
			}
			for _, none := range noKinds {
				wantNoTake(t, none, bad, api.ErrArg)
			}
			for _, other := range wrongs {
				if len(bad.Streams) > 1 {
					checkTake(t, kind, changed(bad, other))
				}
			}
		}
	})
	wrong := turns(4097, api.Value{N: 2, S: "a"})
	for _, kind := range kinds {
		wantNoPut(t, kind, wrong, api.ErrBig)
		wantNoPut(t, kind, wrong[:4096], api.ErrType)
	}
	for _, none := range noKinds {
		wantNoPut(t, none, wrong, api.ErrArg)
		wantNoPut(t, none, wrong[:1], api.ErrArg)
		wantNoTake(t, none, api.Column{Many: -1}, api.ErrArg)
	}
}

func TestRoomBehind(t *testing.T) { // R6: what stands behind an end is not there
	for _, kind := range kinds {
		room := append(turns(12, append(ordinary(kind), nothing)...), api.Value{N: 2, S: "a"}, nothing, api.Value{})
		for n := range room {
			if n <= 12 {
				wantBoth(t, kind, room[:n])
			} else {
				wantNoPut(t, kind, room[:n], api.ErrType)
			}
		}
	}
	eachColumn(t, func(kind int, l []api.Value, c api.Column) {
		for _, rest := range rests {
			wantTake(t, kind, changed(c, func(c *api.Column) {
				for k, s := range c.Streams {
					c.Streams[k].B = append(s.B, rest...)[:len(s.B)]
				}
				c.Streams = append(c.Streams, api.Stream{Kind: 2, B: []byte(rest)})[:len(c.Streams)]
			}), l)
		}
	})
}

// spoil changes all bytes and streams of a column, also the room behind them;
// none of its streams may go with another.
func spoil(t *testing.T, c api.Column) {
	t.Helper()
	was := clone(c)
	for i, s := range c.Streams {
		for k := range s.B[:cap(s.B)] {
			s.B[:cap(s.B)][k] ^= 0x55
		}
		for k := i + 1; k < len(c.Streams); k++ {
			if !sameStream(c.Streams[k], was.Streams[k]) {
				t.Fatalf("%s: a stream goes with another", toldColumn(was))
			}
		}
	}
	for i := range c.Streams[:cap(c.Streams)] {
		c.Streams[:cap(c.Streams)][i] = api.Stream{Kind: 9}
	}
}

// TestValuesAreLeft: values that are handed in, and the room behind them, stay
// as they were, and what is answered is the caller's own.
func TestValuesAreLeft(t *testing.T) { // R7
	for _, kind := range append([]int{0, 8}, kinds...) {
		some := lists(max(1, min(kind, 7)))
		for _, l := range append(some, turns(4097, nothing), []api.Value{{N: 2, S: "a"}, nothing}) { // some are refused
			room := append(slices.Clone(l), api.Value{S: "room"}, nothing, api.Value{N: 7})
			handed := slices.Clone(room)
			one, _ := Put(kind, handed[:len(l)])
			two, _ := Put(kind, handed[:len(l)])
			if !slices.Equal(handed, room) {
				t.Fatalf("handed in is now %s; was %s", told(handed), told(room))
			}
			spoil(t, one)
			for i := range handed {
				handed[i] = api.Value{N: 5, S: "other"}
			}
			if want, _ := slowPut(kind, l); !same(two, want) {
				t.Fatalf("Put(%d, %s): an answer went with another, or with what was handed in: %s", kind, told(l), toldColumn(two))
			}
		}
	}
}

// TestColumnsAreLeft: the same of what Take and Size are given.
func TestColumnsAreLeft(t *testing.T) { // R7
	look := func(kind int, c api.Column) {
		handed := clone(c)
		for i, s := range handed.Streams {
			handed.Streams[i].B = append(s.B, "room behind"...)[:len(s.B)]
		}
		handed.Streams = append(handed.Streams, api.Stream{Kind: 7})[:len(handed.Streams)]
		one, _ := Take(kind, handed)
		two, _ := Take(kind, handed)
		wantSize(t, handed, slowSize(c))
		want, _ := slowTake(kind, c)
		for i := range one[:cap(one)] {
			one[:cap(one)][i] = api.Value{N: 5, S: "changed"}
		}
		if !same(handed, c) || handed.Streams[:len(c.Streams)+1][len(c.Streams)].Kind != 7 {
			t.Fatalf("Take(%d, %s): handed in is now %s", kind, toldColumn(c), toldColumn(handed))
		}
		for _, s := range handed.Streams {
			if string(s.B[len(s.B):len(s.B)+11]) != "room behind" {
				t.Fatalf("Take(%d, %s): the room behind is now %q", kind, toldColumn(c), s.B[len(s.B):len(s.B)+11])
			}
		}
		spoil(t, handed)
		if !slices.Equal(two, want) {
			t.Fatalf("Take(%d, %s): an answer went with another, or with what was handed in: %s", kind, toldColumn(c), told(two))
		}
	}
	eachColumn(t, func(kind int, _ []api.Value, c api.Column) {
		for _, as := range []int{kind, 1, 2, 6, 7, 0} { // most are refused
			look(as, c)
			look(as, changed(c, func(c *api.Column) { c.Many++ }))
			look(as, changed(c, func(c *api.Column) { c.Streams[0].B = append(c.Streams[0].B, 0) }))
			look(as, changed(c, func(c *api.Column) { c.Streams = c.Streams[:1] }))
		}
	})
}

// parted are values that b is parted into by its noughts: what is empty is
// nothing, of a kind of numbers the first eight bytes are the number.
func parted(kind int, b []byte) []api.Value {
	var l []api.Value
	for _, part := range bytes.Split(b, []byte{0}) {
		var v api.Value
		switch {
		case len(part) == 0:
			v.Null = true
		case kind == 1:
			v.N = int(part[0] % 8 / 2 % 3)
		case kind <= 5:
			for _, x := range part[:min(len(part), 8)] {
				v.N = v.N<<8 | int(x)
			}
		default:
			v.S = string(part)
		}
		l = append(l, v)
	}
	return l
}

func FuzzPut(f *testing.F) { // P16.1, P16.3
	f.Add(2, []byte("\x00\x01"), uint16(0))
	f.Add(6, []byte("b\x00\x00a\x00b\x00b"), uint16(9))
	f.Add(7, []byte("\xff\x00\x80\x00\x7f"), uint16(4096))
	f.Add(1, []byte("\x00\x02\x00\x01"), uint16(40))
	f.Add(5, []byte("\x7f\xff\xff\xff\xff\xff\xff\xff\x00\x80\x01\x01\x01\x01\x01\x01\x01"), uint16(3))
	f.Fuzz(func(t *testing.T, kind int, b []byte, more uint16) {
		for _, as := range []int{kind, kind & 7} {
			l := parted(as, b)
			wantBoth(t, as, l)
			if many := len(l) + int(more)%4200; many <= 600 || more%16 == 0 {
				wantBoth(t, as, turns(many, l...))
			}
		}
	})
}

func FuzzTake(f *testing.F) { // P16.2
	f.Add(2, 2, 1, 0, []byte("\xff\x40"), []byte("\x42\x00\x80"), []byte(nil), []byte(nil))
	f.Add(6, 2, 1, 0, []byte(nil), []byte("abc"), []byte("\x42\x01\x90"), []byte(nil))
	f.Add(7, 5, 2, 2, []byte("\xff\xb8"), []byte("\x40\x03\xb0"), []byte("\x40\x01\xc0"), []byte("ab"))
	f.Add(5, 4, 1, 0, []byte("\xff\xb0"), []byte("\x00\x02\x00\x01"), []byte(nil), []byte(nil))
	f.Fuzz(func(t *testing.T, kind, many, encoding, words int, present, data, size, dict []byte) {
		c := api.Column{Many: many, Encoding: encoding, Texts: words, Streams: []api.Stream{{Kind: 1, B: present}, {Kind: 2, B: data}, {Kind: 3, B: size}, {Kind: 4, B: dict}}}
		wantSize(t, c, slowSize(c))
		for n := range 5 {
			checkTake(t, kind, changed(c, func(c *api.Column) { c.Streams = c.Streams[:n] }))
		}
		for _, as := range kinds { // what is right but for its bytes
			near := changed(c, func(c *api.Column) { c.Many, c.Encoding, c.Texts = many&31, 1, 0 })
			near.Streams = near.Streams[:2+as/6]
			checkTake(t, as, near)
			near.Streams[0].B = nil
			checkTake(t, as, near)
		}
		c.Many, c.Encoding, c.Texts = many&31, 2, words&7
		checkTake(t, 6, c)
		checkTake(t, 7, c)
	})
}
