package texts

import (
	"bytes"
	"fmt"
	"math"
	"math/rand"
	"slices"
	"strings"
	"testing"

	"pilaster/api"
	"pilaster/direct"
	"pilaster/rle"
)

// everyByte is a text of all bytes, each once, rising.
var everyByte = func() string {
	b := make([]byte, 256)
	for i := range b {
		b[i] = byte(i)
	}
	return string(b)
}()

// oddBytes are texts most of which are no UTF-8, rising by their bytes.
var oddBytes = []string{
	"", "\x00", "\x00\x00", "\x00\xff", "\x01", "A", "Z", "a", "a\x00", "ab", "a\x7f", "a\x80", "a\xff", "z", "\x7f", "\x7f\xff",
	"\x80", "\x80\x00", "\x80\x80", "\xbf", "\xc0\x80", "\xc3\xa9", "\xe2\x82\xac", "\xed\xa0\x80", "\xef\xbf\xbd", "\xf0\x9f\x98\x80", "\xfe", "\xff", "\xff\x00", "\xff\xff",
}

// rests: what may stand behind.
var rests = []string{"\x00", "\x01", "a", "\x7f", "\x80", "\xff", "\x00\x00", "\x40\x00\x80", "\x02\x07", "abc and more", strings.Repeat("\x00", 5000)}

// farInts are ints that are not how many of something there may be.
var farInts = []int{math.MinInt, math.MinInt + 1, -1 << 32, -1<<32 + 3, -4097, -4096, -5, -4, -3, -2, -1, 4097, 4098, 8192, 1 << 16, 1 << 31, 1 << 32, 1<<32 + 3, 1<<32 + 4096, math.MaxInt - 1, math.MaxInt}

// shortOf tells texts by how many they are, and the first of them.
func shortOf(l []string) string {
	out := fmt.Sprintf("%d texts:", len(l))
	for _, s := range l[:min(len(l), 12)] {
		out += fmt.Sprintf(" %q", s[:min(len(s), 20)])
		if len(s) > 20 {
			out += fmt.Sprintf("(%d bytes)", len(s))
		}
	}
	return out
}

// shortOfColumn tells a column.
func shortOfColumn(c api.Column) string {
	out := fmt.Sprintf("{%d, encoding %d, %d}", c.Many, c.Encoding, c.Texts)
	for _, s := range c.Streams {
		out += fmt.Sprintf(" %d: %d bytes %x", s.Kind, len(s.B), s.B[:min(len(s.B), 24)])
	}
	return out
}

// with is l, with v at place i.
func with[T any](l []T, i int, v T) []T {
	l = slices.Clone(l)
	l[i] = v
	return l
}

// clone shares nothing with c.
func clone(c api.Column) api.Column {
	c.Streams = slices.Clone(c.Streams)
	for i := range c.Streams {
		c.Streams[i].B = bytes.Clone(c.Streams[i].B)
	}
	return c
}

// changed is a clone of c, changed.
func changed(c api.Column, change func(c *api.Column)) api.Column {
	c = clone(c)
	change(&c)
	return c
}

// sameStream tells whether two streams are of one kind, and of the same bytes.
func sameStream(a, b api.Stream) bool { return a.Kind == b.Kind && bytes.Equal(a.B, b.B) }

// same tells whether two columns are the same, stream by stream.
func same(a, b api.Column) bool {
	return a.Many == b.Many && a.Encoding == b.Encoding && a.Texts == b.Texts && slices.EqualFunc(a.Streams, b.Streams, sameStream)
}

// alikes are so many texts that are all s.
func alikes(many int, s string) []string { return slices.Repeat([]string{s}, many) }

// wordsOf are so many words, rising, none of them as another.
func wordsOf(many int) []string {
	l := make([]string, many)
	for i := range l {
		l[i] = fmt.Sprintf("w%05d%s", i, strings.Repeat("\xfe", i%7))
	}
	return l
}

// turns are so many texts, the words turn about.
func turns(many int, words []string) []string {
	l := make([]string, many)
	for i := range l {
		l[i] = words[i%len(words)]
	}
	return l
}

// drawn are so many texts of so many words at most, by chance.
func drawn(from *rand.Rand, many, words int) []string {
	letters := []string{"a", "ab", "\x00\x7f\x80\xff", "aé日😀", everyByte}[from.Intn(5)]
	longest := []int{0, 1, 2, 5, 30, 300}[from.Intn(6)]
	if many > 600 {
		longest = min(longest, 30)
	}
	choice := make([]string, words)
	for i := range choice {
		b := make([]byte, from.Intn(longest+1))
		for k := range b {
			b[k] = letters[from.Intn(len(letters))]
		}
		choice[i] = string(b)
	}
	l := make([]string, many)
	for i := range l {
		l[i] = choice[from.Intn(words)]
	}
	return l
}

// below tells whether a rises to b, byte by byte.
func below(a, b string) bool {
	for i := 0; i < len(a) && i < len(b); i++ {
		if int(a[i]) != int(b[i]) {
			return int(a[i]) < int(b[i])
		}
	}
	return len(a) < len(b)
}

// slowWords lays each text, if it is not there, where those above it begin.
func slowWords(l []string) []string {
	var out []string
next:
	for _, s := range l {
		i := 0
		for ; i < len(out) && !below(s, out[i]); i++ {
			if out[i] == s {
				continue next
			}
		}
		out = slices.Insert(out, i, s)
	}
	return out
}

// runs are numbers as layer 11 has them, not signed; more than it takes at once
// one part behind the other.
func runs(l []int) []byte {
	var out []byte
	for part := range slices.Chunk(l, api.MaxValues) {
		b, e := rle.Put(part, false)
		if e != api.OK {
			panic(e)
		}
		out = append(out, b...)
	}
	return out
}

// lengths are how many bytes texts have, as runs.
func lengths(l []string) []byte {
	var n []int
	for _, s := range l {
		n = append(n, len(s))
	}
	return runs(n)
}

// bytesOf are texts, one behind the other.
func bytesOf(l []string) []byte {
	var out []byte
	for _, s := range l {
		out = append(out, s...)
	}
	return out
}

// asPlain is a column of texts as they are, of any number and of any size.
func asPlain(l []string) api.Column {
	return api.Column{Many: len(l), Encoding: 1, Streams: []api.Stream{{Kind: 2, B: bytesOf(l)}, {Kind: 3, B: lengths(l)}}}
}

// asDictionary is a column of places of words, of any number, in any order.
func asDictionary(words []string, places ...int) api.Column {
	return api.Column{Many: len(places), Encoding: 2, Texts: len(words), Streams: []api.Stream{{Kind: 2, B: runs(places)}, {Kind: 3, B: lengths(words)}, {Kind: 4, B: bytesOf(words)}}}
}

// slowPut is P15.2's words.
func slowPut(l []string) (api.Column, api.Errno) {
	if len(l) > 4096 {
		return api.Column{}, api.ErrBig
	}
	for _, s := range l {
		if len(s) > 300 {
			return api.Column{}, api.ErrBig
		}
	}
	words := slowWords(l)
	if len(l) < len(words)+len(words) {
		return asPlain(l), api.OK
	}
	var places []int
	for _, s := range l {
		places = append(places, slices.Index(words, s))
	}
	return asDictionary(words, places...), api.OK
}

// slowTexts are the texts of these bytes and lengths, if they are so many.
func slowTexts(all []byte, sizes []byte, many int) ([]string, bool) {
	n, rest, e := rle.Take(sizes, many, false)
	if e != api.OK || len(rest) > 0 || slices.ContainsFunc(n, func(n int) bool { return n > 300 }) {
		return nil, false
	}
	ends := 0
	var l []string
	for _, n := range n {
		ends += n
		l = append(l, string(all[min(ends-n, len(all)):min(ends, len(all))]))
	}
	return l, ends == len(all)
}

// slowTake is P15.3's words.
func slowTake(c api.Column) ([]string, api.Errno) {
	if c.Many < 0 || c.Many > 4096 {
		return nil, api.ErrArg
	}
	kinds := ""
	for _, s := range c.Streams {
		kinds += fmt.Sprint(s.Kind, " ")
	}
	switch {
	case c.Encoding == 1 && kinds == "2 3 ":
		if l, ok := slowTexts(c.Streams[0].B, c.Streams[1].B, c.Many); ok {
			return l, api.OK
		}
	case c.Encoding == 2 && kinds == "2 3 4 " && c.Texts >= 0 && c.Texts <= 4096:
		words, ok := slowTexts(c.Streams[2].B, c.Streams[1].B, c.Texts)
		places, rest, e := rle.Take(c.Streams[0].B, c.Many, false)
		if !ok || e != api.OK || len(rest) > 0 || !slices.Equal(slowWords(words), words) {
			return nil, api.ErrCorrupt
		}
		l := []string{}
		for _, p := range places {
			for i, w := range words {
				if i == p {
					l = append(l, w)
				}
			}
		}
		if len(l) == c.Many {
			return l, api.OK
		}
	}
	return nil, api.ErrCorrupt
}

// wantWords asks that Words answers just that.
func wantWords(t *testing.T, l, want []string) {
	t.Helper()
	if got := Words(l); !slices.Equal(got, want) {
		t.Fatalf("Words(%s) = %s; want %s", shortOf(l), shortOf(got), shortOf(want))
	}
}

// wantPut asks that Put lays l down so.
func wantPut(t *testing.T, l []string, want api.Column) {
	t.Helper()
	if got, e := Put(l); e != api.OK || !same(got, want) {
		t.Fatalf("Put(%s) = %s, %d; want %s", shortOf(l), shortOfColumn(got), e, shortOfColumn(want))
	}
}

// wantNoPut asks that Put refuses l, with nothing beside the error.
func wantNoPut(t *testing.T, l []string) {
	t.Helper()
	if got, e := Put(l); e != api.ErrBig || !same(got, api.Column{}) {
		t.Fatalf("Put(%s) = %s, %d; want ErrBig", shortOf(l), shortOfColumn(got), e)
	}
}

// wantTake asks that Take tells so of c.
func wantTake(t *testing.T, c api.Column, want []string) {
	t.Helper()
	if got, e := Take(c); e != api.OK || !slices.Equal(got, want) {
		t.Fatalf("Take(%s) = %s, %d; want %s", shortOfColumn(c), shortOf(got), e, shortOf(want))
	}
}

// wantNoTake asks that Take refuses c by an error, with nothing beside it.
func wantNoTake(t *testing.T, c api.Column, want api.Errno) {
	t.Helper()
	if got, e := Take(c); len(got) != 0 || e != want {
		t.Fatalf("Take(%s) = %s, %d; want the error %d", shortOfColumn(c), shortOf(got), e, want)
	}
}

// wantCorrupt asks that Take refuses c for what it is.
func wantCorrupt(t *testing.T, c api.Column) {
	t.Helper()
	wantNoTake(t, c, api.ErrCorrupt)
}

// checkTake holds Take against the slower reckoning, whatever it is given.
func checkTake(t *testing.T, c api.Column) {
	t.Helper()
	if want, e := slowTake(c); e == api.OK {
		wantTake(t, c, want)
	} else {
		wantNoTake(t, c, e)
	}
}

// wantBoth asks that l is laid down as P15.2 has it, and taken back.
func wantBoth(t *testing.T, l []string) {
	t.Helper()
	wantWords(t, l, slowWords(l))
	want, e := slowPut(l)
	if e != api.OK {
		wantNoPut(t, l)
		return
	}
	wantPut(t, l, want)
	wantTake(t, want, l)
}

// lists are texts that Put lays down, of few bytes, in each way.
func lists() [][]string {
	from := rand.New(rand.NewSource(15))
	return [][]string{
		nil, {""}, {"", ""}, {"a"}, {"a", "a"}, {"ab", "c"}, {"b", "a", "b", "b"}, {"", "a", "a", ""}, {"b", "a", "", "b"},
		{"a", "ab", "abc", "a", "ab", "abc"}, {"abc", "ab", "a", ""}, {"é", "é", "日", "日"}, {"\xff", "\x80", "\x7f", "\x00", "\xff", "\x80", "\x7f", "\x00"},
		alikes(12, ""), alikes(12, "\x00"), alikes(600, "word"), turns(20, oddBytes[:7]), oddBytes, wordsOf(20), turns(50, wordsOf(20)),
		{strings.Repeat("x", 300)}, {strings.Repeat("x", 300), "", strings.Repeat("x", 300), ""}, {everyByte},
		drawn(from, 30, 4), drawn(from, 30, 29), drawn(from, 13, 6),
	}
}

// columns are lists as Put has to lay them down.
func columns(t *testing.T) []api.Column {
	var out []api.Column
	for _, l := range lists() {
		c, e := slowPut(l)
		if e != api.OK {
			t.Fatal(shortOf(l), e)
		}
		out = append(out, c)
	}
	return out
}

func TestWords(t *testing.T) { // P15.1: by hand
	for _, c := range []struct{ l, want []string }{
		{nil, nil},
		{[]string{}, nil},
		{[]string{""}, []string{""}},
		{[]string{"a"}, []string{"a"}},
		{[]string{"", "", ""}, []string{""}},
		{[]string{"a", "a", "a"}, []string{"a"}},
		{[]string{"b", "a", "", "b"}, []string{"", "a", "b"}},
		{[]string{"a", "b", "c"}, []string{"a", "b", "c"}},
		{[]string{"c", "b", "a"}, []string{"a", "b", "c"}},
		{[]string{"abc", "ab", "a", "b", "", "abd"}, []string{"", "a", "ab", "abc", "abd", "b"}},
		{[]string{"a", "B", "b", "A"}, []string{"A", "B", "a", "b"}},
		{[]string{"10", "9", "2"}, []string{"10", "2", "9"}},
		{[]string{"\xff", "\x80", "\x7f", "\x00", "\xff"}, []string{"\x00", "\x7f", "\x80", "\xff"}},
		{[]string{"\xff", "é", "z", "\x80", "日"}, []string{"z", "\x80", "é", "日", "\xff"}},
		{[]string{"a\x80", "a", "a\x00", "a\xff", "a\x7f"}, []string{"a", "a\x00", "a\x7f", "a\x80", "a\xff"}},
		{[]string{"é", "e\u0301"}, []string{"e\u0301", "é"}}, // they look the same, and are not
		{[]string{"\xef\xbf\xbd", "\xff", "\xfe"}, []string{"\xef\xbf\xbd", "\xfe", "\xff"}},
	} {
		wantWords(t, c.l, c.want)
		wantWords(t, c.l, slowWords(c.l))
	}
}

func TestWordsOfEachOrder(t *testing.T) { // P15.1: texts that rise, that fall, and that are drawn
	from := rand.New(rand.NewSource(1))
	all := append(slices.Clone(oddBytes), everyByte, strings.Repeat("\xff", 301), strings.Repeat("a", 5000))
	slices.SortFunc(all, func(a, b string) int { return bytes.Compare([]byte(a), []byte(b)) })
	for n := range len(all) + 1 {
		rising := all[:n]
		falling := slices.Clone(rising)
		slices.Reverse(falling)
		shuffled := slices.Concat(rising, falling, rising)
		from.Shuffle(len(shuffled), func(i, k int) { shuffled[i], shuffled[k] = shuffled[k], shuffled[i] })
		for _, l := range [][]string{rising, falling, slices.Concat(rising, rising), slices.Concat(falling, rising), shuffled} {
			wantWords(t, l, rising)
		}
	}
	for _, a := range oddBytes {
		for _, b := range oddBytes {
			wantWords(t, []string{a, b}, slowWords([]string{a, b}))
			wantWords(t, []string{a, b, a}, slowWords([]string{b, a}))
		}
	}
}

func TestWordsDrawn(t *testing.T) { // P15.1; there may be more of them than a column has
	from := rand.New(rand.NewSource(2))
	for range 600 {
		l := drawn(from, from.Intn(300), 1+from.Intn(200))
		wantWords(t, l, slowWords(l))
	}
	many := wordsOf(6000)
	mixed := slices.Concat(many, many)
	from.Shuffle(len(mixed), func(i, k int) { mixed[i], mixed[k] = mixed[k], mixed[i] })
	wantWords(t, mixed, many)
	for range 20 { // the same, each time
		wantWords(t, mixed[:500], slowWords(mixed[:500]))
	}
}

func TestPut(t *testing.T) { // P15.2, P15.3: by hand, byte for byte
	column := func(many, encoding, texts int, streams ...string) api.Column {
		c := api.Column{Many: many, Encoding: encoding, Texts: texts}
		for i, s := range streams {
			c.Streams = append(c.Streams, api.Stream{Kind: 2 + i, B: []byte(s)})
		}
		return c
	}
	for _, c := range []struct {
		l    []string
		want api.Column
	}{
		{[]string{"ab", "c"}, column(2, 1, 0, "abc", "\x42\x01\x90")},                         // the chapter's
		{[]string{"b", "a", "b", "b"}, column(4, 2, 2, "\x40\x03\xb0", "\x40\x01\xc0", "ab")}, // the chapter's
		{nil, column(0, 2, 0, "", "", "")},                                                    // a dictionary of none
		{[]string{}, column(0, 2, 0, "", "", "")},
		{[]string{""}, column(1, 1, 0, "", "\x40\x00\x00")}, // one word, one text
		{[]string{"a"}, column(1, 1, 0, "a", "\x40\x00\x80")},
		{[]string{"", ""}, column(2, 2, 1, "\x40\x01\x00", "\x40\x00\x00", "")}, // one word, two texts
		{[]string{"", "", ""}, column(3, 2, 1, "\x00\x00", "\x40\x00\x00", "")},
		{[]string{"a", "a"}, column(2, 2, 1, "\x40\x01\x00", "\x40\x00\x80", "a")},
		{[]string{"b", "a"}, column(2, 1, 0, "ba", "\x40\x01\xc0")},   // in their order
		{[]string{"b", "a", "b"}, column(3, 1, 0, "bab", "\x00\x01")}, // two words, three texts
		{[]string{"a", "b", "a", "b"}, column(4, 2, 2, "\x40\x03\x50", "\x40\x01\xc0", "ab")},
		{[]string{"\xff", "", "\xff", ""}, column(4, 2, 2, "\x40\x03\xa0", "\x40\x01\x40", "\xff")},
		{[]string{"é", "日"}, column(2, 1, 0, "\xc3\xa9\xe6\x97\xa5", "\x42\x01\xb0")}, // lengths are those of bytes
		{[]string{"x", "yy", "zzz", "wwww", "", ""}, column(6, 1, 0, "xyyzzzwwww", "\x44\x05\x29\xc0\x00")},
	} {
		wantPut(t, c.l, c.want)
		wantTake(t, c.want, c.l)
		wantBoth(t, c.l)
	}
	empty, _ := Put(nil)
	for i, s := range empty.Streams { // empty ones, and there
		if s.Kind != 2+i || len(s.B) != 0 {
			t.Fatal(shortOfColumn(empty))
		}
	}
	if len(empty.Streams) != 3 {
		t.Fatal(shortOfColumn(empty))
	}
}

func TestPutOfEachList(t *testing.T) { // P15.2, P15.4
	for _, l := range lists() {
		wantBoth(t, l)
	}
	wantBoth(t, []string{everyByte, everyByte})
	wantBoth(t, []string{"x", everyByte, everyByte[:128], everyByte[128:]})
	each := strings.Split(strings.Repeat("a", 256), "")
	for i := range each {
		each[i] = string([]byte{byte(255 - i)})
	}
	wantBoth(t, each)
	wantBoth(t, slices.Concat(each, each))
	for c := range 256 {
		s := string([]byte{byte(c)})
		wantBoth(t, []string{s})
		wantBoth(t, []string{s, s, s + s, s + s})
		wantBoth(t, []string{"a" + s, "a", s + "a", s})
	}
}

func TestPutOfEachNumber(t *testing.T) { // P15.2: 4096 at most
	for n := range 40 {
		for _, l := range [][]string{alikes(n, ""), alikes(n, "a"), wordsOf(n), turns(n, []string{"b", "a"}), turns(n, oddBytes)} {
			wantBoth(t, l)
		}
	}
	for _, n := range []int{511, 512, 513, 4095, 4096} {
		for _, l := range [][]string{alikes(n, ""), alikes(n, "word"), wordsOf(n), turns(n, []string{"b", "a"}), turns(n, oddBytes)} {
			wantBoth(t, l)
		}
	}
	for _, n := range []int{4097, 4098, 5000, 8192, 1 << 16} {
		for _, l := range [][]string{alikes(n, ""), alikes(n, "word"), wordsOf(n), turns(n, []string{"b", "a"})} {
			wantNoPut(t, l)
		}
	}
	long := strings.Repeat("\xff", 300) // as much as there may be
	wantBoth(t, alikes(4096, long))
	wantBoth(t, turns(4096, []string{long, long[1:]}))
	big := wordsOf(4096)
	for i := range big {
		big[i] += long[:300-len(big[i])]
	}
	wantBoth(t, big)
}

func TestPutOfEachSize(t *testing.T) { // P15.2: 300 bytes at most, first, in the middle and last
	for _, n := range []int{1, 2, 3, 7, 40, 4096} {
		for _, i := range []int{0, n / 2, n - 1} {
			for _, l := range [][]string{alikes(n, "a"), wordsOf(n)} {
				for _, size := range []int{0, 1, 255, 256, 257, 299, 300} {
					wantBoth(t, with(l, i, strings.Repeat("b", size)))
				}
				for _, size := range []int{301, 302, 511, 512, 556, 1000, 1 << 16, 1<<16 + 1} {
					wantNoPut(t, with(l, i, strings.Repeat("b", size)))
				}
			}
		}
	}
	for n := range 301 {
		wantBoth(t, []string{strings.Repeat("é", n/2) + "e"[:n%2]})
		wantBoth(t, alikes(2, strings.Repeat("\x00", n)))
	}
	wantNoPut(t, []string{strings.Repeat("日", 101)}) // 101 letters, 303 bytes
	wantBoth(t, []string{strings.Repeat("日", 100)})
	wantNoPut(t, alikes(4096, strings.Repeat("a", 301)))
	wantNoPut(t, alikes(4097, strings.Repeat("a", 301))) // and there are too many
}

func TestPutOfTwiceAsMany(t *testing.T) { // P15.2: just twice as many texts as words, one fewer, one more
	for words := 1; words <= 60; words++ {
		for _, d := range []int{-2, -1, 0, 1, 2} {
			many := 2*words + d
			if many < words {
				continue
			}
			want := api.Dictionary
			if d < 0 {
				want = api.Plain
			}
			all := wordsOf(words)
			falling := slices.Clone(all)
			slices.Reverse(falling)
			for _, l := range [][]string{turns(many, all), turns(many, falling), append(slices.Clone(all), alikes(many-words, all[0])...)} {
				c, e := Put(l)
				if e != api.OK || c.Encoding != want || c.Many != many || c.Texts != words*(want-1) || len(c.Streams) != want+1 {
					t.Fatalf("Put(%s), of %d words = %s, %d", shortOf(l), words, shortOfColumn(c), e)
				}
				wantBoth(t, l)
			}
		}
	}
	for _, words := range []int{2047, 2048, 2049} {
		for _, many := range []int{4094, 4095, 4096} {
			wantBoth(t, turns(many, wordsOf(words)))
		}
	}
}

func TestTakeCut(t *testing.T) { // P15.3: each stream, at each place
	for _, c := range columns(t) {
		for i, s := range c.Streams {
			for n := range s.B {
				wantCorrupt(t, changed(c, func(c *api.Column) { c.Streams[i].B = c.Streams[i].B[:n] }))
				wantCorrupt(t, changed(c, func(c *api.Column) { c.Streams[i].B = bytes.Clone(c.Streams[i].B[:n]) }))
				wantCorrupt(t, changed(c, func(c *api.Column) { c.Streams[i].B = slices.Delete(c.Streams[i].B, n, n+1) }))
			}
			if len(s.B) > 0 {
				wantCorrupt(t, changed(c, func(c *api.Column) { c.Streams[i].B = nil }))
			}
		}
	}
}

func TestTakeOfMore(t *testing.T) { // P15.3: bytes behind each stream, or behind all
	for _, c := range columns(t) {
		for _, rest := range rests {
			for i := range c.Streams {
				wantCorrupt(t, changed(c, func(c *api.Column) { c.Streams[i].B = append(c.Streams[i].B, rest...) }))
				checkTake(t, changed(c, func(c *api.Column) { c.Streams[i].B = append([]byte(rest), c.Streams[i].B...) }))
			}
			checkTake(t, changed(c, func(c *api.Column) {
				for i := range c.Streams {
					c.Streams[i].B = append(c.Streams[i].B, rest...)
				}
			}))
		}
	}
}

func TestTakeOfTurnedBytes(t *testing.T) { // P15.3: each byte of each stream, as any other; of many bytes most by a bit alone
	for _, c := range columns(t) {
		for i, s := range c.Streams {
			for k := range s.B {
				for mask := 1; mask < 256; mask++ {
					if k >= 20 && mask != 1<<(k%8) {
						continue
					}
					checkTake(t, changed(c, func(c *api.Column) { c.Streams[i].B[k] ^= byte(mask) }))
				}
			}
		}
	}
	plain, dictionary := asPlain([]string{"ab", "c"}), asDictionary([]string{"a", "b"}, 1, 0, 1, 1)
	wantTake(t, changed(plain, func(c *api.Column) { c.Streams[0].B[1] = 0xff }), []string{"a\xff", "c"})
	wantTake(t, changed(plain, func(c *api.Column) { c.Streams[1].B[2] = 0x60 }), []string{"a", "bc"})
	wantCorrupt(t, changed(plain, func(c *api.Column) { c.Streams[1].B[2] = 0xa0 }))
	wantTake(t, changed(dictionary, func(c *api.Column) { c.Streams[0].B[2] = 0x40 }), []string{"a", "b", "a", "a"})
	wantTake(t, changed(dictionary, func(c *api.Column) { c.Streams[2].B[1] = 'z' }), []string{"z", "a", "z", "z"})
	wantTake(t, changed(dictionary, func(c *api.Column) { c.Streams[2].B[0] = 0 }), []string{"b", "\x00", "b", "b"})
	wantCorrupt(t, changed(dictionary, func(c *api.Column) { c.Streams[2].B[0] = 'b' }))
	wantCorrupt(t, changed(dictionary, func(c *api.Column) { c.Streams[2].B[0] = 'c' }))
}

func TestTakeOfOtherStreams(t *testing.T) { // P15.3: missing, twice, in another order, of another kind
	for _, c := range columns(t) {
		for i, s := range c.Streams {
			wantCorrupt(t, changed(c, func(c *api.Column) { c.Streams = slices.Delete(c.Streams, i, i+1) }))
			for k := range len(c.Streams) + 1 {
				wantCorrupt(t, changed(c, func(c *api.Column) { c.Streams = slices.Insert(c.Streams, k, s) }))
				for kind := range 6 {
					wantCorrupt(t, changed(c, func(c *api.Column) { c.Streams = slices.Insert(c.Streams, k, api.Stream{Kind: kind}) }))
				}
			}
			for k := range i {
				wantCorrupt(t, changed(c, func(c *api.Column) { c.Streams[i], c.Streams[k] = c.Streams[k], c.Streams[i] }))
				wantCorrupt(t, changed(c, func(c *api.Column) { c.Streams[i].Kind, c.Streams[k].Kind = c.Streams[k].Kind, c.Streams[i].Kind }))
			}
			for _, kind := range []int{math.MinInt, -1 << 32, -256, -2, -1, 0, 1, 2, 3, 4, 5, 6, 258, 259, 260, 1<<32 + 2, 1<<32 + 3, 1<<32 + 4, math.MaxInt} {
				if kind != s.Kind {
					wantCorrupt(t, changed(c, func(c *api.Column) { c.Streams[i].Kind = kind }))
				}
			}
		}
		wantCorrupt(t, changed(c, func(c *api.Column) { slices.Reverse(c.Streams) }))
		wantCorrupt(t, changed(c, func(c *api.Column) { c.Streams = nil }))
		wantCorrupt(t, changed(c, func(c *api.Column) { c.Streams = []api.Stream{} }))
		wantCorrupt(t, changed(c, func(c *api.Column) { c.Streams = make([]api.Stream, len(c.Streams)) }))
		wantCorrupt(t, changed(c, func(c *api.Column) { c.Streams = slices.Concat(c.Streams, c.Streams) }))
		wantCorrupt(t, changed(c, func(c *api.Column) { c.Streams = slices.Repeat(c.Streams[:1], 5000) }))
	}
	for encoding := range 4 { // all rows of kinds, of no texts and of streams that are empty
		for x := range 6 * 6 * 6 * 6 {
			c := api.Column{Encoding: encoding}
			for ; x > 0; x /= 6 {
				c.Streams = append(c.Streams, api.Stream{Kind: x%6 - 1})
			}
			checkTake(t, c)
		}
	}
}

func TestTakeOfOtherEncodings(t *testing.T) { // P15.3
	for _, c := range columns(t) {
		for _, encoding := range []int{math.MinInt, math.MinInt + 1, math.MinInt + 2, -1 << 32, -256, -255, -254, -2, -1, 0, 1, 2, 3, 4, 5, 255, 256, 257, 258, 1<<32 + 1, 1<<32 + 2, math.MaxInt - 1, math.MaxInt} {
			if encoding != c.Encoding {
				wantCorrupt(t, changed(c, func(c *api.Column) { c.Encoding = encoding }))
				checkTake(t, changed(c, func(c *api.Column) { c.Encoding, c.Texts = encoding, 0 }))
			}
		}
	}
}

func TestTakeOfOtherMany(t *testing.T) { // P15.3
	for _, c := range columns(t) {
		for _, many := range farInts {
			wantNoTake(t, changed(c, func(c *api.Column) { c.Many = many }), api.ErrArg)
		}
		for _, many := range []int{0, 1, 2, 3, c.Many - 2, c.Many - 1, c.Many + 1, c.Many + 2, 2 * c.Many, 4095, 4096} {
			if many >= 0 && many != c.Many {
				wantCorrupt(t, changed(c, func(c *api.Column) { c.Many = many }))
			}
		}
	}
	words := wordsOf(4097)
	for _, c := range []api.Column{asPlain(words), asPlain(alikes(4097, "")), asDictionary([]string{"a"}, make([]int, 4097)...)} {
		wantNoTake(t, c, api.ErrArg) // just as many as it says, but too many
		wantCorrupt(t, changed(c, func(c *api.Column) { c.Many = 4096 }))
		wantCorrupt(t, changed(c, func(c *api.Column) { c.Many = 0 }))
	}
	for many := -20; many <= 4120; many++ {
		none := api.Column{Many: many, Encoding: 1, Streams: []api.Stream{{Kind: 2}, {Kind: 3}}}
		checkTake(t, none)
		checkTake(t, changed(none, func(c *api.Column) { c.Encoding, c.Streams = 2, append(c.Streams, api.Stream{Kind: 4}) }))
	}
}

func TestTakeOfOtherTexts(t *testing.T) { // P15.3: of a dictionary they are just its words, of Plain they are not asked
	for _, c := range columns(t) {
		near := []int{0, 1, 2, 3, c.Texts - 1, c.Texts + 1, c.Texts + 2, 2 * c.Texts, c.Many, 4095, 4096}
		for _, texts := range append(near, farInts...) {
			other := changed(c, func(c *api.Column) { c.Texts = texts })
			if c.Encoding == api.Plain || texts == c.Texts {
				want, _ := slowTake(c)
				wantTake(t, other, want)
			} else {
				wantCorrupt(t, other)
			}
		}
	}
	words := wordsOf(4097)
	all := make([]int, 4096)
	for i := range all {
		all[i] = 4095 - i
	}
	falling := slices.Clone(words[:4096])
	slices.Reverse(falling)
	wantTake(t, asDictionary(words[:4096], all...), falling)
	wantTake(t, asDictionary(words[:4096], 4095, 0), []string{words[4095], words[0]})
	wantCorrupt(t, asDictionary(words, all...)) // just as many as it says, but too many
	wantCorrupt(t, asDictionary(words))
	wantCorrupt(t, changed(asDictionary(words, all...), func(c *api.Column) { c.Texts = 4096 }))
	for _, texts := range append([]int{0, 4095}, farInts...) {
		wantCorrupt(t, changed(asDictionary(words[:4096], all...), func(c *api.Column) { c.Texts = texts }))
	}
}

func TestTakeOfWordsThatDoNotRise(t *testing.T) { // P15.3: they fall, or stand twice, though no place may be theirs
	for _, a := range oddBytes {
		for _, b := range oddBytes {
			for _, c := range []api.Column{asDictionary([]string{a, b}, 1, 0, 1), asDictionary([]string{a, b}, 0, 0), asDictionary([]string{a, b})} {
				checkTake(t, c)
				if !below(a, b) {
					wantCorrupt(t, c)
				}
			}
		}
	}
	for _, n := range []int{2, 3, 9, 600, 4096} {
		words := wordsOf(n)
		wantTake(t, asDictionary(words, 0, n-1), []string{words[0], words[n-1]})
		for _, i := range []int{1, n / 2, n - 1} {
			twice := with(words, i, words[i-1])
			falls := with(with(words, i, words[i-1]), i-1, words[i])
			for _, l := range [][]string{twice, falls} {
				wantCorrupt(t, asDictionary(l, 0, n-1))
				wantCorrupt(t, asDictionary(l, n/2))
				wantCorrupt(t, asDictionary(l))
				wantTake(t, asPlain(l), l)
			}
		}
		wantCorrupt(t, asDictionary(alikes(n, ""), 0))
		wantCorrupt(t, asDictionary(alikes(n, "a"), 0))
		wantCorrupt(t, asDictionary(append(words[1:n:n], words[0]), 0))
	}
}

func TestTakeOfNoPlace(t *testing.T) { // P15.3: just behind the last word, and further
	for _, n := range []int{1, 2, 3, 9, 4096} {
		words := wordsOf(n)
		for _, many := range []int{1, 2, 3, 7, 600} {
			for _, i := range []int{0, many / 2, many - 1} {
				at := func(place int) api.Column { return asDictionary(words, with(make([]int, many), i, place)...) }
				wantTake(t, at(n-1), with(alikes(many, words[0]), i, words[n-1]))
				for _, place := range []int{n, n + 1, 2 * n, 4097, 1 << 16, 1 << 32, 1 << 62, math.MaxInt - 1, math.MaxInt} {
					wantCorrupt(t, at(place))
				}
			}
		}
	}
	wantTake(t, asDictionary(nil), nil)
	wantCorrupt(t, asDictionary(nil, 0))
	wantCorrupt(t, asDictionary(nil, 0, 0, 0))
	wantCorrupt(t, asDictionary(nil, 1))
}

func TestTakeOfLongTexts(t *testing.T) { // P15.3: a length of 301
	for _, n := range []int{1, 2, 3, 40} {
		words := wordsOf(n)
		for _, i := range []int{0, n / 2, n - 1} {
			for size, ok := range map[int]bool{299: true, 300: true, 301: false, 302: false, 512: false, 5000: false, 1 << 16: false} {
				l := with(words, i, words[i]+strings.Repeat("x", size-len(words[i])))
				wantAt := []string{l[n-1], l[0], l[i]}
				if ok {
					wantTake(t, asPlain(l), l)
					wantTake(t, asDictionary(l, n-1, 0, i), wantAt)
				} else {
					wantCorrupt(t, asPlain(l))
					wantCorrupt(t, asDictionary(l, n-1, 0, i))
					wantCorrupt(t, asDictionary(l))
				}
			}
		}
	}
	// Lengths that come to a few bytes only if they go over, and such that no bytes are that long.
	for _, sizes := range [][]int{{math.MaxInt}, {1 << 62, 1 << 62, 1 << 62, 1 << 62}, {math.MaxInt, math.MaxInt, 2}, {math.MaxInt, math.MaxInt, 5}, {math.MaxInt, 1}, {0, math.MaxInt}, {301}, {3, 301}} {
		for _, b := range []string{"", "abc", strings.Repeat("a", 304)} {
			c := api.Column{Many: len(sizes), Encoding: 1, Streams: []api.Stream{{Kind: 2, B: []byte(b)}, {Kind: 3, B: runs(sizes)}}}
			wantCorrupt(t, c)
			c = api.Column{Encoding: 2, Texts: len(sizes), Streams: []api.Stream{{Kind: 2}, {Kind: 3, B: runs(sizes)}, {Kind: 4, B: []byte(b)}}}
			wantCorrupt(t, c)
		}
	}
}

func TestTakeOfOtherLengths(t *testing.T) { // P15.3: they come to one byte more, or less, than there are
	for _, l := range [][]string{{"a"}, {"ab", "c"}, {"", "a", "b", "bcd"}, wordsOf(20), wordsOf(4096)} {
		for _, i := range []int{0, len(l) / 2, len(l) - 1} {
			var sizes []int
			for _, s := range l {
				sizes = append(sizes, len(s))
			}
			plain, dictionary := asPlain(l), asDictionary(l, 0, i)
			lay := func(by int) {
				b := runs(with(sizes, i, sizes[i]+by))
				plain.Streams[1].B, dictionary.Streams[1].B = b, b
			}
			lay(1)
			wantCorrupt(t, plain)
			wantCorrupt(t, dictionary)
			if sizes[i] > 0 {
				lay(-1)
				wantCorrupt(t, plain)
				wantCorrupt(t, dictionary)
			}
			lay(0)
			wantTake(t, plain, l)
			wantTake(t, dictionary, []string{l[0], l[i]})
		}
	}
	wantTake(t, api.Column{Many: 3, Encoding: 1, Streams: []api.Stream{{Kind: 2, B: []byte("abc")}, {Kind: 3, B: runs([]int{0, 3, 0})}}}, []string{"", "abc", ""})
}

func TestTakeOfWhatPutDoesNotLay(t *testing.T) { // P15.3: it is taken, if nothing of the chapter is against it
	wantTake(t, asPlain(nil), nil)                             // no texts as they are
	wantTake(t, asPlain(alikes(9, "a")), alikes(9, "a"))       // few words as they are
	wantTake(t, asDictionary([]string{"a"}, 0), []string{"a"}) // many words by their places
	wantTake(t, asDictionary(oddBytes, 3, 2, 3), []string{oddBytes[3], oddBytes[2], oddBytes[3]})
	wantTake(t, asDictionary([]string{"a", "b"}), nil) // words that no text is
	wantTake(t, changed(asDictionary(nil), func(c *api.Column) {
		for i := range c.Streams {
			c.Streams[i].B = []byte{}
		}
	}), nil)
	// Other runs: each number as one of its own, and all of them as they are.
	l := []string{"ab", "", "c", "c", "c", "c", "c"}
	sizes, places := []int{2, 0, 1, 1, 1, 1, 1}, []int{1, 0, 2, 2, 2, 2, 2}
	alone := func(l []int) []byte {
		var out []byte
		for _, x := range l {
			out = append(out, runs([]int{x})...)
		}
		return out
	}
	together := func(l []int) []byte {
		b, e := direct.Put(l, false)
		if e != api.OK {
			t.Fatal(e)
		}
		return b
	}
	plain, dictionary := asPlain(l), asDictionary([]string{"", "ab", "c"}, places...)
	for _, as := range []func([]int) []byte{alone, together} {
		if bytes.Equal(as(sizes), plain.Streams[1].B) || bytes.Equal(as(places), dictionary.Streams[0].B) {
			t.Fatal("they are the runs that Put lays")
		}
		wantTake(t, changed(plain, func(c *api.Column) { c.Streams[1].B = as(sizes) }), l)
		wantTake(t, changed(dictionary, func(c *api.Column) { c.Streams[0].B = as(places) }), l)
		wantTake(t, changed(dictionary, func(c *api.Column) { c.Streams[1].B = as([]int{0, 2, 1}) }), l)
	}
}

func TestTakeOfShortStreams(t *testing.T) { // P15.3: all streams of numbers of up to three bytes, near enough
	for many := range 4 {
		for x := range 1 << 16 {
			b := []byte{byte(x >> 8 & 0xc3), byte(x >> 8 & 0x3c >> 2), byte(x)}
			plain := api.Column{Many: many, Encoding: 1, Streams: []api.Stream{{Kind: 2, B: []byte("abcde")}, {Kind: 3, B: b}}}
			checkTake(t, plain)
			checkTake(t, changed(plain, func(c *api.Column) { c.Streams[0].B, c.Streams[1].B = nil, b[:2] }))
			words := api.Column{Encoding: 2, Texts: many, Streams: []api.Stream{{Kind: 2}, {Kind: 3, B: b}, {Kind: 4, B: []byte("abbcb")}}}
			checkTake(t, words)
			places := asDictionary([]string{"", "a", "b"})
			places.Many, places.Streams[0].B = many, b
			checkTake(t, places)
		}
	}
}

func TestTwoWrong(t *testing.T) { // R3: the error that the chapter names first
	wrongs := []func(c *api.Column){
		func(c *api.Column) { c.Encoding = 3 },
		func(c *api.Column) { c.Streams = c.Streams[1:] },
		func(c *api.Column) { c.Streams = nil },
		func(c *api.Column) { c.Streams[0].Kind = 1 },
		func(c *api.Column) { c.Streams[0].B = append(c.Streams[0].B, 0) },
		func(c *api.Column) { c.Streams[1].B = []byte{0x40} },
		func(c *api.Column) { c.Streams[1].B = runs([]int{301}) },
		func(c *api.Column) { c.Texts = -1 },
		func(c *api.Column) { c.Texts = 4097 },
		func(c *api.Column) { c.Texts = math.MaxInt },
		func(c *api.Column) { *c = api.Column{} },
	}
	for _, c := range columns(t) {
		for _, wrong := range wrongs {
			for _, many := range farInts {
				wantNoTake(t, changed(c, func(c *api.Column) { wrong(c); c.Many = many }), api.ErrArg)
			}
			for _, other := range wrongs {
				checkTake(t, changed(c, func(c *api.Column) {
					wrong(c)
					if len(c.Streams) > 1 {
						other(c)
					}
				}))
			}
		}
	}
	wantCorrupt(t, api.Column{})
	long := strings.Repeat("a", 301)
	for _, i := range []int{0, 4095, 4096} { // too many, and one too long
		wantNoPut(t, with(alikes(4097, "a"), i, long))
	}
}

func TestBackAgain(t *testing.T) { // P15.4: of texts drawn, few words and many
	from := rand.New(rand.NewSource(4))
	seen := map[int]int{}
	for n := range 900 {
		many := n
		if n > 200 {
			many = from.Intn(200)
		}
		if n%60 == 0 {
			many = from.Intn(4097)
		}
		for _, words := range []int{1, 2, 3, 1 + from.Intn(many+1), many/2 + 1, 2*many + 1} {
			l := drawn(from, many, words)
			c, e := Put(l)
			if e != api.OK {
				t.Fatalf("Put(%s) = %d", shortOf(l), e)
			}
			wantTake(t, c, l)
			seen[c.Encoding]++
			if n%3 == 0 && many < 200 {
				wantBoth(t, l)
			}
		}
	}
	if seen[api.Plain] < 500 || seen[api.Dictionary] < 500 || len(seen) != 2 {
		t.Fatal(seen)
	}
}

func TestRoomBehind(t *testing.T) { // R6: what stands behind an end is not there
	room := append(turns(12, []string{"b", "a", ""}), strings.Repeat("x", 301), "c", "d", "e", "f")
	for n := range room {
		if n <= 12 {
			wantBoth(t, room[:n])
		} else {
			wantNoPut(t, room[:n])
		}
	}
	for i, c := range columns(t) {
		for _, rest := range rests {
			wantTake(t, changed(c, func(c *api.Column) {
				for k, s := range c.Streams {
					c.Streams[k].B = append(s.B, rest...)[:len(s.B)]
				}
				c.Streams = append(c.Streams, api.Stream{Kind: 2, B: []byte(rest)})[:len(c.Streams)]
			}), lists()[i])
		}
	}
}

// TestTextsAreLeft: texts that are handed in, and the room behind them, stay as
// they were, and what is answered is the caller's own.
func TestTextsAreLeft(t *testing.T) { // R7
	for _, l := range append(lists(), wordsOf(4097), []string{strings.Repeat("x", 301)}) { // some are refused
		room := append(slices.Clone(l), "room", "behind", "a")
		handed := slices.Clone(room)
		words, other := Words(handed[:len(l)]), Words(handed[:len(l)])
		for i := range words[:cap(words)] {
			words[:cap(words)][i] = "changed"
		}
		one, _ := Put(handed[:len(l)])
		two, _ := Put(handed[:len(l)])
		if !slices.Equal(handed, room) {
			t.Fatalf("handed in is now %s; was %s", shortOf(handed), shortOf(room))
		}
		wantTwo := clone(two)
		for i, s := range one.Streams {
			for k := range s.B[:cap(s.B)] {
				s.B[:cap(s.B)][k]++
			}
			for k, behind := range one.Streams[i+1:] {
				if !sameStream(behind, wantTwo.Streams[i+1+k]) {
					t.Fatalf("Put(%s): a stream went with another", shortOf(l))
				}
			}
		}
		for i := range one.Streams[:cap(one.Streams)] {
			one.Streams[:cap(one.Streams)][i] = api.Stream{Kind: 9}
		}
		for i := range handed {
			handed[i] = "other"
		}
		if !slices.Equal(other, slowWords(l)) || !same(two, wantTwo) {
			t.Fatalf("of %s an answer went with another, or with what was handed in: %s, %s", shortOf(l), shortOf(other), shortOfColumn(two))
		}
		if want, _ := slowPut(l); !same(two, want) {
			t.Fatalf("Put(%s) = %s", shortOf(l), shortOfColumn(two))
		}
	}
}

// TestColumnsAreLeft: the same of what Take is given.
func TestColumnsAreLeft(t *testing.T) { // R7
	some := columns(t)
	for _, c := range columns(t) {
		some = append(some, asPlain(alikes(5, "plain")), changed(c, func(c *api.Column) { c.Many++ }), changed(c, func(c *api.Column) { c.Streams[0].B = append(c.Streams[0].B, 0) })) // most are refused
	}
	for _, c := range some {
		handed := clone(c)
		for i, s := range handed.Streams {
			handed.Streams[i].B = append(s.B, "room behind"...)[:len(s.B)]
		}
		handed.Streams = append(handed.Streams, api.Stream{Kind: 7})[:len(handed.Streams)]
		one, _ := Take(handed)
		two, _ := Take(handed)
		want, _ := slowTake(c)
		for i := range one[:cap(one)] {
			one[:cap(one)][i] = "changed"
		}
		if !same(handed, c) || handed.Streams[:len(c.Streams)+1][len(c.Streams)].Kind != 7 {
			t.Fatalf("Take(%s): handed in is now %s", shortOfColumn(c), shortOfColumn(handed))
		}
		for _, s := range handed.Streams {
			if string(s.B[len(s.B):len(s.B)+11]) != "room behind" {
				t.Fatalf("Take(%s): the room behind is now %q", shortOfColumn(c), s.B[len(s.B):len(s.B)+11])
			}
			for k := range s.B[:cap(s.B)] {
				s.B[:cap(s.B)][k] ^= 0x55
			}
		}
		clear(handed.Streams)
		if !slices.Equal(two, want) {
			t.Fatalf("Take(%s): an answer went with another, or with what was handed in: %s", shortOfColumn(c), shortOf(two))
		}
	}
}

// parted are texts that b is parted into by a byte.
func parted(b []byte, by byte) []string {
	var l []string
	for _, s := range bytes.Split(b, []byte{by}) {
		l = append(l, string(s))
	}
	return l
}

func FuzzPut(f *testing.F) { // P15.1, P15.2, P15.4
	f.Add([]byte("ab c"), byte(' '), uint16(0))
	f.Add([]byte("b a b b"), byte(' '), uint16(1))
	f.Add([]byte("\xff\x00\x80\x00\x7f"), byte(0), uint16(4096))
	f.Add([]byte(strings.Repeat("a", 301)), byte('b'), uint16(2))
	f.Fuzz(func(t *testing.T, b []byte, by byte, more uint16) {
		l := parted(b, by)
		wantBoth(t, l)
		if many := len(l) + int(more)%4200; many <= 600 || more%16 == 0 {
			wantBoth(t, turns(many, l))
		}
	})
}

func FuzzTake(f *testing.F) { // P15.3
	f.Add(2, 1, 0, []byte("abc"), []byte("\x42\x01\x90"), []byte(nil))
	f.Add(4, 2, 2, []byte("\x40\x03\xb0"), []byte("\x40\x01\xc0"), []byte("ab"))
	f.Add(0, 2, 0, []byte(nil), []byte(nil), []byte(nil))
	f.Add(4097, 3, -1, []byte("\xff"), []byte("\x80"), []byte("\x00"))
	f.Fuzz(func(t *testing.T, many, encoding, texts int, data, sizes, dict []byte) {
		streams := []api.Stream{{Kind: 2, B: data}, {Kind: 3, B: sizes}, {Kind: 4, B: dict}}
		for _, c := range []api.Column{
			{Many: many, Encoding: encoding, Texts: texts, Streams: streams},
			{Many: many, Encoding: encoding, Texts: texts, Streams: streams[:2]},
			{Many: many % 600, Encoding: 1, Texts: texts, Streams: streams[:2]},
			{Many: many % 9, Encoding: 2, Texts: texts % 9, Streams: streams},
		} {
			checkTake(t, c)
		}
		// What is right but for the bytes of its texts, so that it is more often taken.
		l := parted(dict, 'a')
		c, e := slowPut(l)
		if e != api.OK {
			return
		}
		c.Streams[0].B = data
		checkTake(t, c)
	})
}
