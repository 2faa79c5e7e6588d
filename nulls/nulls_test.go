package nulls

import (
	"bytes"
	"math"
	"math/rand"
	"slices"
	"strconv"
	"strings"
	"testing"

	"pilaster/api"
)

// farMany: numbers that are not how many values there may be.
var farMany = []int{math.MinInt, math.MinInt + 1, -1 << 32, -1<<32 + 1, -4097, -4096, -16, -9, -8, -7, -2, -1, 4097, 4098, 4103, 4104, 4105, 8192, 1 << 16, 1 << 31, 1 << 32, 1<<32 + 3, math.MaxInt - 7, math.MaxInt - 1, math.MaxInt}

// sizes: how many values there are where a byte, a run or all of them end.
var sizes = []int{1, 2, 3, 6, 7, 8, 9, 15, 16, 17, 23, 24, 25, 127, 128, 129, 130, 131, 1023, 1024, 1025, 1039, 1040, 1041, 1047, 1048, 1049, 4087, 4088, 4089, 4095, 4096}

// null is what is nothing.
var null = api.Value{Null: true}

// heavy are values that are nothing, and yet have a number or a text.
var heavy = []api.Value{{Null: true, N: 1}, {Null: true, S: "a"}, {Null: true, N: math.MinInt, S: "\xff"}, {Null: true, N: -1, S: "Null"}}

func number(n int) api.Value { return api.Value{N: n} }

func text(s string) api.Value { return api.Value{S: s} }

// fills make the value at a place: numbers, texts, and what may be of no kind
// but is something.
var fills = []func(i int) api.Value{
	func(i int) api.Value { return number(i + 5) },
	func(i int) api.Value { return number(i % 2) }, // 0, too, is something
	func(i int) api.Value { return text("t" + strconv.Itoa(i)) },
	func(i int) api.Value { return text(strings.Repeat("\xff", i%3)) }, // so is the empty text
	func(i int) api.Value { return api.Value{N: -i, S: strconv.Itoa(i)} },
}

// row is truths as they are written: x is true, all else false.
func row(s string) []bool {
	l := make([]bool, len(s))
	for i := range l {
		l[i] = s[i] == 'x'
	}
	return l
}

// all is so many truths that are all the same.
func all(n int, t bool) []bool { return slices.Repeat([]bool{t}, n) }

// turns is so many truths, turn about.
func turns(n int, t bool) []bool {
	l := make([]bool, n)
	for i := range l {
		l[i] = t
		t = !t
	}
	return l
}

// but is l, and from place i on so many others.
func but(l []bool, i, many int) []bool {
	l = slices.Clone(l)
	for k := i; k < min(i+many, len(l)); k++ {
		l[k] = !l[k]
	}
	return l
}

// values are those of truths: where one is true what fill makes, else nothing.
func values(present []bool, fill func(int) api.Value) []api.Value {
	l := make([]api.Value, len(present))
	for i := range l {
		l[i] = null
		if present[i] {
			l[i] = fill(i)
		}
	}
	return l
}

// weighed is l, where what is nothing has a number or a text.
func weighed(l []api.Value) []api.Value {
	l = slices.Clone(l)
	for i, v := range l {
		if v.Null {
			l[i] = heavy[i%len(heavy)]
		}
	}
	return l
}

// light is l, where what is nothing has neither.
func light(l []api.Value) []api.Value {
	l = slices.Clone(l)
	for i, v := range l {
		if v.Null {
			l[i] = null
		}
	}
	return l
}

// show tells truths by how many they are, and the first of them.
func show(l []bool) string {
	var s strings.Builder
	s.WriteString(strconv.Itoa(len(l)) + " truths: ")
	for _, t := range l[:min(len(l), 40)] {
		if t {
			s.WriteByte('x')
		} else {
			s.WriteByte('.')
		}
	}
	return s.String()
}

// told tells values by how many they are, and the first of them.
func told(l []api.Value) string {
	var s strings.Builder
	s.WriteString(strconv.Itoa(len(l)) + " values:")
	for _, v := range l[:min(len(l), 20)] {
		if v.Null {
			s.WriteString(" Null")
		}
		s.WriteString(" " + strconv.Itoa(v.N) + strconv.Quote(v.S))
	}
	return s.String()
}

// slowSplit is P13.1's words, from the back on.
func slowSplit(l []api.Value) (present []bool, some []api.Value) {
	present = make([]bool, len(l))
	for i := len(l) - 1; i >= 0; i-- {
		if present[i] = !l[i].Null; present[i] {
			some = slices.Insert(some, 0, l[i])
		}
	}
	return present, some
}

// slowJoin is P13.1's words: the values, and whether they can be put together;
// each one is found by how many are true ahead of it.
func slowJoin(present []bool, some []api.Value) (l []api.Value, ok bool) {
	places := []int{}
	for i, t := range present {
		if t {
			places = append(places, i)
		}
	}
	if len(places) != len(some) || slices.ContainsFunc(some, func(v api.Value) bool { return v.Null }) {
		return nil, false
	}
	l = slices.Repeat([]api.Value{null}, len(present))
	for k, place := range places {
		l[place] = some[k]
	}
	return l, true
}

// slowBytes are the bytes of truths, as layer 6 has them: as digits, with
// noughts behind the last one till its byte is full.
func slowBytes(l []bool) []byte {
	var out []byte
	for eight := range slices.Chunk(l, 8) {
		digits := ""
		for _, t := range eight {
			if t {
				digits += "1"
			} else {
				digits += "0"
			}
		}
		digits += strings.Repeat("0", 8-len(eight))
		x, err := strconv.ParseUint(digits, 2, 8)
		if err != nil {
			panic(err)
		}
		out = append(out, byte(x))
	}
	return out
}

// slowParts are the parts of bytes, as layer 5 has them: how often each byte
// stands from its place on is counted, and a list waits till it ends.
func slowParts(b []byte) []byte {
	var out, list []byte
	end := func() {
		if len(list) > 0 {
			out = append(append(out, byte(-len(list))), list...)
		}
		list = nil
	}
	for i := 0; i < len(b); {
		n := 1
		for n < 130 && i+n < len(b) && b[i+n] == b[i] {
			n++
		}
		if n < 3 {
			if list = append(list, b[i]); len(list) == 128 {
				end()
			}
			i++
			continue
		}
		end()
		out = append(out, byte(n-3), b[i])
		i += n
	}
	end()
	return out
}

// laid are truths as a stream, whether all of them are true or not.
func laid(present []bool) []byte { return slowParts(slowBytes(present)) }

// slowStream is P13.2's words for the stream of truths.
func slowStream(present []bool) []byte {
	if !slices.Contains(present, false) {
		return nil
	}
	return laid(present)
}

// slowTake is P13.2's words for so many truths, which is 0 to 4096: them, and
// whether the stream is theirs. Parts are taken a byte at a time.
func slowTake(stream []byte, many int) (present []bool, ok bool) {
	if len(stream) == 0 {
		return all(many, true), true
	}
	var packed []byte
	for len(stream) > 0 && len(packed) < (many+7)/8 {
		c := int(stream[0])
		stream = stream[1:]
		if c < 128 {
			if len(stream) == 0 {
				return nil, false
			}
			packed = append(packed, bytes.Repeat(stream[:1], c+3)...)
			stream = stream[1:]
			continue
		}
		if len(stream) < 256-c {
			return nil, false
		}
		packed = append(packed, stream[:256-c]...)
		stream = stream[256-c:]
	}
	if len(stream) > 0 || len(packed) != (many+7)/8 {
		return nil, false
	}
	for i := range len(packed) * 8 {
		t := packed[i/8]>>(7-i%8)%2 == 1
		if i < many {
			present = append(present, t)
		} else if t {
			return nil, false
		}
	}
	return present, slices.Contains(present, false)
}

// wantSplit asks that Split tells so of l.
func wantSplit(t *testing.T, l []api.Value, present []bool, some []api.Value) {
	t.Helper()
	gotPresent, gotSome := Split(l)
	if !slices.Equal(gotPresent, present) || !slices.Equal(gotSome, some) {
		t.Fatalf("Split(%s) = %s, %s; want %s, %s", told(l), show(gotPresent), told(gotSome), show(present), told(some))
	}
}

// wantJoin asks that Join puts them together so.
func wantJoin(t *testing.T, present []bool, some, want []api.Value) {
	t.Helper()
	if got, e := Join(present, some); e != api.OK || !slices.Equal(got, want) {
		t.Fatalf("Join(%s, %s) = %s, %d; want %s", show(present), told(some), told(got), e, told(want))
	}
}

// wantNoJoin asks that Join refuses them, with nothing beside the error.
func wantNoJoin(t *testing.T, present []bool, some []api.Value) {
	t.Helper()
	if got, e := Join(present, some); len(got) != 0 || e != api.ErrArg {
		t.Fatalf("Join(%s, %s) = %s, %d; want ErrArg", show(present), told(some), told(got), e)
	}
}

// checkJoin holds Join against the slower reckoning.
func checkJoin(t *testing.T, present []bool, some []api.Value) {
	t.Helper()
	if want, ok := slowJoin(present, some); ok {
		wantJoin(t, present, some, want)
	} else {
		wantNoJoin(t, present, some)
	}
}

// wantPut asks that Put lays l down so.
func wantPut(t *testing.T, l []api.Value, stream []byte, some []api.Value) {
	t.Helper()
	gotStream, gotSome, e := Put(l)
	if e != api.OK || !bytes.Equal(gotStream, stream) || !slices.Equal(gotSome, some) {
		t.Fatalf("Put(%s) = %x, %s, %d; want %x, %s", told(l), gotStream, told(gotSome), e, stream, told(some))
	}
}

// wantNoPut asks that Put refuses l, with nothing beside the error.
func wantNoPut(t *testing.T, l []api.Value) {
	t.Helper()
	if stream, some, e := Put(l); len(stream) != 0 || len(some) != 0 || e != api.ErrBig {
		t.Fatalf("Put(%s) = %x, %s, %d; want ErrBig", told(l), stream, told(some), e)
	}
}

// wantTake asks that Take tells so of the stream.
func wantTake(t *testing.T, stream []byte, want []bool) {
	t.Helper()
	if got, e := Take(stream, len(want)); e != api.OK || !slices.Equal(got, want) {
		t.Fatalf("Take(%x, %d) = %s, %d; want %s", stream, len(want), show(got), e, show(want))
	}
}

// wantNoTake asks that Take refuses the stream by an error, with nothing
// beside it.
func wantNoTake(t *testing.T, stream []byte, many int, want api.Errno) {
	t.Helper()
	if got, e := Take(stream, many); len(got) != 0 || e != want {
		t.Fatalf("Take(%x, %d) = %s, %d; want %d", stream, many, show(got), e, want)
	}
}

// checkTake holds Take against the slower reckoning, whatever it is given.
func checkTake(t *testing.T, stream []byte, many int) {
	t.Helper()
	if many < 0 || many > 4096 {
		wantNoTake(t, stream, many, api.ErrArg)
		return
	}
	if want, ok := slowTake(stream, many); ok {
		wantTake(t, stream, want)
	} else {
		wantNoTake(t, stream, many, api.ErrCorrupt)
	}
}

// wantAll holds every call on the values of l, and on what they tell, against
// the slower reckonings.
func wantAll(t *testing.T, l []api.Value) {
	t.Helper()
	present, some := slowSplit(l)
	wantSplit(t, l, present, some)
	wantJoin(t, present, some, light(l))
	if len(l) > 4096 {
		wantNoPut(t, l)
		return
	}
	wantPut(t, l, slowStream(present), some)
	wantTake(t, slowStream(present), present)
}

// patterns are truths of so many values: none that is nothing, one, all but
// one, and all; those at the front, in the middle and at the end; some in a
// row there; and turn about.
func patterns(n int) [][]bool {
	l := [][]bool{all(n, true), all(n, false), turns(n, true), turns(n, false)}
	for _, from := range [][]bool{all(n, true), all(n, false)} {
		for _, i := range []int{0, 1, n / 2, n - 2, n - 1} {
			if i >= 0 && i < n {
				l = append(l, but(from, i, 1))
			}
		}
		l = append(l, but(from, 0, n/3), but(from, n/3, n/3), but(from, n-n/3, n/3))
	}
	return l
}

// eachRow goes through all rows of up to so many truths.
func eachRow(most int, see func([]bool)) {
	for n := range most + 1 {
		l := make([]bool, n)
		for x := range 1 << n {
			for i := range l {
				l[i] = x>>i&1 == 1
			}
			see(l)
		}
	}
}

func TestSplitAndJoin(t *testing.T) { // P13.1: by hand
	for _, c := range []struct {
		l       []api.Value
		present string
		some    []api.Value
	}{
		{nil, "", nil},
		{[]api.Value{}, "", nil},
		{[]api.Value{number(5)}, "x", []api.Value{number(5)}},
		{[]api.Value{text("a")}, "x", []api.Value{text("a")}},
		{[]api.Value{number(0)}, "x", []api.Value{{}}}, // 0 is something, and so is the empty text
		{[]api.Value{null}, ".", nil},
		{[]api.Value{number(5), null, number(6)}, "x.x", []api.Value{number(5), number(6)}},
		{[]api.Value{number(6), number(5)}, "xx", []api.Value{number(6), number(5)}},
		{[]api.Value{null, null, null}, "...", nil},
		{[]api.Value{null, text("b"), null, text("a")}, ".x.x", []api.Value{text("b"), text("a")}},
		{[]api.Value{text(""), null, text(""), null}, "x.x.", []api.Value{{}, {}}},
		{[]api.Value{number(math.MinInt), null, null, number(math.MaxInt)}, "x..x", []api.Value{number(math.MinInt), number(math.MaxInt)}},
		{[]api.Value{{N: 3, S: "c"}, null}, "x.", []api.Value{{N: 3, S: "c"}}}, // of no kind, and yet something
	} {
		wantSplit(t, c.l, row(c.present), c.some)
		wantJoin(t, row(c.present), c.some, c.l)
		wantAll(t, c.l)
	}
}

func TestSplitOfHeavyNulls(t *testing.T) { // P13.1: with a number or a text it is nothing all the same
	for _, v := range heavy {
		wantSplit(t, []api.Value{v}, row("."), nil)
		wantSplit(t, []api.Value{number(1), v, text("a")}, row("x.x"), []api.Value{number(1), text("a")})
		wantSplit(t, []api.Value{v, number(1), v}, row(".x."), []api.Value{number(1)})
		wantPut(t, []api.Value{v}, []byte("\xff\x00"), nil)
		wantPut(t, []api.Value{number(1), v, text("a")}, []byte("\xff\xa0"), []api.Value{number(1), text("a")})
		// And put together it has neither.
		present, some := Split([]api.Value{v, number(1), v})
		wantJoin(t, present, some, []api.Value{null, number(1), null})
	}
	wantSplit(t, heavy, row("...."), nil)
}

func TestShortRows(t *testing.T) { // P13.1 to P13.3: all of them
	eachRow(9, func(present []bool) {
		for _, fill := range fills {
			l := values(present, fill)
			wantAll(t, l)
			wantAll(t, weighed(l))
		}
	})
}

func TestRoomBehind(t *testing.T) { // R6: what stands behind the end is not the list's
	l := []api.Value{number(1), null, number(2), null, null, number(3)}
	for n := range len(l) + 1 {
		present, some := slowSplit(slices.Clone(l[:n]))
		wantSplit(t, l[:n], present, some)
		wantPut(t, l[:n], slowStream(present), some)
	}
	truths := row("x.x..x")
	some := []api.Value{number(1), number(2), number(3), null}
	for n := range len(truths) + 1 {
		for k := range len(some) {
			checkJoin(t, truths[:n], some[:k])
		}
	}
	stream := []byte("\xff\xa0\xff\x80\x00\x7f")
	for n := range stream {
		for many := range 60 {
			checkTake(t, stream[:n], many)
		}
	}
}

func TestJoinOfOtherNumbers(t *testing.T) { // P13.1: as many as are asked for, some too few, some too many
	for _, n := range []int{1, 2, 3, 7, 8, 9, 127, 128, 129, 130, 131, 4096, 4097, 9000} {
		for _, present := range patterns(n) {
			count := 0
			for _, t := range present {
				if t {
					count++
				}
			}
			for _, k := range []int{0, 1, count - 2, count - 1, count, count + 1, count + 2, n, 2*count + 1} {
				if k < 0 {
					continue
				}
				some := values(all(k, true), fills[k%len(fills)])
				checkJoin(t, present, some)
				if k != count {
					wantNoJoin(t, present, some)
				}
			}
		}
	}
}

func TestJoinOfNulls(t *testing.T) { // P13.1: one of some is Null, with a number or a text or without
	for _, present := range [][]bool{row("x"), row("xx"), row("x.x"), row("xxxx"), row(".xx.xxx.x"), all(131, true), turns(131, true), all(4096, true), turns(4097, true)} {
		_, some := slowSplit(values(present, fills[0]))
		for _, i := range []int{0, 1, len(some) / 2, len(some) - 1} {
			for _, v := range append(slices.Clone(heavy), null) {
				if i >= len(some) {
					continue
				}
				wrong := slices.Clone(some)
				wrong[i] = v
				wantNoJoin(t, present, wrong)
			}
		}
		wantNoJoin(t, present, slices.Repeat([]api.Value{null}, len(some)))
		wantJoin(t, present, some, values(present, fills[0]))
	}
	// Where nothing stands none is asked for, not even one that is Null.
	wantNoJoin(t, row("."), []api.Value{null})
	wantNoJoin(t, row("x."), []api.Value{number(1), null})
	wantNoJoin(t, row(".x"), []api.Value{null, number(1)})
	wantNoJoin(t, nil, []api.Value{null})
}

func TestJoinOfOneSide(t *testing.T) { // P13.1: present without any true and some that is not empty, and the other way round
	for _, n := range []int{0, 1, 2, 8, 9, 4096, 4097} {
		wantNoJoin(t, all(n, false), []api.Value{number(1)})
		wantNoJoin(t, all(n, false), values(all(n+1, true), fills[2]))
		wantJoin(t, all(n, false), nil, slices.Repeat([]api.Value{null}, n))
		wantJoin(t, all(n, false), []api.Value{}, slices.Repeat([]api.Value{null}, n))
		if n > 0 {
			wantNoJoin(t, all(n, true), nil)
			wantNoJoin(t, all(n, true), []api.Value{})
			wantNoJoin(t, but(all(n, false), n-1, 1), nil)
		}
	}
	wantJoin(t, nil, nil, nil)
	wantJoin(t, []bool{}, []api.Value{}, nil)
}

func TestPut(t *testing.T) { // P13.2: the chapter's, and others by hand
	for present, want := range map[string]string{
		"x.x":                       "\xff\xa0", // the chapter's
		"xx":                        "",         // the chapter's
		"":                          "",
		"x":                         "",
		".":                         "\xff\x00",
		"x.":                        "\xff\x80",
		".x":                        "\xff\x40",
		"xxxxxxx":                   "",
		"xxxxxx.":                   "\xff\xfc",
		".......":                   "\xff\x00",
		"xxxxxxxx":                  "",
		"xxxxxxx.":                  "\xff\xfe",
		".xxxxxxx":                  "\xff\x7f",
		"........":                  "\xff\x00",
		"xxxxxxxxx":                 "",
		"xxxxxxxx.":                 "\xfe\xff\x00",
		".xxxxxxxx":                 "\xfe\x7f\x80",
		"........x":                 "\xfe\x00\x80",
		"x.x.....x":                 "\xfe\xa0\x80",
		"........................":  "\x00\x00",
		".........................": "\x01\x00",
		"xxxxxxxxxxxxxxxxxxxxxxxx.": "\x00\xff\xff\x00",
		"x.x.x.x.x.x.x.x.x.x.x.x.x": "\x00\xaa\xff\x80",
	} {
		for _, fill := range fills {
			l := values(row(present), fill)
			_, some := slowSplit(l)
			wantPut(t, l, []byte(want), some)
			wantTake(t, []byte(want), row(present))
		}
	}
	wantPut(t, []api.Value{number(5), null, number(6)}, []byte("\xff\xa0"), []api.Value{number(5), number(6)})
	wantPut(t, []api.Value{number(5), number(6)}, nil, []api.Value{number(5), number(6)})
	for _, l := range [][]api.Value{nil, {}, heavy[:0], values(all(9, true), fills[0])[:0]} {
		wantPut(t, l, nil, nil)
	}
}

func TestPutOfEachSize(t *testing.T) { // P13.1 to P13.3
	for _, n := range sizes {
		for i, present := range patterns(n) {
			l := values(present, fills[i%len(fills)])
			wantAll(t, l)
			wantAll(t, weighed(l))
		}
	}
	// 4096 truths are 512 bytes: runs of 130, 130, 130 and 122.
	wantPut(t, values(all(4096, false), fills[0]), []byte("\x7f\x00\x7f\x00\x7f\x00\x77\x00"), nil)
	l := values(but(all(4096, true), 4095, 1), fills[0])
	wantPut(t, l, []byte("\x7f\xff\x7f\xff\x7f\xff\x76\xff\xff\xfe"), l[:4095])
	l = values(but(all(4096, true), 0, 1), fills[2])
	wantPut(t, l, []byte("\xff\x7f\x7f\xff\x7f\xff\x7f\xff\x76\xff"), l[1:])
	l = values(all(4096, true), fills[2])
	wantPut(t, l, nil, l)
	// One that is nothing, at each place.
	for i := range 131 {
		wantAll(t, values(but(all(131, true), i, 1), fills[0]))
		wantAll(t, values(but(all(131, false), i, 1), fills[2]))
	}
}

func TestPutOfTooMany(t *testing.T) { // P13.2: whether any is nothing or not
	for _, n := range []int{4097, 4098, 4104, 8192, 1 << 16} {
		for i, present := range patterns(n) {
			l := values(present, fills[i%len(fills)])
			wantNoPut(t, l)
			wantNoPut(t, weighed(l))
		}
	}
	for _, present := range patterns(4097) { // Split and Join have no such bound
		wantAll(t, values(present, fills[0]))
	}
}

func TestTakeOfEachMany(t *testing.T) { // P13.2: 0 to 4096
	noughts := map[int][]byte{}
	for many := -20; many <= 4120; many++ {
		checkTake(t, nil, many)
		checkTake(t, []byte{}, many)
		checkTake(t, []byte("\xff\x00"), many)
		size := max(many+7, 0) / 8
		if noughts[size] == nil {
			noughts[size] = slowParts(make([]byte, size))
		}
		checkTake(t, noughts[size], many)
	}
	for _, many := range []int{0, 1, 2, 7, 8, 9, 4095, 4096} {
		wantTake(t, nil, all(many, true))
		wantTake(t, []byte{}, all(many, true))
		wantTake(t, []byte("\xff\xa0")[:0], all(many, true))
	}
}

func TestTakeOfWrongMany(t *testing.T) { // P13.2, R3: told ahead of what is wrong with the stream
	for _, many := range farMany {
		for _, stream := range []string{"", "\x00", "\xff", "\xff\x00", "\xff\xa0", "\xff\xff", "\x7f", "\x80abc", "\xff\xa0\x00"} {
			wantNoTake(t, []byte(stream), many, api.ErrArg)
		}
		wantNoTake(t, nil, many, api.ErrArg)
		wantNoTake(t, laid(all(4097, false)), many, api.ErrArg) // of 4097 it is just what stands there
		wantNoTake(t, laid(all(4097, true)), many, api.ErrArg)
	}
}

func TestTakeOfNone(t *testing.T) { // P13.2: of no values there is no stream
	for _, stream := range []string{"\x00", "\xff", "\xff\x00", "\x00\x00", "\xff\x80", "\x7f\xff", "\x80abc", strings.Repeat("\x00", 600)} {
		wantNoTake(t, []byte(stream), 0, api.ErrCorrupt)
	}
	wantTake(t, nil, nil)
}

func TestTakeOfAllTrue(t *testing.T) { // P13.2: that is told by no stream
	for n := range 4097 {
		if n > 200 && n < 4000 && n%17 != 0 {
			continue
		}
		if n > 0 {
			wantNoTake(t, laid(all(n, true)), n, api.ErrCorrupt)
		}
		wantTake(t, nil, all(n, true))
	}
	wantNoTake(t, []byte("\xff\x80"), 1, api.ErrCorrupt)
	wantNoTake(t, []byte("\xff\xe0"), 3, api.ErrCorrupt)
	wantNoTake(t, []byte("\xff\xff"), 8, api.ErrCorrupt)
	wantNoTake(t, []byte("\xff\xff\xff\xff"), 16, api.ErrCorrupt) // in parts that Put would not lay down so
	wantTake(t, []byte("\xff\xfe"), row("xxxxxxx."))              // all but one is another thing
	wantTake(t, []byte("\xff\xff\xff\xfe"), row("xxxxxxxxxxxxxxx."))
	wantTake(t, []byte("\xff\x7f\xff\xff"), row(".xxxxxxxxxxxxxxx"))
}

// streams are truths of which one is false at least.
func streams() [][]bool {
	from := rand.New(rand.NewSource(3))
	l := [][]bool{row("."), row("x."), row("x.x"), row(".xxxxxxx"), row("xxxxxxx."), row("x.x.....x"), all(24, false), but(all(25, true), 24, 1), turns(131, true), turns(131, false), but(all(1041, true), 600, 3), all(1049, false), all(4096, false), but(all(4096, true), 4095, 1), but(all(4095, true), 0, 1)}
	for _, n := range []int{9, 60, 300, 2000, 4096} {
		l = append(l, but(someTruths(from, n), 0, 1), but(someTruths(from, n), n-1, 1))
	}
	return slices.DeleteFunc(l, func(present []bool) bool { return !slices.Contains(present, false) })
}

func TestTakeCut(t *testing.T) { // P13.2: at each place; where nothing is left, all are true
	for _, present := range streams() {
		stream := slowStream(present)
		for n := range stream {
			if n == 0 {
				wantTake(t, stream[:0], all(len(present), true))
				continue
			}
			wantNoTake(t, stream[:n], len(present), api.ErrCorrupt)
		}
		wantTake(t, stream, present)
	}
}

func TestTakeOfMore(t *testing.T) { // P13.2: bytes are left behind
	for _, present := range streams() {
		stream := slowStream(present)
		for _, rest := range []string{"\x00", "\x01", "\x7f", "\x80", "\xff", "\x00\x00", "\xff\x00", "\x80 and more", string(stream), strings.Repeat("\x00", 4096)} {
			wantNoTake(t, append(bytes.Clone(stream), rest...), len(present), api.ErrCorrupt)
			checkTake(t, append([]byte(rest), stream...), len(present)) // and ahead of it
		}
	}
}

func TestTakeOfTurnedBytes(t *testing.T) { // P13.2: each byte, as any other
	for _, present := range streams() {
		stream := slowStream(present)
		for i := range min(len(stream), 40) {
			for c := range 256 {
				turned := bytes.Clone(stream)
				turned[i] = byte(c)
				checkTake(t, turned, len(present))
			}
		}
	}
	// A bit behind the last one is 1; a last one that is turned to true.
	for bit := range 5 {
		wantNoTake(t, []byte{0xff, 0xa0 | 1<<bit}, 3, api.ErrCorrupt)
	}
	wantNoTake(t, []byte("\xff\xe0"), 3, api.ErrCorrupt)
	wantTake(t, []byte("\xff\x20"), row("..x"))
}

func TestTakeOfOtherMany(t *testing.T) { // P13.2: one less, and one more, than were laid down
	for _, present := range streams() {
		stream := slowStream(present)
		for _, d := range []int{-9, -8, -7, -2, -1, 1, 2, 7, 8, 9} {
			checkTake(t, stream, len(present)+d)
		}
	}
	// Noughts behind the last one are no values, but may be: that many was other is
	// told where it needs other bytes, where a one is left over, and where no
	// nothing is left.
	wantTake(t, []byte("\xff\xa0"), row("x.x."))
	wantTake(t, []byte("\xff\xa0"), row("x.x....."))
	wantNoTake(t, []byte("\xff\xa0"), 2, api.ErrCorrupt)
	wantNoTake(t, []byte("\xff\xa0"), 1, api.ErrCorrupt)
	wantNoTake(t, []byte("\xff\xa0"), 9, api.ErrCorrupt)
	wantTake(t, []byte("\xff\x80"), row("x.."))
	wantTake(t, []byte("\xff\x80"), row("x."))
	wantNoTake(t, []byte("\xff\x80"), 1, api.ErrCorrupt)
	wantNoTake(t, []byte("\xfe\xa0\x80"), 8, api.ErrCorrupt)
	wantNoTake(t, []byte("\xfe\xa0\x80"), 17, api.ErrCorrupt)
	wantNoTake(t, laid(all(4089, false)), 4088, api.ErrCorrupt)
	wantNoTake(t, laid(all(4088, false)), 4089, api.ErrCorrupt)
}

func TestTakeOfOtherParts(t *testing.T) { // P13.2: what Put would not lay down so is truths, too
	wantTake(t, []byte("\xff\xff\xff\x00"), row("xxxxxxxx."))
	wantTake(t, []byte("\xfd\x00\x00\x00"), all(24, false))
	wantTake(t, []byte("\xff\x00\xff\x00\xff\x00"), all(24, false))
	wantTake(t, []byte("\x00\x00\x00\x00"), all(48, false))
	wantTake(t, bytes.Repeat([]byte("\xff\x00"), 512), all(4096, false))
}

func TestTakeOfShortStreams(t *testing.T) { // P13.2: all of one byte and of two, and some of three and four
	for c := range 256 {
		for many := range 27 {
			checkTake(t, []byte{byte(c)}, many)
			for _, d := range []int{0, 1, 0x3f, 0x40, 0x7f, 0x80, 0xa0, 0xfe, 0xff} {
				checkTake(t, []byte{byte(c), byte(d)}, many)
				checkTake(t, []byte{byte(d), byte(c)}, many)
				checkTake(t, []byte{0xfe, byte(c), byte(d)}, many)
				checkTake(t, []byte{0xfe, byte(d), byte(c)}, many)
				checkTake(t, []byte{0xff, byte(d), 0xff, byte(c)}, many)
			}
		}
	}
	for many := range 17 {
		for x := range 1 << 16 {
			checkTake(t, []byte{byte(x >> 8), byte(x)}, many)
		}
	}
}

func TestTwoWrong(t *testing.T) { // R3
	for _, many := range []int{-1, 4097, math.MinInt, math.MaxInt} {
		for _, stream := range []string{"\xff", "\xff\xff", "\xff\xa1", "\xff\xa0\x00"} {
			wantNoTake(t, []byte(stream), many, api.ErrArg)
		}
	}
	wantNoTake(t, []byte("\xff\xff\x00"), 8, api.ErrCorrupt)     // all true, and bytes left
	wantNoTake(t, []byte("\xff\xff\x00"), 3, api.ErrCorrupt)     // bits behind, and bytes left
	wantNoJoin(t, row("x"), []api.Value{null, null})             // too many, and Null
	wantNoJoin(t, row("xxx"), []api.Value{null})                 // too few, and Null
	wantNoPut(t, weighed(values(all(4097, false), fills[0])))    // too many, and none that may be
	wantNoPut(t, values(turns(5000, true), fills[len(fills)-1])) // the same of what is something
}

// someTruths are so many, of stretches that are one, the other, turn about, or
// by chance.
func someTruths(from *rand.Rand, n int) []bool {
	var l []bool
	for len(l) < n {
		size := 1 + from.Intn(1<<from.Intn(12))
		switch from.Intn(3) {
		case 0:
			l = append(l, all(size, from.Intn(2) == 0)...)
		case 1:
			l = append(l, turns(size, from.Intn(2) == 0)...)
		default:
			for range size {
				l = append(l, from.Intn(2) == 0)
			}
		}
	}
	return l[:n]
}

func TestBackAgain(t *testing.T) { // P13.3: of values drawn
	from := rand.New(rand.NewSource(1))
	for n := range 700 {
		if n > 200 {
			n = from.Intn(4097)
		}
		l := values(someTruths(from, n), fills[from.Intn(len(fills))])
		present, some := Split(l)
		if back, e := Join(present, some); e != api.OK || !slices.Equal(back, l) {
			t.Fatalf("Join of Split of %s = %s, %d", told(l), told(back), e)
		}
		stream, same, e := Put(l)
		if e != api.OK || !slices.Equal(same, some) {
			t.Fatalf("Put(%s) = %x, %s, %d", told(l), stream, told(same), e)
		}
		if back, e := Take(stream, n); e != api.OK || !slices.Equal(back, present) {
			t.Fatalf("Take of Put of %s = %s, %d", told(l), show(back), e)
		}
		wantAll(t, l)
	}
}

// TestValuesAreLeft: values that are handed in, and the room behind them, stay
// as they were, and what is answered is the caller's own.
func TestValuesAreLeft(t *testing.T) { // R7
	room := weighed(values(row("xx.x..xxxxxxxxx.xx"), fills[4]))
	for n := range len(room) + 1 {
		for from := range n + 1 { // also of values that are all something, where there is no stream
			l := slices.Clone(room)
			present, some := slowSplit(room[from:n])
			onePresent, oneSome := Split(l[from:n])
			otherPresent, otherSome := Split(l[from:n])
			oneStream, onePut, _ := Put(l[from:n])
			otherStream, otherPut, _ := Put(l[from:n])
			clear(onePresent[:cap(onePresent)])
			clear(oneSome[:cap(oneSome)])
			clear(oneStream[:cap(oneStream)])
			clear(onePut[:cap(onePut)])
			if !slices.Equal(l, room) {
				t.Fatalf("Split and Put of %d to %d: handed in is now %s", from, n, told(l))
			}
			clear(l)
			if !slices.Equal(otherPresent, present) || !slices.Equal(otherSome, some) || !bytes.Equal(otherStream, slowStream(present)) || !slices.Equal(otherPut, some) {
				t.Fatalf("Split and Put of %d to %d: an answer went with another, or with what was handed in", from, n)
			}
		}
	}
}

// TestTruthsAreLeft: the same of what Join is given.
func TestTruthsAreLeft(t *testing.T) { // R7
	truths := row("x.xx..xxx.x")
	_, room := slowSplit(values(all(20, true), fills[2]))
	for n := range len(truths) + 1 {
		for k := range len(room) { // most are refused
			present, some := slices.Clone(truths), slices.Clone(room)
			want, _ := slowJoin(truths[:n], room[:k])
			one, _ := Join(present[:n], some[:k])
			other, _ := Join(present[:n], some[:k])
			clear(one[:cap(one)])
			if !slices.Equal(present, truths) || !slices.Equal(some, room) {
				t.Fatalf("Join of %d and %d: handed in is now %s, %s", n, k, show(present), told(some))
			}
			clear(present)
			clear(some)
			if !slices.Equal(other, want) {
				t.Fatalf("Join of %d and %d: an answer went with another, or with what was handed in: %s", n, k, told(other))
			}
		}
	}
}

// TestBytesAreLeft: the same of what Take is given.
func TestBytesAreLeft(t *testing.T) { // R7
	const room = "\xfe\xa5\x80 room behind"
	for _, many := range []int{0, 1, 9, 12, 16, 24, -1, 4097} { // some are refused
		for n := range len(room) {
			b := []byte(room)
			one, _ := Take(b[:n], many)
			other, _ := Take(b[:n], many)
			want := slices.Clone(other)
			for i := range one[:cap(one)] {
				one[:cap(one)][i] = !one[:cap(one)][i]
			}
			if string(b) != room {
				t.Fatalf("Take of %d bytes, %d: handed in is now %q", n, many, b)
			}
			clear(b)
			if !slices.Equal(other, want) {
				t.Fatalf("Take of %d bytes, %d: an answer went with another, or with what was handed in: %s", n, many, show(other))
			}
		}
	}
}

func FuzzPut(f *testing.F) { // P13.1 to P13.3
	f.Add([]byte(nil), uint16(0))
	f.Add([]byte("\xa0"), uint16(0))
	f.Add([]byte("\xff\xff"), uint16(131))
	f.Add([]byte("\x01\x02\x00"), uint16(4096))
	f.Fuzz(func(t *testing.T, b []byte, more uint16) {
		var l []api.Value
		for i, c := range b {
			v := fills[int(c>>1)%len(fills)](i)
			v.Null = c%2 == 1
			l = append(l, v)
		}
		if len(l) > 0 { // its last one some times more, for runs that are long
			l = append(l, slices.Repeat(l[len(l)-1:], int(more)%5000)...)
		}
		wantAll(t, l)
	})
}

func FuzzJoin(f *testing.F) { // P13.1
	f.Add([]byte(nil), []byte(nil))
	f.Add([]byte("x.x"), []byte("ab"))
	f.Add([]byte("x.x"), []byte("a"))
	f.Add([]byte("xx"), []byte("a."))
	f.Fuzz(func(t *testing.T, present, letters []byte) {
		var some []api.Value
		for _, c := range letters {
			some = append(some, api.Value{Null: c == '.', S: string(c)})
		}
		checkJoin(t, row(string(present)), some)
	})
}

func FuzzTake(f *testing.F) { // P13.2
	f.Add([]byte(nil), 0)
	f.Add([]byte("\xff\xa0"), 3)
	f.Add([]byte("\xff\xe0"), 3)
	f.Add([]byte("\x7f\xff\xff\x00"), 1048)
	f.Add([]byte("\x80"), -1)
	f.Fuzz(func(t *testing.T, stream []byte, many int) {
		checkTake(t, stream, many)
		checkTake(t, stream, many%1200)
	})
}
