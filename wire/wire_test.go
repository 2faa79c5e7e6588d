package wire

import (
	"bytes"
	"math"
	"math/big"
	"math/rand"
	"runtime"
	"slices"
	"strings"
	"testing"

	"pilaster/api"
	"pilaster/stats"
)

const (
	least    = math.MinInt
	greatest = math.MaxInt
)

// kinds are all that there are, first those of numbers, then those of texts.
var (
	kinds     = []int{1, 2, 3, 4, 5, 6, 7}
	ofNumbers = kinds[:5]
	ofLetters = kinds[5:]
)

// noKinds are none.
var noKinds = []int{least, -1 << 32, -1<<32 + 2, -254, -7, -2, -1, 0, 8, 9, 16, 257, 258, 262, 1<<32 + 2, 1<<32 + 6, greatest}

// tags are some that may be: from 16 on a head has two bytes.
var tags = []int{1, 2, 14, 15, 16, 17, 31, 32, 63, 64, 99, 100}

// noTags are none.
var noTags = []int{least, least + 1, -1 << 61, -1<<61 + 1, -1 << 32, -1<<32 + 1, -256, -255, -101, -100, -1, 0, 101, 102, 127, 128, 129, 256, 257, 1<<32 + 1, 1 << 61, 1<<61 + 1, greatest - 1, greatest}

// plains are numbers at the ends of what a byte more is needed for.
var plains = []uint64{0, 1, 2, 126, 127, 128, 255, 256, 300, 1<<14 - 1, 1 << 14, 1<<32 - 1, 1 << 32, 1<<56 - 1, 1 << 56, 1<<63 - 1, 1 << 63, 1<<64 - 1}

// sizes are how many bytes a field has.
var sizes = []int{0, 1, 2, 126, 127, 128, 129, 300, 16383, 16384}

// ints are numbers of values.
var ints = []int{least, least + 1, -1<<32 - 1, -1 << 32, -65, -64, -2, -1, 0, 1, 2, 63, 64, 300, 1 << 32, greatest - 1, greatest}

// strung are texts of values; not all of them are right UTF-8.
var strung = []string{"", "\x00", "a", "ab", "é", "\xff", "\x80\x80", "a\xc3", strings.Repeat("x", 127), strings.Repeat("y", 128), strings.Repeat("é", 150), strings.Repeat("\xfe", 300), strings.Repeat("z", 301)}

// nothing is a value that is nothing.
var nothing = api.Value{Null: true}

func num(tag int, n uint64) Field { return Field{Tag: tag, N: n} }

func str(tag int, s string) Field { return Field{Tag: tag, Bytes: true, B: []byte(s)} }

// many are so many bytes of a field, no two like each other near by.
func many(n int) string {
	b := make([]byte, n)
	for i := range b {
		b[i] = byte(i*7 + i/256)
	}
	return string(b)
}

// slowNumber is a number by sevens of bits, got by parting it again and again.
func slowNumber(x uint64) []byte {
	if x < 128 {
		return []byte{byte(x)}
	}
	return append([]byte{byte(128 + x%128)}, slowNumber(x/128)...)
}

// long is a number in more bytes than it needs: noughts behind its last one.
func long(x uint64, more int) string {
	b := slowNumber(x)
	for range more {
		b[len(b)-1] |= 128
		b = append(b, 0)
	}
	return string(b)
}

// slowField is a field as it is laid down.
func slowField(f Field) []byte {
	if f.Bytes {
		return slices.Concat(slowNumber(uint64(8*f.Tag+2)), slowNumber(uint64(len(f.B))), f.B)
	}
	return slices.Concat(slowNumber(uint64(8*f.Tag)), slowNumber(f.N))
}

// slowPut is Put of fields that may be.
func slowPut(l ...Field) []byte {
	var parts [][]byte
	for _, f := range l {
		parts = append(parts, slowField(f))
	}
	return slices.Concat(parts...)
}

// slowLeading tries how many bytes the number has that b begins with: 0, if it
// begins with none.
func slowLeading(b []byte) (uint64, int) {
	sum := new(big.Int)
	for i := 0; i < len(b) && i < 10; i++ {
		part := big.NewInt(int64(b[i]) % 128)
		sum.Add(sum, part.Lsh(part, uint(7*i)))
		if sum.IsUint64() && bytes.Equal(slowNumber(sum.Uint64()), b[:i+1]) {
			return sum.Uint64(), i + 1
		}
	}
	return 0, 0
}

// slowFirst tries each tag, and both ways to stand, till a field is laid down
// just as b begins.
func slowFirst(b []byte) (Field, bool) {
	for tag := 1; tag <= 100; tag++ {
		if after, ok := bytes.CutPrefix(b, slowNumber(uint64(8*tag))); ok {
			x, n := slowLeading(after)
			return num(tag, x), n > 0
		}
		if after, ok := bytes.CutPrefix(b, slowNumber(uint64(8*tag+2))); ok {
			x, n := slowLeading(after)
			after = after[n:]
			if n == 0 || x > uint64(len(after)) {
				return Field{}, false
			}
			return str(tag, string(after[:x])), true
		}
	}
	return Field{}, false
}

// slowTake is Take, field by field.
func slowTake(b []byte) ([]Field, bool) {
	var l []Field
	for len(b) > 0 {
		f, ok := slowFirst(b)
		if !ok {
			return nil, false
		}
		l = append(l, f)
		b = b[len(slowField(f)):]
	}
	return l, true
}

// slowZig is 2 x, or -2 x - 1.
func slowZig(x int) uint64 {
	z := new(big.Int).Mul(big.NewInt(2), big.NewInt(int64(x)))
	if x < 0 {
		z.Neg(z)
		z.Sub(z, big.NewInt(1))
	}
	return z.Uint64()
}

// slowZag is half of u, or what is below 0 by its other half.
func slowZag(u uint64) int {
	if u%2 == 0 {
		return int(u / 2)
	}
	return -int(u/2) - 1
}

func slowTruth(t bool) uint64 { return map[bool]uint64{false: 0, true: 1}[t] }

func valueFields(v api.Value) []Field {
	return []Field{num(1, slowTruth(v.Null)), num(2, slowZig(v.N)), str(3, v.S)}
}

func statsFields(s api.Stats) []Field {
	return []Field{
		num(1, uint64(s.Count)), num(2, slowTruth(s.HasNull)),
		str(3, string(slowPut(valueFields(s.Min)...))), str(4, string(slowPut(valueFields(s.Max)...))),
		num(5, slowZig(s.Sum)), num(6, slowTruth(s.Over)),
	}
}

// slowTakeValue guesses the value by its fields, and asks whether it is laid
// down just so.
func slowTakeValue(b []byte) (api.Value, bool) {
	l, _ := slowTake(b)
	if len(l) != 3 {
		return api.Value{}, false
	}
	v := api.Value{Null: l[0].N == 1, N: slowZag(l[1].N), S: string(l[2].B)}
	if !bytes.Equal(slowPut(valueFields(v)...), b) {
		return api.Value{}, false
	}
	return v, true
}

// slowTakeStats does so of stats, and asks whether they may be.
func slowTakeStats(kind int, b []byte) (api.Stats, bool) {
	l, _ := slowTake(b)
	if len(l) != 6 {
		return api.Stats{}, false
	}
	s := api.Stats{Count: int(l[0].N), HasNull: l[1].N == 1, Sum: slowZag(l[4].N), Over: l[5].N == 1}
	var fits, fitsToo bool
	s.Min, fits = slowTakeValue(l[2].B)
	s.Max, fitsToo = slowTakeValue(l[3].B)
	if !fits || !fitsToo || !bytes.Equal(slowPut(statsFields(s)...), b) || !stats.May(kind, s) {
		return api.Stats{}, false
	}
	return s, true
}

// same tells whether fields are the same, in all that they have.
func same(a, b []Field) bool {
	return slices.EqualFunc(a, b, func(x, y Field) bool {
		return x.Tag == y.Tag && x.Bytes == y.Bytes && x.N == y.N && bytes.Equal(x.B, y.B)
	})
}

// bare are fields without what is not laid down.
func bare(l []Field) []Field {
	l = slices.Clone(l)
	for i := range l {
		if l[i].Bytes {
			l[i].N = 0
		} else {
			l[i].B = nil
		}
	}
	return l
}

// short tells bytes, but not too many.
func short(b []byte) []byte { return b[:min(len(b), 60)] }

// wantTake fails, if b is not taken as want.
func wantTake(t *testing.T, b []byte, want []Field) {
	t.Helper()
	if l, e := Take(b); e != api.OK || !same(l, want) {
		t.Fatalf("Take(% x) is %v, %d; want %v", short(b), l, e, want)
	}
}

// wantNoTake fails, if b is taken.
func wantNoTake(t *testing.T, b []byte) {
	t.Helper()
	if l, e := Take(b); e != api.ErrCorrupt || len(l) != 0 {
		t.Fatalf("Take(% x) is %v, %d; want ErrCorrupt", short(b), l, e)
	}
}

// checkTake holds Take against the slower reckoning, and what it takes against
// what Put lays down again.
func checkTake(t *testing.T, b []byte) {
	t.Helper()
	want, ok := slowTake(b)
	if !ok {
		wantNoTake(t, b)
		return
	}
	wantTake(t, b, want)
	if again, e := Put(want); e != api.OK || !bytes.Equal(again, b) {
		t.Fatalf("Put(%v) is % x, %d; it was taken of % x", want, short(again), e, short(b))
	}
}

// wantBoth fails, if fields are not laid down as they should be, or not taken
// as they were.
func wantBoth(t *testing.T, l []Field) {
	t.Helper()
	want := slowPut(l...)
	b, e := Put(l)
	if e != api.OK || !bytes.Equal(b, want) {
		t.Fatalf("Put(%v) is % x, %d; want % x", l, short(b), e, short(want))
	}
	wantTake(t, b, bare(l))
}

// wantNoPut fails, if fields are laid down.
func wantNoPut(t *testing.T, l []Field) {
	t.Helper()
	if b, e := Put(l); e != api.ErrArg || len(b) != 0 {
		t.Fatalf("Put(%v) is % x, %d; want ErrArg", l, short(b), e)
	}
}

// checkTakeValue holds TakeValue against the slower reckoning.
func checkTakeValue(t *testing.T, b []byte) (taken bool) {
	t.Helper()
	v, e := TakeValue(b)
	want, ok := slowTakeValue(b)
	if v != want || e != map[bool]api.Errno{false: api.ErrCorrupt, true: api.OK}[ok] {
		t.Fatalf("TakeValue(% x) is %#v, %d; want %#v, %v", short(b), v, e, want, ok)
	}
	if ok && !bytes.Equal(PutValue(v), b) {
		t.Fatalf("PutValue(%#v) is % x; it was taken of % x", v, short(PutValue(v)), short(b))
	}
	return ok
}

// wantNoValue fails, if b is taken as a value.
func wantNoValue(t *testing.T, b []byte) {
	t.Helper()
	if checkTakeValue(t, b) {
		t.Fatalf("TakeValue(% x) is taken; want ErrCorrupt", short(b))
	}
}

// wantValue fails, if a value is not laid down as it should be, or not taken as
// it was.
func wantValue(t *testing.T, v api.Value) {
	t.Helper()
	b := PutValue(v)
	if want := slowPut(valueFields(v)...); !bytes.Equal(b, want) {
		t.Fatalf("PutValue(%#v) is % x; want % x", v, short(b), short(want))
	}
	if w, e := TakeValue(b); w != v || e != api.OK {
		t.Fatalf("TakeValue(% x) is %#v, %d; want %#v", short(b), w, e, v)
	}
}

// checkTakeStats holds TakeStats against the slower reckoning.
func checkTakeStats(t *testing.T, kind int, b []byte) (taken bool) {
	t.Helper()
	s, e := TakeStats(kind, b)
	want, ok := slowTakeStats(kind, b)
	if s != want || e != map[bool]api.Errno{false: api.ErrCorrupt, true: api.OK}[ok] {
		t.Fatalf("TakeStats(%d, % x) is %#v, %d; want %#v, %v", kind, short(b), s, e, want, ok)
	}
	if ok && !bytes.Equal(PutStats(s), b) {
		t.Fatalf("PutStats(%#v) is % x; it was taken of % x", s, short(PutStats(s)), short(b))
	}
	return ok
}

// wantNoStats fails, if b is taken as stats of a kind.
func wantNoStats(t *testing.T, kind int, b []byte) {
	t.Helper()
	if checkTakeStats(t, kind, b) {
		t.Fatalf("TakeStats(%d, % x) is taken; want ErrCorrupt", kind, short(b))
	}
}

// wantLaid fails, if stats, that need not be such as may be, are not laid down
// as they should be.
func wantLaid(t *testing.T, s api.Stats) []byte {
	t.Helper()
	b := PutStats(s)
	if want := slowPut(statsFields(s)...); !bytes.Equal(b, want) {
		t.Fatalf("PutStats(%#v) is % x; want % x", s, short(b), short(want))
	}
	return b
}

// wantStats fails, if stats are not laid down as they should be, or not taken
// as they were, of the kind.
func wantStats(t *testing.T, kind int, s api.Stats) {
	t.Helper()
	b := wantLaid(t, s)
	if x, e := TakeStats(kind, b); x != s || e != api.OK {
		t.Fatalf("TakeStats(%d, % x) is %#v, %d; want %#v", kind, short(b), x, e, s)
	}
}

// rows are fields as the promises name them.
func rows() [][]Field {
	all := [][]Field{nil, {}, {num(1, 300), str(2, "ab")}, {num(7, 1), num(7, 2), str(7, "x"), str(7, "y")}, {num(3, 1), str(2, "b"), num(1, 3)}, {num(100, 0), num(1, 0), str(100, ""), str(1, "")}}
	var mixed []Field
	for i, tag := range tags {
		for _, x := range plains {
			all = append(all, []Field{num(tag, x)})
		}
		for _, n := range sizes {
			all = append(all, []Field{str(tag, many(n))})
		}
		mixed = append(mixed, num(tag, plains[i]), str(tag, many(sizes[i%8])))
	}
	all = append(all, mixed, []Field{{Tag: 1, Bytes: true}, {Tag: 16, Bytes: true, B: []byte{}}, {Tag: 2}})
	turned := slices.Clone(mixed)
	slices.Reverse(turned)
	return append(all, turned, slices.Concat(mixed, turned, mixed))
}

// drawnField is one of any tag, with a number or bytes, but rarely both.
func drawnField(r *rand.Rand) Field {
	f := num(1+r.Intn(100), r.Uint64()>>r.Intn(64))
	switch r.Intn(8) {
	case 0:
		f.N = plains[r.Intn(len(plains))]
	case 1: // bytes beside a number, which are not laid down
		f.B = []byte(many(r.Intn(9)))
	case 2: // a number beside bytes
		f.Bytes, f.B = true, []byte(many(r.Intn(9)))
	case 3, 4, 5:
		f = str(f.Tag, "")
		f.B = make([]byte, r.Intn(10)*r.Intn(10)*r.Intn(5))
		r.Read(f.B)
	}
	return f
}

func drawnFields(r *rand.Rand) []Field {
	l := make([]Field, r.Intn(12))
	for i := range l {
		l[i] = drawnField(r)
	}
	return l
}

// near are bytes with a few of them turned, taken away, or more.
func near(r *rand.Rand, b []byte) []byte {
	b = slices.Clone(b)
	for range 1 + r.Intn(2) {
		if len(b) == 0 {
			return []byte{byte(r.Intn(256))}
		}
		i := r.Intn(len(b))
		switch r.Intn(4) {
		case 0:
			b[i] ^= 1 << r.Intn(8)
		case 1:
			b = slices.Delete(b, i, i+1)
		case 2:
			b = slices.Insert(b, i, "\x00\x01\x02\x08\x0a\x10\x12\x7f\x80\xff"[r.Intn(10)])
		case 3:
			b[i] = byte(r.Intn(256))
		}
	}
	return b
}

// drawnValue is any: most are just one of nothing, a number and a text.
func drawnValue(r *rand.Rand) api.Value {
	v := api.Value{N: int(r.Uint64()) >> r.Intn(64)}
	if r.Intn(2) == 0 {
		v = api.Value{S: many(r.Intn(20) * r.Intn(16))}
	}
	switch r.Intn(10) {
	case 0:
		v.Null = true
	case 1:
		v.N = ints[r.Intn(len(ints))]
	case 2:
		v.S = strung[r.Intn(len(strung))]
	case 3:
		v = nothing
	}
	return v
}

// valuesOf are some that may be of a kind, of which so many of ten are nothing.
func valuesOf(r *rand.Rand, kind, gaps int) []api.Value {
	l := make([]api.Value, r.Intn(8))
	bits := r.Intn(64)
	for i := range l {
		switch {
		case r.Intn(10) < gaps:
			l[i] = nothing
		case kind == api.Bool:
			l[i].N = r.Intn(2)
		case kind <= 5:
			l[i].N = int(r.Uint64()) >> bits
		case kind == api.Text:
			l[i].S = strings.Repeat("é😀a\x00b", r.Intn(3)) + "c"
		default:
			l[i].S = many(r.Intn(20) * r.Intn(15))
		}
	}
	return l
}

// drawnStats are some that may be of a kind.
func drawnStats(r *rand.Rand, kind int) api.Stats {
	s := stats.Of(kind, valuesOf(r, kind, []int{0, 3, 10}[r.Intn(3)]))
	if s.Count > 0 && r.Intn(4) == 0 {
		s.Count = 1 + r.Intn(409600)
	}
	return s
}

// known are stats that may be, by kind: of no values, of values that are all
// nothing, of some and of both; with a sum below 0 and above, and over.
func known() map[int][]api.Stats {
	all := map[int][]api.Stats{}
	for _, kind := range kinds {
		of := []api.Value{{N: 0}, {N: 1}}
		if kind > 5 {
			of = []api.Value{{S: ""}, {S: "aé"}}
		}
		for _, l := range [][]api.Value{nil, {nothing}, {nothing, nothing}, of, {of[1]}, {nothing, of[0]}, {of[0], nothing, of[1]}} {
			all[kind] = append(all[kind], stats.Of(kind, l))
		}
	}
	for _, kind := range ofNumbers[1:] {
		for _, l := range [][]int{{-1}, {-3, 2}, {least}, {greatest}, {least, greatest}, {greatest, 1}, {least, -1}, {-65, 64}, {63, 1}, {300, 5000}} {
			gappy := []api.Value{nothing}
			for _, n := range l {
				gappy = append(gappy, api.Value{N: n})
			}
			all[kind] = append(all[kind], stats.Of(kind, gappy), stats.Of(kind, gappy[1:]))
		}
		all[kind] = append(all[kind], api.Stats{Count: 409600, Min: api.Value{N: 1}, Max: api.Value{N: 2}, Over: true, HasNull: true})
	}
	for _, kind := range ofLetters {
		all[kind] = append(all[kind], api.Stats{Count: 409600, Min: api.Value{S: "a"}, Max: api.Value{S: strings.Repeat("é", 150)}, HasNull: true})
	}
	bytes := api.Stats{Count: 2, Min: api.Value{S: "\x80"}, Max: api.Value{S: strings.Repeat("\xff", 300)}}
	all[api.Bytes] = append(all[api.Bytes], bytes)
	return all
}

// eachKnown goes through them, with what each is laid down as.
func eachKnown(look func(kind int, s api.Stats, b []byte)) {
	for kind, l := range known() {
		for _, s := range l {
			look(kind, s, slowPut(statsFields(s)...))
		}
	}
}

// P19.1, P19.2: the chapter's examples.
func TestExamples(t *testing.T) {
	b, e := Put([]Field{num(1, 300), str(2, "ab")})
	if string(b) != "\x08\xac\x02\x12\x02\x61\x62" || e != api.OK {
		t.Errorf("Put is % x, %d", b, e)
	}
	wantTake(t, []byte("\x08\xac\x02\x12\x02\x61\x62"), []Field{num(1, 300), str(2, "ab")})
	if b := PutValue(api.Value{N: -1}); string(b) != "\x08\x00\x10\x01\x1a\x00" {
		t.Errorf("PutValue is % x", b)
	}
	if v, e := TakeValue([]byte("\x08\x00\x10\x01\x1a\x00")); v != (api.Value{N: -1}) || e != api.OK {
		t.Errorf("TakeValue is %#v, %d", v, e)
	}
}

// P19.1: bytes by hand, so that the slower reckoning is held against them, too.
func TestPutByHand(t *testing.T) {
	for _, x := range []struct {
		f    Field
		want string
	}{
		{num(1, 0), "\x08\x00"},
		{num(1, 127), "\x08\x7f"},
		{num(1, 128), "\x08\x80\x01"},
		{num(15, 1), "\x78\x01"},
		{num(16, 1), "\x80\x01\x01"},
		{num(100, 1<<64-1), "\xa0\x06\xff\xff\xff\xff\xff\xff\xff\xff\xff\x01"},
		{num(2, 1<<63), "\x10\x80\x80\x80\x80\x80\x80\x80\x80\x80\x01"},
		{num(3, 1<<32), "\x18\x80\x80\x80\x80\x10"},
		{str(1, ""), "\x0a\x00"},
		{str(15, "a"), "\x7a\x01a"},
		{str(16, "a"), "\x82\x01\x01a"},
		{str(100, "ab"), "\xa2\x06\x02ab"},
		{str(1, many(127)), "\x0a\x7f" + many(127)},
		{str(1, many(128)), "\x0a\x80\x01" + many(128)},
		{str(1, many(300)), "\x0a\xac\x02" + many(300)},
		{Field{Tag: 4, Bytes: true, N: 77, B: []byte("a")}, "\x22\x01a"},
		{Field{Tag: 4, N: 5, B: []byte("abc")}, "\x20\x05"},
	} {
		if b, e := Put([]Field{x.f}); string(b) != x.want || e != api.OK {
			t.Errorf("Put(%v) is % x, %d; want % x", x.f, b, e, x.want)
		}
		wantBoth(t, []Field{x.f})
	}
	if b, e := Put([]Field{}); len(b) != 0 || e != api.OK {
		t.Errorf("Put of none is % x, %d", b, e)
	}
}

// P19.1, P19.3: tags, numbers and bytes of all sizes, one field and many.
func TestPutAndTake(t *testing.T) {
	for _, l := range rows() {
		wantBoth(t, l)
	}
	for tag := 1; tag <= 100; tag++ {
		wantBoth(t, []Field{num(tag, uint64(tag)), str(tag, many(tag))})
	}
	for n := range 64 {
		for _, x := range []uint64{1<<n - 1, 1 << n, 1<<n + 1} {
			wantBoth(t, []Field{num(5, x), num(50, x)})
		}
	}
	for n := range 400 {
		wantBoth(t, []Field{str(5, many(n)), num(50, 1)})
	}
}

// P19.1: what is beside a number, or beside bytes, is not laid down.
func TestPutLooksAtOne(t *testing.T) {
	for _, tag := range tags {
		for _, x := range plains {
			for _, n := range []int{0, 1, 127, 128, 300} {
				beside := Field{Tag: tag, N: x, B: []byte(many(n))}
				wantBoth(t, []Field{beside})
				beside.Bytes = true
				wantBoth(t, []Field{beside, num(tag, x), beside})
			}
		}
	}
}

// P19.1: a Tag that is none, first, in the middle and last, alone and with
// others that are none.
func TestPutNoTags(t *testing.T) {
	for _, tag := range noTags {
		for _, f := range []Field{num(tag, 1), str(tag, "a"), {Tag: tag}, {Tag: tag, Bytes: true}} {
			wantNoPut(t, []Field{f})
			wantNoPut(t, []Field{f, num(1, 1), str(2, "a")})
			wantNoPut(t, []Field{num(1, 1), f, str(2, "a")})
			wantNoPut(t, []Field{num(1, 1), str(2, "a"), f})
			wantNoPut(t, []Field{f, str(2, "a"), f})
			wantNoPut(t, append(slices.Repeat([]Field{str(100, many(300))}, 100), f))
		}
	}
	for tag := -300; tag <= 400; tag++ {
		if tag < 1 || tag > 100 {
			wantNoPut(t, []Field{num(1, 1), num(tag, 1)})
		}
	}
}

// P19.1: Put of fields behind others is both, one behind the other.
func TestPutOneBehindTheOther(t *testing.T) {
	r := rand.New(rand.NewSource(191))
	for range 2000 {
		a, b := drawnFields(r), drawnFields(r)
		one, _ := Put(a)
		two, _ := Put(b)
		both, e := Put(slices.Concat(a, b))
		if e != api.OK || !bytes.Equal(both, slices.Concat(one, two)) {
			t.Fatalf("Put of %v and %v is % x, %d", a, b, both, e)
		}
		wantTake(t, slices.Concat(one, two), bare(slices.Concat(a, b)))
	}
}

// P19.1: of no bytes there are no fields.
func TestTakeNone(t *testing.T) {
	wantTake(t, nil, nil)
	wantTake(t, []byte{}, nil)
}

// around is b alone, and with fields ahead and behind.
func around(b string) [][]byte {
	ahead, behind := string(slowPut(num(1, 300), str(2, "ab"))), string(slowPut(str(16, "c"), num(3, 0)))
	return [][]byte{[]byte(b), []byte(ahead + b), []byte(b + behind), []byte(ahead + b + behind)}
}

// P19.1: heads with other low bits, and heads of tags that are none.
func TestTakeNoHeads(t *testing.T) {
	tail := "\x01\x01\x01"
	for head := range uint64(1000) {
		good := head >= 8 && head < 808 && (head%8 == 0 || head%8 == 2)
		b := string(slowNumber(head)) + "\x00"
		if !good {
			for _, b := range append(around(b), around(b[:len(b)-1])...) {
				wantNoTake(t, b)
			}
			wantNoTake(t, []byte(b+tail))
			continue
		}
		for _, b := range around(b) {
			checkTake(t, b)
		}
		if l, e := Take([]byte(b)); e != api.OK || len(l) != 1 || l[0].Tag != int(head/8) || l[0].Bytes != (head%8 == 2) {
			t.Fatalf("Take of the head %d is %v, %d", head, l, e)
		}
	}
	for _, tag := range []uint64{0, 101, 102, 127, 128, 129, 256, 257, 1 << 29, 1<<32 + 1, 1<<60 + 1, 1<<61 - 1} {
		for low := range uint64(8) {
			for _, b := range around(string(slowNumber(8*tag+low)) + "\x00") {
				wantNoTake(t, b)
			}
		}
	}
}

// P19.1: heads, numbers and lengths in more bytes than they need.
func TestTakeLonger(t *testing.T) {
	for more := 1; more <= 9; more++ {
		for _, tag := range tags {
			for _, b := range slices.Concat(
				around(long(uint64(8*tag), more)+"\x05"),
				around(long(uint64(8*tag+2), more)+"\x01a"),
				around(string(slowNumber(uint64(8*tag+2)))+long(2, more)+"ab"),
			) {
				wantNoTake(t, b)
			}
			for _, x := range plains {
				for _, b := range around(string(slowNumber(uint64(8*tag))) + long(x, more)) {
					wantNoTake(t, b)
				}
			}
		}
		for _, n := range []int{0, 1, 127, 128, 300} {
			for _, b := range around("\x0a" + long(uint64(n), more) + many(n)) {
				wantNoTake(t, b)
			}
		}
	}
}

// P19.1: heads, numbers and lengths that are none, or far above what may be.
func TestTakeNoNumbers(t *testing.T) {
	ends := []string{"", "\x80", "\xff\xff", strings.Repeat("\x80", 9), strings.Repeat("\xff", 10), strings.Repeat("\x80", 10) + "\x01", strings.Repeat("\xff", 9) + "\x02", strings.Repeat("\xff", 9) + "\x7f", strings.Repeat("\xff", 11), strings.Repeat("\x80", 300)}
	for _, none := range ends {
		for _, b := range []string{none, "\x08" + none, "\x0a" + none, "\xa0\x06" + none, "\xa2\x06" + none} {
			if b == "" {
				continue
			}
			wantNoTake(t, []byte(b))
			wantNoTake(t, append(slowPut(num(1, 300), str(2, "ab")), b...))
			for _, b := range around(b) {
				checkTake(t, b)
			}
		}
	}
	for _, far := range []uint64{1<<63 - 1, 1 << 63, 1<<63 + 1, 1<<63 + 8, 1<<63 + 10, 1<<64 - 10, 1<<64 - 8, 1<<64 - 2, 1<<64 - 1} {
		for _, b := range slices.Concat(around(string(slowNumber(far))), around(string(slowNumber(far))+"\x00"), around("\x0a"+string(slowNumber(far))), around("\x82\x01"+string(slowNumber(far))+many(300))) {
			wantNoTake(t, b)
		}
	}
}

// P19.1: a length that is greater than what stands behind it.
func TestTakeTooLong(t *testing.T) {
	for _, n := range sizes {
		for _, far := range []uint64{1, 2, 127, 128, 1 << 20, 1 << 31, 1 << 32, 1<<63 - 1 - 16384, 1 << 63, 1<<64 - 1 - 16384} {
			b := slices.Concat([]byte("\x0a"), slowNumber(uint64(n)+far), []byte(many(n)))
			wantNoTake(t, b)
			wantNoTake(t, append(slowPut(num(1, 300), str(2, "ab")), b...))
		}
		if n > 0 { // of one that is less the rest stands as fields, or is none
			checkTake(t, slices.Concat([]byte("\x0a"), slowNumber(uint64(n)-1), []byte(many(n))))
		}
	}
}

// P19.1: cut anywhere; what is cut between two fields is the fields ahead.
func TestTakeCut(t *testing.T) {
	for _, l := range rows() {
		b := slowPut(l...)
		if len(b) > 5000 {
			continue
		}
		ends := map[int]int{0: 0}
		for i := range l {
			ends[len(slowPut(l[:i+1]...))] = i + 1
		}
		for cut := range b {
			if ahead, ok := ends[cut]; ok {
				wantTake(t, b[:cut], bare(l[:ahead]))
			} else {
				wantNoTake(t, b[:cut])
			}
		}
	}
}

// P19.1: one byte more behind is a head without a number, or none.
func TestTakeOneMore(t *testing.T) {
	for _, l := range rows() {
		b := slowPut(l...)
		for more := range 256 {
			wantNoTake(t, append(slices.Clone(b), byte(more)))
		}
	}
}

// P19.1: every byte alone, every two, and all of a few in rows of four.
func TestTakeAllShort(t *testing.T) {
	for x := range 256 {
		wantNoTake(t, []byte{byte(x)})
		for y := range 256 {
			checkTake(t, []byte{byte(x), byte(y)})
		}
	}
	few := []byte("\x00\x01\x02\x03\x06\x08\x0a\x78\x7a\x7f\x80\x82\xa0\xa2\xa8\xff")
	b := make([]byte, 4)
	for n := range len(few) * len(few) * len(few) * len(few) {
		for i := range b {
			b[i] = few[n%len(few)]
			n /= len(few)
		}
		checkTake(t, b[:3])
		checkTake(t, b)
	}
}

// P19.1: drawn bytes, and drawn fields with a few bytes turned.
func TestTakeDrawn(t *testing.T) {
	r := rand.New(rand.NewSource(192))
	taken := 0
	for range 20000 {
		b := make([]byte, r.Intn(24))
		r.Read(b)
		checkTake(t, b)
		for i := range b {
			b[i] = "\x00\x01\x02\x03\x08\x0a\x10\x12\x7f\x80\xa2\xff"[r.Intn(12)]
		}
		checkTake(t, b)
		b = near(r, slowPut(drawnFields(r)...))
		checkTake(t, b)
		if _, ok := slowTake(b); ok {
			taken++
		}
	}
	if taken < 1000 {
		t.Errorf("just %d of those that were turned are fields", taken)
	}
}

// P19.3: drawn fields are taken as they were put.
func TestDrawnFields(t *testing.T) {
	r := rand.New(rand.NewSource(193))
	for range 20000 {
		wantBoth(t, drawnFields(r))
	}
}

// P19.2: a value that is nothing, numbers, texts, and what is both.
func TestValues(t *testing.T) {
	wantValue(t, api.Value{})
	wantValue(t, nothing)
	for _, n := range ints {
		wantValue(t, api.Value{N: n})
		for _, s := range strung {
			wantValue(t, api.Value{S: s})
			wantValue(t, api.Value{N: n, S: s})
			wantValue(t, api.Value{Null: true, N: n, S: s})
		}
	}
	for _, x := range []struct {
		v    api.Value
		want string
	}{
		{api.Value{}, "\x08\x00\x10\x00\x1a\x00"},
		{nothing, "\x08\x01\x10\x00\x1a\x00"},
		{api.Value{N: 1}, "\x08\x00\x10\x02\x1a\x00"},
		{api.Value{N: 64}, "\x08\x00\x10\x80\x01\x1a\x00"},
		{api.Value{N: greatest}, "\x08\x00\x10\xfe\xff\xff\xff\xff\xff\xff\xff\xff\x01\x1a\x00"},
		{api.Value{N: least}, "\x08\x00\x10\xff\xff\xff\xff\xff\xff\xff\xff\xff\x01\x1a\x00"},
		{api.Value{S: "\xff\x00"}, "\x08\x00\x10\x00\x1a\x02\xff\x00"},
		{api.Value{Null: true, N: -2, S: "a"}, "\x08\x01\x10\x03\x1a\x01a"},
	} {
		if b := PutValue(x.v); string(b) != x.want {
			t.Errorf("PutValue(%#v) is % x, want % x", x.v, b, x.want)
		}
	}
}

// P19.2: a first field that is neither 0 nor 1.
func TestTakeValueTruths(t *testing.T) {
	for _, x := range slices.Concat(plains, []uint64{3, 129, 257, 1<<8 + 1, 1<<16 + 1, 1<<32 + 1, 1<<63 + 1}) {
		b := slowPut(num(1, x), num(2, 3), str(3, "a"))
		if x > 1 {
			wantNoValue(t, b)
		} else if v, e := TakeValue(b); v != (api.Value{Null: x == 1, N: -2, S: "a"}) || e != api.OK {
			t.Errorf("TakeValue(% x) is %#v, %d", b, v, e)
		}
	}
}

// orders are all that l may stand in.
func orders(l []Field) [][]Field {
	if len(l) < 2 {
		return [][]Field{slices.Clone(l)}
	}
	var all [][]Field
	for i := range l {
		left := slices.Delete(slices.Clone(l), i, i+1)
		for _, behind := range orders(left) {
			all = append(all, append([]Field{l[i]}, behind...))
		}
	}
	return all
}

// others are what is not l but near: fields that are missing, too many, in
// another order, with another tag, numbers for bytes and bytes for numbers.
func others(l []Field) [][]Field {
	var all [][]Field
	for keep := range 1<<len(l) - 1 {
		var some []Field
		for i, f := range l {
			if keep>>i&1 != 0 {
				some = append(some, f)
			}
		}
		all = append(all, some)
	}
	all = append(all, orders(l)[1:]...)
	for i, f := range l {
		put := func(g Field) {
			k := slices.Clone(l)
			k[i] = g
			all = append(all, k)
		}
		for tag := 1; tag <= 100; tag++ {
			if g := f; tag != f.Tag {
				g.Tag = tag
				put(g)
			}
		}
		g := f
		g.Bytes = !f.Bytes
		put(g)
		g.N, g.B = 1, []byte("\x01")
		put(g)
		g.N, g.B = uint64(len(f.B)), slowNumber(f.N)
		put(g)
	}
	for i := range len(l) + 1 {
		for _, g := range append(slices.Clone(l), num(i+1, 0), num(len(l)+1, 1), str(len(l)+1, ""), num(100, 5)) {
			all = append(all, slices.Insert(slices.Clone(l), i, g))
		}
	}
	return append(all, slices.Concat(l, l))
}

// P19.2: a value's fields, but with something wrong.
func TestTakeValueOthers(t *testing.T) {
	for _, v := range []api.Value{{}, nothing, {N: 1}, {N: -1}, {S: "a"}, {S: "\x08\x00"}, {Null: true, N: greatest, S: many(300)}} {
		wantValue(t, v)
		for _, l := range others(valueFields(v)) {
			wantNoValue(t, slowPut(l...))
		}
	}
	wantNoValue(t, nil)
	wantNoValue(t, []byte{})
}

// P19.2: a value's bytes, cut, with more behind, longer than they need be, and
// drawn ones with a few turned.
func TestTakeValueBytes(t *testing.T) {
	r := rand.New(rand.NewSource(194))
	for range 1000 {
		v := drawnValue(r)
		wantValue(t, v)
		b := slowPut(valueFields(v)...)
		for cut := range b {
			wantNoValue(t, b[:cut])
		}
		for more := range 256 {
			wantNoValue(t, append(slices.Clone(b), byte(more)))
		}
		for range 50 {
			checkTakeValue(t, near(r, b))
		}
	}
	for _, b := range []string{"\x08\x80\x00\x10\x01\x1a\x00", "\x08\x00\x10\x81\x00\x1a\x00", "\x08\x00\x10\x01\x1a\x80\x00", "\x88\x00\x00\x10\x01\x1a\x00", "\x08\x00\x10\x01\x1a\x01", "\x08\x00\x10\x01\x1b\x00", "\x08\x02\x10\x01\x1a\x00"} {
		wantNoValue(t, []byte(b))
	}
}

// P19.2, P19.3: stats of each kind.
func TestStats(t *testing.T) {
	eachKnown(func(kind int, s api.Stats, b []byte) {
		wantStats(t, kind, s)
		for _, other := range slices.Concat(kinds, noKinds) {
			checkTakeStats(t, other, b)
		}
	})
	for _, x := range []struct {
		s    api.Stats
		want string
	}{
		{api.Stats{}, "\x08\x00\x10\x00\x1a\x06\x08\x00\x10\x00\x1a\x00\x22\x06\x08\x00\x10\x00\x1a\x00\x28\x00\x30\x00"},
		{api.Stats{Min: nothing, Max: nothing}, "\x08\x00\x10\x00\x1a\x06\x08\x01\x10\x00\x1a\x00\x22\x06\x08\x01\x10\x00\x1a\x00\x28\x00\x30\x00"},
		{api.Stats{Count: 3, HasNull: true, Min: api.Value{N: 1}, Max: api.Value{S: "a"}, Sum: -4, Over: true}, "\x08\x03\x10\x01\x1a\x06\x08\x00\x10\x02\x1a\x00\x22\x07\x08\x00\x10\x00\x1a\x01a\x28\x07\x30\x01"},
		{api.Stats{Count: -1, Sum: greatest}, "\x08\xff\xff\xff\xff\xff\xff\xff\xff\xff\x01\x10\x00\x1a\x06\x08\x00\x10\x00\x1a\x00\x22\x06\x08\x00\x10\x00\x1a\x00\x28\xfe\xff\xff\xff\xff\xff\xff\xff\xff\x01\x30\x00"},
	} {
		if b := PutStats(x.s); string(b) != x.want {
			t.Errorf("PutStats(%#v) is % x, want % x", x.s, b, x.want)
		}
	}
}

// P19.2: PutStats lays down what may not be, too; TakeStats does not take it.
func TestStatsThatMayNot(t *testing.T) {
	one, two := api.Value{N: 1}, api.Value{N: 2}
	a, b := api.Value{S: "a"}, api.Value{S: "b"}
	for _, kind := range kinds {
		lo, hi := one, two
		if kind == api.Bool {
			lo, hi = api.Value{}, one
		} else if kind > 5 {
			lo, hi = a, b
		}
		good := api.Stats{Count: 2, Min: lo, Max: hi}
		wantStats(t, kind, good)
		for _, wrong := range []func(s *api.Stats){
			func(s *api.Stats) { s.Count = -1 },
			func(s *api.Stats) { s.Count = least },
			func(s *api.Stats) { s.Count = least + 2 },
			func(s *api.Stats) { s.Count = -1<<32 + 2 },
			func(s *api.Stats) { s.Count = 0 },
			func(s *api.Stats) { s.Count = 409601 },
			func(s *api.Stats) { s.Count = 1<<32 + 2 },
			func(s *api.Stats) { s.Count = greatest },
			func(s *api.Stats) { s.Min, s.Max = hi, lo },
			func(s *api.Stats) { s.Min = nothing },
			func(s *api.Stats) { s.Max = nothing },
			func(s *api.Stats) { s.Min, s.Max = nothing, nothing },
			func(s *api.Stats) { s.Min.Null = true },
			func(s *api.Stats) { s.Max.Null = true },
			func(s *api.Stats) { s.Max = api.Value{N: 3, S: "a"} },
			func(s *api.Stats) { s.Min = api.Value{N: -3, S: "a"} },
			func(s *api.Stats) { s.Max.S = strings.Repeat("z", 301) },
			func(s *api.Stats) { s.Sum, s.Over = 1, true },
			func(s *api.Stats) { s.Sum, s.Over = -1, true },
		} {
			bad := good
			wrong(&bad)
			wantNoStats(t, kind, wantLaid(t, bad))
		}
		for _, none := range noKinds {
			wantNoStats(t, none, slowPut(statsFields(good)...))
			wantNoStats(t, none, slowPut(statsFields(api.Stats{Min: nothing, Max: nothing})...))
		}
	}
	for _, kind := range ofLetters {
		wantNoStats(t, kind, wantLaid(t, api.Stats{Count: 2, Min: a, Max: b, Sum: 1}))
		wantNoStats(t, kind, wantLaid(t, api.Stats{Count: 2, Min: a, Max: b, Over: true}))
		wantNoStats(t, kind, wantLaid(t, api.Stats{Count: 2, Min: one, Max: two}))
	}
	for _, kind := range ofNumbers {
		wantNoStats(t, kind, wantLaid(t, api.Stats{Count: 2, Min: a, Max: b}))
	}
	wantNoStats(t, api.Bool, wantLaid(t, api.Stats{Count: 2, Min: one, Max: two, Sum: 3}))
	wantNoStats(t, api.Text, wantLaid(t, api.Stats{Count: 2, Min: a, Max: api.Value{S: "\xff"}}))
	wantStats(t, api.Bytes, api.Stats{Count: 2, Min: a, Max: api.Value{S: "\xff"}})
	for _, n := range ints {
		checkTakeStats(t, api.Int, wantLaid(t, api.Stats{Count: n, HasNull: n%2 == 0, Min: api.Value{N: n}, Max: api.Value{N: n}, Sum: n}))
	}
}

// P19.2: fields of stats that are other numbers or bytes than may be.
func TestTakeStatsFields(t *testing.T) {
	for _, kind := range []int{api.Int, api.Decimal, api.Date, api.Time} {
		good := statsFields(api.Stats{Count: 2, Min: api.Value{N: -1}, Max: api.Value{N: 1}})
		with := func(i int, f Field) []byte {
			l := slices.Clone(good)
			l[i] = f
			return slowPut(l...)
		}
		for _, x := range slices.Concat(plains, []uint64{3, 257, 409600, 409601, 1<<32 + 1, 1<<63 + 1, 1<<63 + 2}) {
			if b := with(0, num(1, x)); checkTakeStats(t, kind, b) != (x >= 1 && x <= 409600) {
				t.Errorf("TakeStats(%d, % x) of a Count of %d", kind, b, x)
			}
			for _, i := range []int{1, 5} {
				if b := with(i, num(i+1, x)); checkTakeStats(t, kind, b) != (x <= 1) {
					t.Errorf("TakeStats(%d, % x) of a truth that is %d", kind, b, x)
				}
			}
			if b := with(4, num(5, x)); !checkTakeStats(t, kind, b) {
				t.Errorf("TakeStats(%d, % x) of a Sum is refused", kind, b)
			}
		}
		for _, i := range []int{2, 3} {
			value := good[i].B
			for cut := range value {
				wantNoStats(t, kind, with(i, str(i+1, string(value[:cut]))))
			}
			for more := range 256 {
				wantNoStats(t, kind, with(i, str(i+1, string(value)+string([]byte{byte(more)}))))
			}
			for _, l := range others(valueFields(api.Value{N: 1})) {
				wantNoStats(t, kind, with(i, str(i+1, string(slowPut(l...)))))
			}
			wantNoStats(t, kind, with(i, str(i+1, "\x08\x02\x10\x02\x1a\x00")))
			wantNoStats(t, kind, with(i, str(i+1, "\x08\x00\x10\x82\x00\x1a\x00")))
		}
	}
}

// P19.2: fields of stats that are missing, too many, in another order.
func TestTakeStatsOthers(t *testing.T) {
	eachKnown(func(kind int, s api.Stats, b []byte) {
		if kind != api.Int && kind != api.Bytes || len(b) > 200 {
			return
		}
		for _, l := range others(statsFields(s)) {
			if laid := slowPut(l...); bytes.Equal(laid, b) { // Min and Max that are the same may change places
				wantStats(t, kind, s)
			} else {
				wantNoStats(t, kind, laid)
			}
		}
	})
	for _, kind := range append(slices.Clone(kinds), noKinds...) {
		wantNoStats(t, kind, nil)
		wantNoStats(t, kind, []byte{})
	}
}

// P19.2: bytes of stats cut at every place, and with one more behind.
func TestTakeStatsCut(t *testing.T) {
	eachKnown(func(kind int, s api.Stats, b []byte) {
		for cut := range b {
			wantNoStats(t, kind, b[:cut])
		}
		for more := range 256 {
			wantNoStats(t, kind, append(slices.Clone(b), byte(more)))
		}
	})
}

// P19.2: drawn stats, turned in every bit: they are none, or just these bytes
// are laid down for them.
func TestTakeStatsTurned(t *testing.T) {
	r := rand.New(rand.NewSource(195))
	taken := 0
	for _, kind := range kinds {
		for range 60 {
			s := drawnStats(r, kind)
			wantStats(t, kind, s)
			b := slowPut(statsFields(s)...)
			for bit := range 8 * len(b) {
				b[bit/8] ^= 1 << (bit % 8)
				if checkTakeStats(t, kind, b) {
					taken++
				}
				b[bit/8] ^= 1 << (bit % 8)
			}
			for range 200 {
				checkTakeStats(t, kind, near(r, b))
			}
		}
	}
	if taken < 1000 {
		t.Errorf("just %d of those that were turned are stats", taken)
	}
}

// P19.3: drawn values and stats are taken as they were put.
func TestDrawnValuesAndStats(t *testing.T) {
	r := rand.New(rand.NewSource(196))
	for range 20000 {
		wantValue(t, drawnValue(r))
		kind := kinds[r.Intn(len(kinds))]
		wantStats(t, kind, drawnStats(r, kind))
		wantLaid(t, api.Stats{Count: int(r.Uint64()), HasNull: r.Intn(2) == 0, Min: drawnValue(r), Max: drawnValue(r), Sum: int(r.Uint64()), Over: r.Intn(2) == 0})
	}
}

// roomy is a copy of a list, with things behind its end.
func roomy[T any](l []T, behind ...T) []T {
	return append(slices.Clone(l), behind...)[:len(l)]
}

// whole is a copy of a list and of what stands behind its end.
func whole[T any](l []T) []T { return slices.Clone(l[:cap(l)]) }

// scrub writes over bytes and what stands behind their end.
func scrub(b []byte) {
	for i := range b[:cap(b)] {
		b[:cap(b)][i] ^= 0x55
	}
}

// roomyFields are copies of fields, each with bytes behind its end.
func roomyFields(l []Field) []Field {
	out := roomy(l, num(9, 9), num(9, 9))
	for i := range out {
		out[i].B = roomy(l[i].B, []byte("room behind")...)
	}
	return out
}

// R7: what Put is handed stays, with the room behind, and what it answers goes
// with nothing.
func TestPutLeaves(t *testing.T) {
	r := rand.New(rand.NewSource(197))
	for n := range 2000 {
		l := drawnFields(r)
		if n%5 == 0 {
			l = append(l, num(0, 1)) // refused
		}
		handed := roomyFields(l)
		then := whole(handed)
		var rooms [][]byte
		for _, f := range handed {
			rooms = append(rooms, whole(f.B))
		}
		one, _ := Put(handed)
		two, _ := Put(handed)
		if !same(handed[:cap(handed)], then) {
			t.Fatalf("fields that were handed in are now %v", handed[:cap(handed)])
		}
		for i, f := range handed {
			if !bytes.Equal(f.B[:cap(f.B)], rooms[i]) {
				t.Fatalf("bytes that were handed in are now % x", f.B[:cap(f.B)])
			}
			scrub(f.B)
		}
		scrub(one)
		if n%5 != 0 && !bytes.Equal(two, slowPut(l...)) {
			t.Fatalf("Put(%v) went with another, or with what was handed in", l)
		}
	}
}

// R7: so of Take; no two fields of an answer share bytes.
func TestTakeLeaves(t *testing.T) {
	r := rand.New(rand.NewSource(198))
	for n := range 2000 {
		b := slowPut(drawnFields(r)...)
		if n%5 == 0 {
			b = append(b, 7) // refused
		}
		handed := roomy(b, []byte("room behind")...)
		then := whole(handed)
		one, _ := Take(handed)
		two, _ := Take(handed)
		if !bytes.Equal(handed[:cap(handed)], then) {
			t.Fatalf("bytes that were handed in are now % x", handed[:cap(handed)])
		}
		want, _ := slowTake(b)
		for i, f := range one {
			scrub(f.B)
			if !same(one[i+1:], want[i+1:]) {
				t.Fatalf("fields of Take(% x) share bytes", b)
			}
		}
		if !bytes.Equal(handed[:cap(handed)], then) {
			t.Fatalf("an answer of Take(% x) shares what was handed in", b)
		}
		scrub(handed)
		if !same(two, want) {
			t.Fatalf("Take(% x) went with another, or with what was handed in", b)
		}
	}
}

// R7: so of values and stats.
func TestValuesAndStatsLeave(t *testing.T) {
	r := rand.New(rand.NewSource(199))
	for range 2000 {
		v, kind := drawnValue(r), kinds[r.Intn(len(kinds))]
		s := drawnStats(r, kind)
		one, two := PutValue(v), PutValue(v)
		scrub(one)
		three, four := PutStats(s), PutStats(s)
		scrub(three)
		laidValue, laidStats := slowPut(valueFields(v)...), slowPut(statsFields(s)...)
		if !bytes.Equal(two, laidValue) || !bytes.Equal(four, laidStats) {
			t.Fatalf("what %#v or %#v is laid down as went with another", v, s)
		}
		two, four = roomy(two, []byte("room behind")...), roomy(four, []byte("room behind")...)
		twoThen, fourThen := whole(two), whole(four)
		w, _ := TakeValue(two)
		x, _ := TakeStats(kind, four)
		if !bytes.Equal(two[:cap(two)], twoThen) || !bytes.Equal(four[:cap(four)], fourThen) {
			t.Fatalf("bytes of %#v or %#v were changed", v, s)
		}
		scrub(two)
		scrub(four)
		if w != v || x != s {
			t.Fatalf("%#v or %#v went with what was handed in", v, s)
		}
	}
}

// R6: each call stands for itself, and hangs on nothing behind an end.
func TestCallsHangOnArgumentsAlone(t *testing.T) {
	b := slowPut(num(1, 300), str(2, "abc"), num(3, 1<<63))
	for range 3 {
		wantTake(t, b, []Field{num(1, 300), str(2, "abc"), num(3, 1<<63)})
		wantTake(t, b[:8], []Field{num(1, 300), str(2, "abc")})
		wantTake(t, b[:3], []Field{num(1, 300)})
		wantNoTake(t, b[:7])
		wantNoTake(t, b[:len(b)-1])
		wantNoPut(t, []Field{num(1, 1), num(0, 1)})
		wantNoPut(t, []Field{num(1, 1), num(0, 1)}[1:])
		wantBoth(t, []Field{num(1, 1), num(0, 1)}[:1])
	}
}

// spent is how many bytes a call asks room for.
func spent(call func()) uint64 {
	var before, behind runtime.MemStats
	runtime.ReadMemStats(&before)
	call()
	runtime.ReadMemStats(&behind)
	return behind.TotalAlloc - before.TotalAlloc
}

// R1: a file of short fields is laid down and taken in time that grows with its
// length, not with the square of it.
func TestManyFields(t *testing.T) {
	l := slices.Repeat([]Field{num(1, 1), str(2, "a"), num(100, 1<<40)}, 100000)
	var b []byte
	var taken []Field
	if n := spent(func() { b, _ = Put(l) }); n > 200<<20 {
		t.Errorf("Put of %d fields asked room for %d bytes", len(l), n)
	}
	if n := spent(func() { taken, _ = Take(b) }); n > 400<<20 {
		t.Errorf("Take of %d bytes asked room for %d bytes", len(b), n)
	}
	if !same(taken, l) || !bytes.Equal(b, bytes.Repeat([]byte("\x08\x01\x12\x01a\xa0\x06\x80\x80\x80\x80\x80\x20"), 100000)) {
		t.Errorf("%d fields were laid down in %d bytes, and taken as %d", len(l), len(b), len(taken))
	}
	wantNoTake(t, append(b, 0))
	great := []Field{str(1, many(1<<20)), str(2, many(1<<20))}
	wantBoth(t, great)
}

// fieldsOf makes fields of bytes: each of a tag, and of a number or of bytes.
func fieldsOf(b []byte) []Field {
	var l []Field
	for len(b) > 1 {
		n := min(int(b[1]%16), len(b)-2)
		f := Field{Tag: int(b[0])%102 - b2i(b[0] == 255), Bytes: b[1] >= 128, B: b[2 : 2+n]}
		for _, c := range f.B {
			f.N = f.N<<8 | uint64(c)
		}
		l = append(l, f)
		b = b[2+n:]
	}
	return l
}

func b2i(t bool) int { return int(slowTruth(t)) }

func FuzzPut(f *testing.F) { // P19.1, P19.3
	f.Add([]byte("\x01\x02\x01\x2c\x02\x82ab"))
	f.Add([]byte("\x64\x08\xff\xff\xff\xff\xff\xff\xff\xff\x0f\x80\x10\x00\x00\x01a"))
	f.Add([]byte("\x65\x81a\x01\x01a"))
	f.Fuzz(func(t *testing.T, b []byte) {
		l := fieldsOf(b)
		if slices.ContainsFunc(l, func(f Field) bool { return f.Tag < 1 || f.Tag > 100 }) {
			wantNoPut(t, l)
		} else {
			wantBoth(t, l)
		}
	})
}

func FuzzTake(f *testing.F) { // P19.1, P19.2
	f.Add([]byte("\x08\xac\x02\x12\x02ab"))
	f.Add([]byte("\x08\x00\x10\x01\x1a\x00"))
	f.Add(slowPut(statsFields(api.Stats{Count: 2, Min: api.Value{N: -1}, Max: api.Value{N: 1}})...))
	f.Add(slowPut(statsFields(api.Stats{Count: 2, Min: api.Value{S: "a"}, Max: api.Value{S: "é"}})...))
	f.Fuzz(func(t *testing.T, b []byte) {
		checkTake(t, b)
		checkTakeValue(t, b)
		for kind := range 9 {
			checkTakeStats(t, kind, b)
		}
	})
}

func FuzzStats(f *testing.F) { // P19.2, P19.3
	f.Add(2, 1, false, 1, "", 3, "", 4, false, byte(0))
	f.Add(6, 2, true, 0, "a", 0, "ab", 0, false, byte(0))
	f.Add(7, 0, true, 0, "", 0, "", 0, false, byte(3))
	f.Fuzz(func(t *testing.T, kind, count int, hasNull bool, minN int, minS string, maxN int, maxS string, sum int, over bool, nulls byte) {
		s := api.Stats{Count: count, HasNull: hasNull, Sum: sum, Over: over}
		s.Min = api.Value{Null: nulls&1 != 0, N: minN, S: minS}
		s.Max = api.Value{Null: nulls&2 != 0, N: maxN, S: maxS}
		wantValue(t, s.Min)
		wantValue(t, s.Max)
		b := wantLaid(t, s)
		for _, k := range append(slices.Clone(kinds), kind) {
			if checkTakeStats(t, k, b) != stats.May(k, s) {
				t.Fatalf("TakeStats(%d, % x) is taken otherwise than %#v may be", k, b, s)
			}
		}
	})
}
