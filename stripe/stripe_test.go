package stripe

import (
	"bytes"
	"encoding/binary"
	"hash/crc32"
	"math"
	"math/big"
	"math/rand"
	"runtime"
	"slices"
	"strings"
	"testing"

	"pilaster/api"
	"pilaster/column"
	"pilaster/crc"
	"pilaster/stats"
	"pilaster/value"
	"pilaster/wire"
)

const (
	least    = math.MinInt
	greatest = math.MaxInt
)

// kinds are all that there are, noKinds are none.
var (
	kinds   = []int{1, 2, 3, 4, 5, 6, 7}
	noKinds = []int{least, -1<<32 + 2, -7, -2, -1, 0, 8, 9, 257, 258, 1<<32 + 2, greatest}
)

// counts are numbers at the ends of what a byte more is needed for, those that
// are none of a column last.
var (
	counts   = []int{0, 1, 127, 128, 300, 1<<14 - 1, 1 << 14, 1 << 32, greatest - 1, greatest}
	noCounts = []int{-1, -2, -128, -1 << 32, least + 1, least}
)

// fars are what stands for no number of a column.
var fars = []uint64{1 << 63, 1<<63 + 1, 1<<63 + 8, 1<<64 - 2, 1<<64 - 1}

// nothing is a value that is nothing.
var nothing = api.Value{Null: true}

// tab is the table that all sums here are made by.
var tab = crc.New()

func num(tag int, n uint64) wire.Field { return wire.Field{Tag: tag, N: n} }

func str(tag int, s string) wire.Field { return wire.Field{Tag: tag, Bytes: true, B: []byte(s)} }

// many are so many bytes, no two like each other near by.
func many(n int) string {
	b := make([]byte, n)
	for i := range b {
		b[i] = byte(i*7 + i/256)
	}
	return string(b)
}

// slowNumber is a number by sevens of bits, got by parting it again and again.
func slowNumber(x uint64) []byte {
	if x < 128 {
		return []byte{byte(x)}
	}
	return append([]byte{byte(128 + x%128)}, slowNumber(x/128)...)
}

// below is a number as it stands in a field: one below 0 is it and 2^64.
func below(n int) uint64 {
	x := big.NewInt(int64(n))
	if n < 0 {
		x.Add(x, new(big.Int).Lsh(big.NewInt(1), 64))
	}
	return x.Uint64()
}

// laid are fields as they are laid down.
func laid(l ...wire.Field) []byte {
	var parts [][]byte
	for _, f := range l {
		if f.Bytes {
			parts = append(parts, slowNumber(uint64(8*f.Tag+2)), slowNumber(uint64(len(f.B))), f.B)
		} else {
			parts = append(parts, slowNumber(uint64(8*f.Tag)), slowNumber(f.N))
		}
	}
	return slices.Concat(parts...)
}

// slowSeal is bytes with their sum, that another program reckons.
func slowSeal(b []byte) []byte {
	sum := crc32.Checksum(b, crc32.MakeTable(crc32.Castagnoli))
	return binary.LittleEndian.AppendUint32(slices.Clone(b), sum)
}

// columnFields are the fields of a column.
func columnFields(c api.Column) []wire.Field {
	l := []wire.Field{num(1, below(c.Many)), num(2, below(c.Encoding)), num(3, below(c.Texts))}
	for _, s := range c.Streams {
		l = append(l, num(4, below(s.Kind)), str(5, string(s.B)))
	}
	return l
}

// strideFields are the fields of strides.
func strideFields(l []Stride) []wire.Field {
	var all []wire.Field
	for _, s := range l {
		all = append(all, num(1, below(s.Rows)))
		for i := 0; i < len(s.Long) && i < len(s.Stats); i++ {
			all = append(all, num(2, below(s.Long[i])), str(3, string(wire.PutStats(s.Stats[i]))))
		}
	}
	return all
}

func slowChunk(c api.Column) []byte { return slowSeal(laid(columnFields(c)...)) }

func slowIndex(l []Stride) []byte { return slowSeal(laid(strideFields(l)...)) }

// fieldsUnder are the fields ahead of a seal, whatever that is.
func fieldsUnder(b []byte) []wire.Field {
	if len(b) < 4 {
		return nil
	}
	l, _ := wire.Take(b[:len(b)-4])
	return l
}

// mayTake tells whether no number of a column is below 0.
func mayTake(c api.Column) bool {
	for _, s := range c.Streams {
		if s.Kind < 0 {
			return false
		}
	}
	return c.Many >= 0 && c.Encoding >= 0 && c.Texts >= 0
}

// slowTakeChunk guesses the column by its fields, whatever their tags are, and
// asks whether it is laid down just so.
func slowTakeChunk(b []byte) (api.Column, bool) {
	var c api.Column
	for i, f := range fieldsUnder(b) {
		switch {
		case i == 0:
			c.Many = int(f.N)
		case i == 1:
			c.Encoding = int(f.N)
		case i == 2:
			c.Texts = int(f.N)
		case i%2 == 1:
			c.Streams = append(c.Streams, api.Stream{Kind: int(f.N)})
		default:
			c.Streams[len(c.Streams)-1].B = f.B
		}
	}
	if !mayTake(c) || !bytes.Equal(slowChunk(c), b) {
		return api.Column{}, false
	}
	return c, true
}

// slowTakeIndex guesses the strides by the tags of the fields, and asks whether
// they may be, and are laid down just so.
func slowTakeIndex(cols []api.Col, b []byte) ([]Stride, bool) {
	var l []Stride
	for _, f := range fieldsUnder(b) {
		if f.Tag == 1 {
			l = append(l, Stride{Rows: int(f.N)})
		}
		if len(l) == 0 {
			return nil, false
		}
		s := &l[len(l)-1]
		if f.Tag == 2 {
			s.Long = append(s.Long, int(f.N))
		} else if f.Tag == 3 && len(s.Stats) < len(cols) {
			known, _ := wire.TakeStats(cols[len(s.Stats)].Kind, f.B)
			s.Stats = append(s.Stats, known)
		}
	}
	for _, s := range l {
		if !mayIndex(cols, s) {
			return nil, false
		}
	}
	if !bytes.Equal(slowIndex(l), b) {
		return nil, false
	}
	return l, true
}

// mayIndex tells whether a stride may be taken of an index.
func mayIndex(cols []api.Col, s Stride) bool {
	if s.Rows < 1 || s.Rows > 8 || len(s.Long) != len(cols) || len(s.Stats) != len(cols) {
		return false
	}
	for i, known := range s.Stats {
		gaps := s.Rows - known.Count
		if s.Long[i] < 0 || s.Long[i] > 1048576 || gaps < 0 || (gaps > 0) != known.HasNull || !stats.May(cols[i].Kind, known) {
			return false
		}
	}
	return true
}

// valuesOf are those of one column in a few rows.
func valuesOf(rows []api.Row, col int) []api.Value {
	var l []api.Value
	for _, r := range rows {
		l = append(l, r[col])
	}
	return l
}

// slowPut lays rows down that may be.
func slowPut(t *testing.T, cols []api.Col, rows []api.Row) ([]byte, []Stride) {
	t.Helper()
	var data []byte
	var l []Stride
	for at := 0; at < len(rows); at += 8 {
		few := rows[at:min(at+8, len(rows))]
		s := Stride{Rows: len(few)}
		for i, c := range cols {
			laid, e := column.Put(c.Kind, valuesOf(few, i))
			if e != api.OK {
				t.Fatalf("column.Put of %v is %d", few, e)
			}
			chunk := slowChunk(laid)
			data = append(data, chunk...)
			s.Long = append(s.Long, len(chunk))
			s.Stats = append(s.Stats, stats.Of(c.Kind, valuesOf(few, i)))
		}
		l = append(l, s)
	}
	return data, l
}

// slowRead sums the lengths ahead up as great as they are, and asks all that
// the chapter asks.
func slowRead(cols []api.Col, data []byte, l []Stride, stride, col int) ([]api.Value, api.Errno) {
	if stride < 0 || stride >= len(l) || col < 0 || col >= len(cols) || col >= len(l[stride].Long) || col >= len(l[stride].Stats) {
		return nil, api.ErrArg
	}
	s := l[stride]
	var all []int
	for _, ahead := range l[:stride] {
		all = append(all, ahead.Long...)
	}
	all = append(all, s.Long[:col+1]...)
	end := new(big.Int)
	for _, n := range all {
		if n < 0 {
			return nil, api.ErrCorrupt
		}
		end.Add(end, big.NewInt(int64(n)))
	}
	if end.Cmp(big.NewInt(int64(len(data)))) > 0 {
		return nil, api.ErrCorrupt
	}
	to := int(end.Int64())
	c, ok := slowTakeChunk(data[to-s.Long[col] : to])
	if !ok {
		return nil, api.ErrCorrupt
	}
	values, e := column.Take(cols[col].Kind, c)
	if e != api.OK || len(values) != s.Rows || stats.Of(cols[col].Kind, values) != s.Stats[col] {
		return nil, api.ErrCorrupt
	}
	return values, api.OK
}

// sameColumn and sameStrides compare all that there is of both.
func sameColumn(a, b api.Column) bool {
	return a.Many == b.Many && a.Encoding == b.Encoding && a.Texts == b.Texts &&
		slices.EqualFunc(a.Streams, b.Streams, func(x, y api.Stream) bool { return x.Kind == y.Kind && bytes.Equal(x.B, y.B) })
}

func sameStrides(a, b []Stride) bool {
	return slices.EqualFunc(a, b, func(x, y Stride) bool {
		return x.Rows == y.Rows && slices.Equal(x.Long, y.Long) && slices.Equal(x.Stats, y.Stats)
	})
}

// short tells bytes, but not too many.
func short(b []byte) []byte { return b[:min(len(b), 60)] }

// checkTakeChunk holds TakeChunk against the slower reckoning, and what it takes
// against what PutChunk lays down again.
func checkTakeChunk(t *testing.T, b []byte) (taken bool) {
	t.Helper()
	want, ok := slowTakeChunk(b)
	c, e := TakeChunk(&tab, b)
	if !ok {
		if e != api.ErrCorrupt || !sameColumn(c, api.Column{}) {
			t.Fatalf("TakeChunk(% x) is %v, %d; want ErrCorrupt", short(b), c, e)
		}
		return false
	}
	if e != api.OK || !sameColumn(c, want) {
		t.Fatalf("TakeChunk(% x) is %v, %d; want %v", short(b), c, e, want)
	}
	if again := PutChunk(&tab, c); !bytes.Equal(again, b) {
		t.Fatalf("PutChunk(%v) is % x; it was taken of % x", c, short(again), short(b))
	}
	return true
}

// wantNoChunk fails, if b is taken as a chunk.
func wantNoChunk(t *testing.T, b []byte) {
	t.Helper()
	if checkTakeChunk(t, b) {
		t.Fatalf("TakeChunk(% x) is taken; want ErrCorrupt", short(b))
	}
}

// wantChunk fails, if a column is not laid down as it should be, or not taken as
// it was; one with a number below 0 is not taken.
func wantChunk(t *testing.T, c api.Column) {
	t.Helper()
	b := PutChunk(&tab, c)
	if want := slowChunk(c); !bytes.Equal(b, want) {
		t.Fatalf("PutChunk(%v) is % x; want % x", c, short(b), short(want))
	}
	if !mayTake(c) {
		wantNoChunk(t, b)
	} else if d, e := TakeChunk(&tab, b); e != api.OK || !sameColumn(d, c) {
		t.Fatalf("TakeChunk(% x) is %v, %d; want %v", short(b), d, e, c)
	}
}

// checkTakeIndex holds TakeIndex against the slower reckoning, and what it takes
// against what PutIndex lays down again.
func checkTakeIndex(t *testing.T, cols []api.Col, b []byte) (taken bool) {
	t.Helper()
	want, ok := slowTakeIndex(cols, b)
	l, e := TakeIndex(&tab, cols, b)
	if !ok {
		if e != api.ErrCorrupt || len(l) != 0 {
			t.Fatalf("TakeIndex(%v, % x) is %v, %d; want ErrCorrupt", cols, short(b), l, e)
		}
		return false
	}
	if e != api.OK || !sameStrides(l, want) {
		t.Fatalf("TakeIndex(%v, % x) is %v, %d; want %v", cols, short(b), l, e, want)
	}
	if again := PutIndex(&tab, l); !bytes.Equal(again, b) {
		t.Fatalf("PutIndex(%v) is % x; it was taken of % x", l, short(again), short(b))
	}
	return true
}

// wantNoIndex fails, if b is taken as an index of the columns.
func wantNoIndex(t *testing.T, cols []api.Col, b []byte) {
	t.Helper()
	if checkTakeIndex(t, cols, b) {
		t.Fatalf("TakeIndex(%v, % x) is taken; want ErrCorrupt", cols, short(b))
	}
}

// wantLaid fails, if strides, that need not be such as may be, are not laid down
// as they should be.
func wantLaid(t *testing.T, l []Stride) []byte {
	t.Helper()
	b := PutIndex(&tab, l)
	if want := slowIndex(l); !bytes.Equal(b, want) {
		t.Fatalf("PutIndex(%v) is % x; want % x", l, short(b), short(want))
	}
	return b
}

// wantIndex fails, if strides are not laid down as they should be, or not taken
// as they were.
func wantIndex(t *testing.T, cols []api.Col, l []Stride) {
	t.Helper()
	b := wantLaid(t, l)
	if m, e := TakeIndex(&tab, cols, b); e != api.OK || !sameStrides(m, l) {
		t.Fatalf("TakeIndex(%v, % x) is %v, %d; want %v", cols, short(b), m, e, l)
	}
}

// checkRead holds Read against the slower reckoning, and tells the error.
func checkRead(t *testing.T, cols []api.Col, data []byte, l []Stride, stride, col int) api.Errno {
	t.Helper()
	want, e := slowRead(cols, data, l, stride, col)
	values, told := Read(&tab, cols, data, l, stride, col)
	if told != e || !slices.Equal(values, want) {
		t.Fatalf("Read(%v, % x, %v, %d, %d) is %v, %d; want %v, %d", cols, short(data), l, stride, col, values, told, want, e)
	}
	return e
}

// wantRead fails, if Read does not tell that error.
func wantRead(t *testing.T, cols []api.Col, data []byte, l []Stride, stride, col int, want api.Errno) {
	t.Helper()
	if e := checkRead(t, cols, data, l, stride, col); e != want {
		t.Fatalf("Read(%v, % x, %v, %d, %d) is %d; want %d", cols, short(data), l, stride, col, e, want)
	}
}

// wantPut fails, if rows are not laid down as they should be, or not read as
// they were, by the strides that were told and by those of their index.
func wantPut(t *testing.T, cols []api.Col, rows []api.Row) {
	t.Helper()
	want, strides := slowPut(t, cols, rows)
	data, l, e := Put(&tab, cols, rows)
	if e != api.OK || !bytes.Equal(data, want) || !sameStrides(l, strides) {
		t.Fatalf("Put(%v, %v) is % x, %v, %d; want % x, %v", cols, rows, short(data), l, e, short(want), strides)
	}
	wantIndex(t, cols, l)
	taken, _ := TakeIndex(&tab, cols, PutIndex(&tab, l))
	wantRows(t, cols, data, l, rows)
	wantRows(t, cols, data, taken, rows)
}

// wantRows fails, if not just the rows are read.
func wantRows(t *testing.T, cols []api.Col, data []byte, l []Stride, rows []api.Row) {
	t.Helper()
	at := 0
	for i, s := range l {
		few := rows[at : at+s.Rows]
		at += s.Rows
		for j := range cols {
			values, e := Read(&tab, cols, data, l, i, j)
			if e != api.OK || !slices.Equal(values, valuesOf(few, j)) {
				t.Fatalf("Read(%v, .., %d, %d) is %v, %d; want %v", cols, i, j, values, e, valuesOf(few, j))
			}
		}
	}
	if at != len(rows) {
		t.Fatalf("%d rows are read of %d", at, len(rows))
	}
}

// wantNoPut fails, if Put does not tell that error, and nothing else.
func wantNoPut(t *testing.T, cols []api.Col, rows []api.Row, want api.Errno) {
	t.Helper()
	if data, l, e := Put(&tab, cols, rows); e != want || len(data) != 0 || len(l) != 0 {
		t.Fatalf("Put(%v, %d rows) is % x, %v, %d; want %d", cols, len(rows), short(data), l, e, want)
	}
}

// colsOf are columns of these kinds.
func colsOf(kinds ...int) []api.Col {
	var l []api.Col
	for i, kind := range kinds {
		l = append(l, api.Col{Name: "c" + string(rune('0'+i)), Kind: kind})
	}
	return l
}

// drawnValue is one that may be of a kind, and is something; n is for its size.
func drawnValue(r *rand.Rand, kind, n int) api.Value {
	switch kind {
	case api.Bool:
		return api.Value{N: r.Intn(2)}
	case api.Text:
		return api.Value{S: strings.Repeat("é😀a\x00b", r.Intn(1+n%30)) + strings.Repeat("z", r.Intn(3))}
	case api.Bytes:
		b := make([]byte, r.Intn(1+n*4))
		r.Read(b)
		return api.Value{S: string(b)}
	}
	return api.Value{N: int(r.Uint64()) >> n}
}

// drawnValues are so many that may be of a kind, of which so many of ten are
// nothing.
func drawnValues(r *rand.Rand, kind, many, gaps int) []api.Value {
	l := make([]api.Value, many)
	n := r.Intn(64)
	for i := range l {
		switch {
		case r.Intn(10) < gaps:
			l[i] = nothing
		case i > 0 && r.Intn(3) == 0:
			l[i] = l[r.Intn(i)]
		default:
			l[i] = drawnValue(r, kind, n)
		}
	}
	return l
}

// drawnRows are so many of columns.
func drawnRows(r *rand.Rand, cols []api.Col, many int) []api.Row {
	rows := make([]api.Row, many)
	for _, c := range cols {
		for i, v := range drawnValues(r, c.Kind, many, []int{0, 0, 3, 9, 10}[r.Intn(5)]) {
			rows[i] = append(rows[i], v)
		}
	}
	return rows
}

// drawnCols are 1 to 6 of any kinds.
func drawnCols(r *rand.Rand) []api.Col {
	l := make([]int, 1+r.Intn(6))
	for i := range l {
		l[i] = kinds[r.Intn(len(kinds))]
	}
	return colsOf(l...)
}

// drawnColumn is any, of numbers that are not below 0.
func drawnColumn(r *rand.Rand) api.Column {
	c := api.Column{Many: drawnCount(r), Encoding: drawnCount(r), Texts: drawnCount(r)}
	for range r.Intn(6) {
		c.Streams = append(c.Streams, api.Stream{Kind: drawnCount(r), B: []byte(many(r.Intn(12) * r.Intn(30)))})
	}
	return c
}

func drawnCount(r *rand.Rand) int { return int(r.Uint64()>>1) >> r.Intn(63) }

// near are bytes with a few of them turned, taken away, or more.
func near(r *rand.Rand, b []byte) []byte {
	b = slices.Clone(b)
	for range 1 + r.Intn(2) {
		if len(b) == 0 {
			return []byte{byte(r.Intn(256))}
		}
		i := r.Intn(len(b))
		switch r.Intn(4) {
		case 0:
			b[i] ^= 1 << r.Intn(8)
		case 1:
			b = slices.Delete(b, i, i+1)
		case 2:
			b = slices.Insert(b, i, "\x00\x01\x02\x08\x10\x18\x1a\x20\x2a\xff"[r.Intn(10)])
		case 3:
			b[i] = byte(r.Intn(256))
		}
	}
	return b
}

// resealed is what stands under a seal, somewhat turned, with a seal of its own.
func resealed(r *rand.Rand, b []byte) []byte { return slowSeal(near(r, b[:len(b)-4])) }

// columns are such as the promises name.
func columns() []api.Column {
	var all []api.Column
	bulks := [][]byte{nil, {}, []byte("a"), []byte(many(127)), []byte(many(128)), []byte(many(300))}
	for _, n := range slices.Concat(counts, noCounts) {
		one := []api.Stream{{Kind: 1, B: []byte("ab")}}
		all = append(all,
			api.Column{Many: n}, api.Column{Encoding: n}, api.Column{Texts: n},
			api.Column{Many: n, Encoding: 2, Texts: 3, Streams: one},
			api.Column{Many: 1, Encoding: n, Texts: 3, Streams: one},
			api.Column{Many: 1, Encoding: 2, Texts: n, Streams: one},
			api.Column{Many: n, Encoding: n, Texts: n, Streams: []api.Stream{{Kind: n, B: one[0].B}, {Kind: n}}},
		)
		for _, b := range bulks {
			s := api.Stream{Kind: n, B: b}
			all = append(all,
				api.Column{Many: 3, Encoding: 1, Streams: []api.Stream{s}},
				api.Column{Many: 3, Encoding: 1, Streams: []api.Stream{one[0], s}},
				api.Column{Many: 3, Encoding: 1, Streams: []api.Stream{s, one[0], s}},
			)
		}
	}
	var long []api.Stream
	for i := range 200 {
		long = append(long, api.Stream{Kind: i, B: bulks[i%len(bulks)]})
	}
	return append(all, api.Column{}, api.Column{Streams: []api.Stream{}}, api.Column{Streams: make([]api.Stream, 9)}, api.Column{Many: 8, Streams: long})
}

// good are a few short ones that may be taken.
func good() []api.Column {
	return []api.Column{
		{},
		{Many: 3, Encoding: 1, Texts: 7, Streams: []api.Stream{{Kind: 1, B: []byte("ab")}, {Kind: 2}}},
		{Many: 128, Encoding: 300, Texts: greatest, Streams: []api.Stream{{Kind: greatest, B: []byte(many(40))}}},
	}
}

// P20.1: bytes by hand, so that the slower reckoning is held against them, too.
func TestChunksByHand(t *testing.T) {
	ones := strings.Repeat("\xff", 9) + "\x01"
	for _, x := range []struct {
		c    api.Column
		want string
	}{
		{api.Column{}, "\x08\x00\x10\x00\x18\x00"},
		{api.Column{Many: 3, Encoding: 1, Texts: 7}, "\x08\x03\x10\x01\x18\x07"},
		{api.Column{Many: 3, Encoding: 1, Texts: 7, Streams: []api.Stream{{Kind: 1, B: []byte("ab")}, {Kind: 2}}}, "\x08\x03\x10\x01\x18\x07\x20\x01\x2a\x02ab\x20\x02\x2a\x00"},
		{api.Column{Many: 127, Encoding: 128, Texts: 300, Streams: []api.Stream{{Kind: 128, B: []byte{0}}}}, "\x08\x7f\x10\x80\x01\x18\xac\x02\x20\x80\x01\x2a\x01\x00"},
		{api.Column{Many: -1, Encoding: -1, Texts: -1, Streams: []api.Stream{{Kind: -1}}}, "\x08" + ones + "\x10" + ones + "\x18" + ones + "\x20" + ones + "\x2a\x00"},
		{api.Column{Many: least}, "\x08" + strings.Repeat("\x80", 9) + "\x01\x10\x00\x18\x00"},
		{api.Column{Many: greatest}, "\x08" + strings.Repeat("\xff", 8) + "\x7f\x10\x00\x18\x00"},
		{api.Column{Streams: []api.Stream{{Kind: 2, B: []byte(many(300))}}}, "\x08\x00\x10\x00\x18\x00\x20\x02\x2a\xac\x02" + many(300)},
	} {
		if b := PutChunk(&tab, x.c); string(b) != string(slowSeal([]byte(x.want))) {
			t.Errorf("PutChunk(%v) is % x; want % x and its seal", x.c, b, x.want)
		}
	}
	// The sum is one that was reckoned elsewhere.
	if b := PutChunk(&tab, api.Column{}); string(b) != "\x08\x00\x10\x00\x18\x00"+nought {
		t.Errorf("PutChunk of no column is % x", b)
	}
}

// P20.1: columns of no stream, of one and of many, of all numbers and sizes.
func TestChunks(t *testing.T) {
	for _, c := range columns() {
		wantChunk(t, c)
	}
	for n := range 330 {
		wantChunk(t, api.Column{Many: n, Encoding: 2, Texts: n, Streams: []api.Stream{{Kind: n, B: []byte(many(n))}}})
	}
	for n := range 40 {
		wantChunk(t, api.Column{Streams: slices.Repeat([]api.Stream{{Kind: n, B: []byte(many(n))}}, n)})
	}
	for bit := range 63 {
		for _, n := range []int{1<<bit - 1, 1 << bit, 1<<bit + 1, -1 << bit} {
			wantChunk(t, api.Column{Many: n, Encoding: n, Texts: n, Streams: []api.Stream{{Kind: n}}})
		}
	}
}

// P20.1: one number below 0 is enough that a column is not taken.
func TestTakeChunkBelow(t *testing.T) {
	for _, n := range noCounts {
		for _, wrong := range []func(c *api.Column){
			func(c *api.Column) { c.Many = n },
			func(c *api.Column) { c.Encoding = n },
			func(c *api.Column) { c.Texts = n },
			func(c *api.Column) { c.Streams[0].Kind = n },
			func(c *api.Column) { c.Streams[2].Kind = n },
		} {
			c := api.Column{Many: 1, Encoding: 2, Texts: 3, Streams: []api.Stream{{Kind: 1}, {Kind: 2}, {Kind: 3}}}
			wantChunk(t, c)
			wrong(&c)
			wantNoChunk(t, PutChunk(&tab, c))
		}
	}
}

// P20.1: of no bytes, of a seal alone, of none, of another one.
func TestTakeChunkSeals(t *testing.T) {
	for n := range 9 {
		wantNoChunk(t, make([]byte, n))
	}
	wantNoChunk(t, nil)
	wantNoChunk(t, slowSeal(nil))
	for _, c := range good() {
		bare := laid(columnFields(c)...)
		wantNoChunk(t, bare)
		wantNoChunk(t, slowSeal(slowSeal(bare)))
		sum := slowSeal(bare)[len(bare):]
		for _, other := range []string{"\x00\x00\x00\x00", "\xff\xff\xff\xff", string([]byte{sum[3], sum[2], sum[1], sum[0]}), string(slowSeal([]byte("a"))[1:]), string(slowSeal(nil))} {
			wantNoChunk(t, append(slices.Clone(bare), other...))
		}
	}
}

// P20.1: cut at every place, with one byte more, turned in every bit.
func TestTakeChunkTurned(t *testing.T) {
	for _, c := range good() {
		b := slowChunk(c)
		wantChunk(t, c)
		for cut := range b {
			wantNoChunk(t, b[:cut])
			wantNoChunk(t, b[cut+1:])
		}
		for more := range 256 {
			wantNoChunk(t, append(slices.Clone(b), byte(more)))
			wantNoChunk(t, append([]byte{byte(more)}, b...))
			wantNoChunk(t, slowSeal(append(laid(columnFields(c)...), byte(more))))
		}
		for bit := range 8 * len(b) {
			b[bit/8] ^= 1 << (bit % 8)
			wantNoChunk(t, b)
			b[bit/8] ^= 1 << (bit % 8)
		}
		for cut := range len(b) - 4 {
			checkTakeChunk(t, slowSeal(b[:cut])) // what is left may be a column of fewer streams
		}
	}
}

// some are all choices of l but l itself.
func some(l []wire.Field) [][]wire.Field {
	var all [][]wire.Field
	for keep := range 1<<len(l) - 1 {
		var part []wire.Field
		for i, f := range l {
			if keep>>i&1 == 1 {
				part = append(part, f)
			}
		}
		all = append(all, part)
	}
	return all
}

// others are what is not l but near: fields that are missing, too many, in
// another order, with another tag, numbers for bytes and bytes for numbers.
func others(l []wire.Field) [][]wire.Field {
	all := some(l)
	for i, f := range l {
		for j := range l {
			swapped := slices.Clone(l)
			swapped[i], swapped[j] = swapped[j], swapped[i]
			all = append(all, swapped, slices.Insert(slices.Clone(l), j, f))
		}
		for tag := 1; tag <= 100; tag++ {
			tagged := slices.Clone(l)
			tagged[i].Tag = tag
			all = append(all, tagged)
		}
		for _, more := range []wire.Field{num(1, 0), num(2, 1), num(3, 2), str(3, ""), num(4, 1), str(4, "a"), str(5, "b"), num(5, 0), num(6, 1), str(6, ""), num(100, 0)} {
			all = append(all, slices.Insert(slices.Clone(l), i, more), append(slices.Clone(l), more))
		}
		turned := slices.Clone(l)
		if f.Bytes {
			turned[i] = num(f.Tag, uint64(len(f.B)))
		} else {
			turned[i] = str(f.Tag, string(slowNumber(f.N)))
		}
		all = append(all, turned)
	}
	return all
}

// P20.1: rightly sealed fields that are others than a column's.
func TestTakeChunkFields(t *testing.T) {
	for _, c := range good() {
		taken := 0
		for _, l := range others(columnFields(c)) {
			if checkTakeChunk(t, slowSeal(laid(l...))) {
				taken++
			}
		}
		// Two that are the same may change places, and a stream may be missing.
		if taken == 0 || taken > 40 {
			t.Errorf("of the fields near %v %d are a column's", c, taken)
		}
	}
	three := []wire.Field{num(1, 3), num(2, 1), num(3, 7)}
	for _, wrong := range [][]wire.Field{
		nil, three[:1], three[:2], three[1:], three[2:],
		{three[1], three[0], three[2]}, {three[0], three[2], three[1]},
		{three[0], three[1], three[2], three[2]},
		{str(1, "\x03"), three[1], three[2]}, {three[0], str(2, "\x01"), three[2]}, {three[0], three[1], str(3, "\x07")},
	} {
		wantNoChunk(t, slowSeal(laid(wrong...)))
		wantNoChunk(t, slowSeal(laid(append(slices.Clone(wrong), num(4, 1), str(5, "a"))...)))
	}
	for _, wrong := range [][]wire.Field{
		{num(4, 1)}, {str(5, "a")}, {str(5, "a"), num(4, 1)}, {num(4, 1), num(4, 1)}, {str(5, "a"), str(5, "a")},
		{num(4, 1), str(5, "a"), num(4, 1)}, {num(4, 1), str(5, "a"), str(5, "a")}, {num(4, 1), num(4, 1), str(5, "a")},
		{str(5, "a"), num(4, 1), str(5, "a")}, {str(4, "\x01"), str(5, "a")}, {num(4, 1), num(5, 0)}, {num(4, 1), str(6, "a")},
		{num(5, 1), str(4, "a")}, {num(3, 1), str(5, "a")}, {num(1, 1)}, {num(6, 1), str(5, "a")},
	} {
		wantNoChunk(t, slowSeal(laid(append(slices.Clone(three), wrong...)...)))
		wantNoChunk(t, slowSeal(laid(append(append(slices.Clone(three), num(4, 2), str(5, "ab")), wrong...)...)))
	}
}

// P20.1: numbers of 2^63 and above are none, wherever they stand.
func TestTakeChunkFar(t *testing.T) {
	l := columnFields(good()[1])
	for i, f := range l {
		if f.Bytes {
			continue
		}
		for _, far := range fars {
			with := slices.Clone(l)
			with[i].N = far
			wantNoChunk(t, slowSeal(laid(with...)))
		}
		with := slices.Clone(l)
		with[i].N = 1<<63 - 1
		if !checkTakeChunk(t, slowSeal(laid(with...))) {
			t.Errorf("2^63 - 1 as field %d is refused", i)
		}
	}
}

// long is a number in more bytes than it needs: noughts behind its last one.
func long(x uint64, more int) []byte {
	b := slowNumber(x)
	for range more {
		b[len(b)-1] |= 128
		b = append(b, 0)
	}
	return b
}

// P20.1: heads, numbers and lengths in more bytes than they need.
func TestTakeChunkLonger(t *testing.T) {
	for _, c := range good() {
		l := columnFields(c)
		for i, f := range l {
			ahead, behind := laid(l[:i]...), laid(l[i+1:]...)
			for more := 1; more <= 9; more++ {
				head, count, bulk := uint64(8*f.Tag), f.N, []byte(nil)
				if f.Bytes {
					head, count, bulk = head+2, uint64(len(f.B)), f.B
				}
				wantNoChunk(t, slowSeal(slices.Concat(ahead, long(head, more), slowNumber(count), bulk, behind)))
				wantNoChunk(t, slowSeal(slices.Concat(ahead, slowNumber(head), long(count, more), bulk, behind)))
			}
		}
	}
}

// P20.1: drawn columns, drawn bytes, and chunks that are somewhat turned; sealed
// and not.
func TestTakeChunkDrawn(t *testing.T) {
	r := rand.New(rand.NewSource(201))
	taken := 0
	for range 20000 {
		c := drawnColumn(r)
		wantChunk(t, c)
		wantNoChunk(t, near(r, laid(columnFields(c)...)))
		if checkTakeChunk(t, resealed(r, slowChunk(c))) {
			taken++
		}
		checkTakeChunk(t, near(r, slowChunk(c)))
		b := make([]byte, r.Intn(16))
		r.Read(b)
		checkTakeChunk(t, b)
		checkTakeChunk(t, slowSeal(b))
		for i := range b {
			b[i] = "\x00\x01\x02\x08\x10\x18\x20\x2a\x80\xff"[r.Intn(10)]
		}
		checkTakeChunk(t, slowSeal(append([]byte("\x08\x01\x10\x01\x18\x00"), b...)))
	}
	if taken < 1000 {
		t.Errorf("just %d of those that were turned are chunks", taken)
	}
}

// nought is the sum of the six bytes that a column of noughts has.
const nought = "\x91\xe7\x99\x7c"

// rowsOf are rows of one column of ints, the numbers from 0 on.
func rowsOf(many int) []api.Row {
	var rows []api.Row
	for i := range many {
		rows = append(rows, api.Row{{N: i}})
	}
	return rows
}

// P20.2: the chapter's example.
func TestExamples(t *testing.T) {
	data, l, e := Put(&tab, colsOf(api.Int), rowsOf(9))
	if e != api.OK || len(l) != 2 || l[0].Rows != 8 || l[1].Rows != 1 {
		t.Errorf("Put of 9 rows is % x, %v, %d", data, l, e)
	}
}

// P20.2: bytes by hand: the numbers 0 and 1 and a gap, and the words a and "".
func TestPutByHand(t *testing.T) {
	cols := colsOf(api.Int, api.Text)
	data, l, e := Put(&tab, cols, []api.Row{{{Null: true}, {S: "a"}}, {{N: 1}, {}}})
	first := slowSeal([]byte("\x08\x02\x10\x01\x18\x00\x20\x01\x2a\x02\xff\x40\x20\x02\x2a\x03\x42\x00\x80"))
	if e != api.OK || len(l) != 1 || !bytes.HasPrefix(data, first) {
		t.Fatalf("Put is % x, %v, %d; want % x first", data, l, e, first)
	}
	texts, e := column.Put(api.Text, []api.Value{{S: "a"}, {}})
	second := slowChunk(texts)
	if e != api.OK || !bytes.Equal(data[len(first):], second) {
		t.Errorf("Put lays % x down behind the first chunk; want % x", data[len(first):], second)
	}
	want := Stride{
		Rows: 2,
		Long: []int{len(first), len(second)},
		Stats: []api.Stats{
			{Count: 1, HasNull: true, Min: api.Value{N: 1}, Max: api.Value{N: 1}, Sum: 1},
			{Count: 2, Min: api.Value{}, Max: api.Value{S: "a"}},
		},
	}
	if !sameStrides(l, []Stride{want}) {
		t.Errorf("Put tells %v; want %v", l, want)
	}
}

// P20.2, P20.5: of no rows, of each number of rows up to 32, and of more.
func TestPutCounts(t *testing.T) {
	r := rand.New(rand.NewSource(202))
	for n := range 33 {
		var strides []int
		for left := n; left > 0; left -= 8 {
			strides = append(strides, min(left, 8))
		}
		for _, cols := range [][]api.Col{colsOf(api.Int), colsOf(api.Text), colsOf(api.Bool, api.Bytes), colsOf(1, 2, 3, 4, 5, 6), colsOf(7, 6, 5, 4, 3, 2)} {
			rows := drawnRows(r, cols, n)
			wantPut(t, cols, rows)
			data, l, _ := Put(&tab, cols, rows)
			var told []int
			total := 0
			for _, s := range l {
				told = append(told, s.Rows)
				for _, long := range s.Long {
					total += long
				}
				if len(s.Long) != len(cols) || len(s.Stats) != len(cols) {
					t.Errorf("a stride of %d columns tells %d lengths, and what is known of %d", len(cols), len(s.Long), len(s.Stats))
				}
			}
			if !slices.Equal(told, strides) || total != len(data) {
				t.Errorf("%d rows have strides of %v rows, and %d bytes of %d", n, told, total, len(data))
			}
		}
	}
	for _, n := range []int{33, 34, 40, 64, 100, 1024, 5000} {
		wantNoPut(t, colsOf(api.Int), rowsOf(n), api.ErrBig)
		wantNoPut(t, colsOf(api.Int), make([]api.Row, n), api.ErrBig)
	}
	if data, l, e := Put(&tab, colsOf(api.Int), []api.Row{}); len(data) != 0 || len(l) != 0 || e != api.OK {
		t.Errorf("Put of no rows is % x, %v, %d", data, l, e)
	}
}

// noSchemas are columns that are none.
func noSchemas() [][]api.Col {
	all := [][]api.Col{nil, {}, colsOf(1, 2, 3, 4, 5, 6, 7), slices.Repeat(colsOf(2), 2)}
	for _, kind := range noKinds {
		all = append(all, colsOf(kind), colsOf(api.Int, kind), colsOf(kind, api.Text))
	}
	for _, name := range []string{"", "A", "a b", "é", "a\x00", "\xff", "-", strings.Repeat("a", 21)} {
		all = append(all, []api.Col{{Name: name, Kind: api.Int}}, []api.Col{{Name: "a", Kind: api.Int}, {Name: name, Kind: api.Int}})
	}
	return append(all, []api.Col{{Name: "a", Kind: 1}, {Name: "b", Kind: 2}, {Name: "a", Kind: 3}})
}

// P20.2: columns that are no schema, alone and with rows that are too many, or
// that do not fit.
func TestPutSchema(t *testing.T) {
	for _, cols := range noSchemas() {
		for _, rows := range [][]api.Row{nil, {}, rowsOf(1), rowsOf(32), rowsOf(33), make([]api.Row, 1), make([]api.Row, 33), {make(api.Row, len(cols))}} {
			wantNoPut(t, cols, rows, api.ErrSchema)
		}
	}
	wantPut(t, []api.Col{{Name: strings.Repeat("a", 20), Kind: api.Int}, {Name: "_9z", Kind: api.Int}}, []api.Row{{{N: 1}, {N: 2}}})
}

// misfits are rows that do not fit two columns of ints and texts.
func misfits() []api.Row {
	return []api.Row{
		nil, {}, {{N: 1}}, {{N: 1}, {S: "a"}, {}}, {{N: 1}, {S: "a"}, {Null: true}, {N: 1}},
		{{S: "a"}, {S: "a"}}, {{N: 1}, {N: 1}}, {{S: "a"}, {N: 1}}, {{N: 1}, {S: "\xff"}}, {{N: 1}, {S: strings.Repeat("a", 301)}},
		{{Null: true, N: 1}, {}}, {{Null: true, S: "a"}, {}}, {{}, {Null: true, N: 1}}, {{}, {Null: true, S: "a"}}, {{N: 1, S: "a"}, {}}, {{}, {N: 1, S: "a"}},
	}
}

// P20.2: a row that does not fit, first, in the middle and last, of each stride;
// and beside too many rows.
func TestPutMisfits(t *testing.T) {
	cols := colsOf(api.Int, api.Text)
	fits := api.Row{{N: 1}, {S: "a"}}
	for _, wrong := range misfits() {
		for _, n := range []int{1, 2, 7, 8, 9, 16, 17, 31, 32, 33} {
			want := api.ErrType
			if n > 32 {
				want = api.ErrBig
			}
			for at := range n {
				rows := slices.Repeat([]api.Row{fits}, n)
				rows[at] = wrong
				wantNoPut(t, cols, rows, want)
			}
		}
	}
	for _, x := range []struct {
		kind int
		v    api.Value
	}{{api.Bool, api.Value{N: 2}}, {api.Bool, api.Value{N: -1}}, {api.Bool, api.Value{S: "a"}}, {api.Decimal, api.Value{S: "a"}}, {api.Date, api.Value{S: "a"}}, {api.Time, api.Value{S: "a"}}, {api.Bytes, api.Value{N: 1}}, {api.Bytes, api.Value{S: many(301)}}, {api.Text, api.Value{S: "a\xc3"}}} {
		wantNoPut(t, colsOf(x.kind), []api.Row{{x.v}}, api.ErrType)
		wantNoPut(t, colsOf(x.kind), []api.Row{{nothing}, {x.v}, {nothing}}, api.ErrType)
	}
}

// P20.2, P20.5: columns of each kind, of values at their ends; all of them
// nothing, some, and none.
func TestPutKinds(t *testing.T) {
	ends := map[int][]api.Value{
		api.Bool:  {{N: 0}, {N: 1}},
		api.Text:  {{}, {S: "a"}, {S: "é"}, {S: "\x00"}, {S: strings.Repeat("é", 150)}, {S: "a"}},
		api.Bytes: {{}, {S: "\xff"}, {S: "\x80\x80"}, {S: many(300)}, {S: many(300)}},
	}
	for _, kind := range kinds {
		l := ends[kind]
		if l == nil {
			l = []api.Value{{N: least}, {N: greatest}, {}, {N: -1}, {N: 1}, {N: 86400000000000}, {N: least}, {N: 127}, {N: 128}}
		}
		for _, values := range [][]api.Value{l[:1], l[1:2], l, slices.Repeat(l, 3), {nothing}, slices.Repeat([]api.Value{nothing}, 20), append([]api.Value{nothing}, l...), append(slices.Clone(l), nothing), append(slices.Repeat([]api.Value{nothing}, 8), l...)} {
			var rows, both []api.Row
			for _, v := range values {
				rows = append(rows, api.Row{v})
				both = append(both, api.Row{v, nothing, v})
			}
			wantPut(t, colsOf(kind), rows)
			wantPut(t, colsOf(kind, api.Text, kind), both)
		}
	}
}

// known are stats that may be of a stride's 8 rows at most, of a kind.
func known(kind int) []api.Stats {
	a, b := api.Value{N: 0}, api.Value{N: 1}
	if !value.Number(kind) {
		a, b = api.Value{S: "a"}, api.Value{S: "b"}
	}
	var all []api.Stats
	for _, l := range [][]api.Value{nil, {nothing}, {a}, {b, a}, {nothing, b}, {a, nothing, b, b}, {a, b, a, b, a, b, a, b}, {a, b, a, b, a, b, a, nothing}, slices.Repeat([]api.Value{nothing}, 8)} {
		all = append(all, stats.Of(kind, l))
	}
	return all
}

// strideOf is one of a single column.
func strideOf(rows, long int, s api.Stats) Stride {
	return Stride{Rows: rows, Long: []int{long}, Stats: []api.Stats{s}}
}

// full are a stride's rows for which just that may be known: as many as are
// something, or more if some are nothing.
func full(s api.Stats) int {
	if s.HasNull {
		return s.Count + 1
	}
	return s.Count
}

// P20.3: of no strides, of one, of many, of all kinds.
func TestIndexes(t *testing.T) {
	wantIndex(t, nil, nil)
	wantIndex(t, colsOf(api.Int), nil)
	wantIndex(t, colsOf(api.Int), []Stride{})
	for _, kind := range kinds {
		for _, s := range known(kind)[1:] {
			wantIndex(t, colsOf(kind), []Stride{strideOf(full(s), 17, s)})
		}
	}
	r := rand.New(rand.NewSource(203))
	for _, n := range []int{1, 2, 3, 4, 5, 9, 100, 1000} {
		for range 5 {
			cols := drawnCols(r)
			wantIndex(t, cols, drawnStrides(r, cols, n))
		}
	}
	// More columns than a schema has are asked for no less.
	wantIndex(t, colsOf(1, 2, 3, 4, 5, 6, 7, 1, 2), drawnStrides(r, colsOf(1, 2, 3, 4, 5, 6, 7, 1, 2), 3))
}

// drawnStrides are so many that may be of an index.
func drawnStrides(r *rand.Rand, cols []api.Col, many int) []Stride {
	var l []Stride
	for range many {
		s := Stride{Rows: 1 + r.Intn(8)}
		for _, c := range cols {
			s.Long = append(s.Long, r.Intn(1<<20+1)>>r.Intn(20))
			s.Stats = append(s.Stats, stats.Of(c.Kind, drawnValues(r, c.Kind, s.Rows, []int{0, 3, 10}[r.Intn(3)])))
		}
		l = append(l, s)
	}
	return l
}

// P20.3: bytes by hand.
func TestIndexByHand(t *testing.T) {
	one := stats.Of(api.Int, []api.Value{{N: -1}})
	laidOne := "\x08\x01\x10\x00\x1a\x06\x08\x00\x10\x01\x1a\x00\x22\x06\x08\x00\x10\x01\x1a\x00\x28\x01\x30\x00"
	if string(wire.PutStats(one)) != laidOne {
		t.Fatalf("what is known stands as % x", wire.PutStats(one))
	}
	for _, x := range []struct {
		l    []Stride
		want string
	}{
		{nil, ""},
		{[]Stride{{Rows: 5}}, "\x08\x05"},
		{[]Stride{strideOf(1, 300, one)}, "\x08\x01\x10\xac\x02\x1a\x18" + laidOne},
		{[]Stride{strideOf(1, 0, one), strideOf(8, 1, one)}, "\x08\x01\x10\x00\x1a\x18" + laidOne + "\x08\x08\x10\x01\x1a\x18" + laidOne},
		{[]Stride{{Rows: -1, Long: []int{-1}, Stats: []api.Stats{one}}}, "\x08" + strings.Repeat("\xff", 9) + "\x01\x10" + strings.Repeat("\xff", 9) + "\x01\x1a\x18" + laidOne},
		{[]Stride{{Rows: 2, Long: []int{7, 8}, Stats: []api.Stats{one}}}, "\x08\x02\x10\x07\x1a\x18" + laidOne},
		{[]Stride{{Rows: 2, Long: []int{7}, Stats: []api.Stats{one, one}}}, "\x08\x02\x10\x07\x1a\x18" + laidOne},
		{[]Stride{{Rows: 2, Long: []int{7}}, {Rows: 3, Stats: []api.Stats{one}}}, "\x08\x02\x08\x03"},
	} {
		if b := PutIndex(&tab, x.l); string(b) != string(slowSeal([]byte(x.want))) {
			t.Errorf("PutIndex(%v) is % x; want % x and its seal", x.l, b, x.want)
		}
	}
}

// P20.3: strides whose Long and Stats are not as many are laid down with as many
// as both tell; what may not be is laid down, too.
func TestPutIndexOdd(t *testing.T) {
	s := stats.Of(api.Int, []api.Value{{N: 1}})
	for longs := range 5 {
		for known := range 5 {
			odd := Stride{Rows: 1, Long: []int{1, 2, 3, 4}[:longs], Stats: []api.Stats{s, s, s, s}[:known]}
			even := Stride{Rows: 1, Long: odd.Long[:min(longs, known)], Stats: odd.Stats[:min(longs, known)]}
			b := wantLaid(t, []Stride{odd, even, odd})
			if !bytes.Equal(b, PutIndex(&tab, []Stride{even, even, even})) {
				t.Errorf("PutIndex of %d lengths and %d stats is % x", longs, known, b)
			}
			cols := colsOf(slices.Repeat([]int{api.Int}, len(even.Long))...)
			if l, e := TakeIndex(&tab, cols, b); e != api.OK || !sameStrides(l, []Stride{even, even, even}) {
				t.Errorf("TakeIndex of %d lengths and %d stats is %v, %d", longs, known, l, e)
			}
		}
	}
	for _, n := range slices.Concat(counts, noCounts) {
		wantLaid(t, []Stride{strideOf(n, n, api.Stats{Count: n, Sum: n, Over: true, HasNull: true, Max: api.Value{N: n, S: "a"}})})
	}
}

// P20.3: Rows that are none, of strides with chunks and without.
func TestTakeIndexRows(t *testing.T) {
	one := stats.Of(api.Int, []api.Value{{N: 5}})
	gappy := stats.Of(api.Int, []api.Value{{N: 5}, nothing})
	for _, n := range []int{least, -1 << 32, -8, -1, 0, 1, 2, 7, 8, 9, 10, 127, 128, 257, 1<<32 + 1, greatest} {
		known := gappy
		if n == 1 {
			known = one
		}
		for _, l := range [][]Stride{
			{strideOf(n, 9, known)},
			{strideOf(n, 9, known), strideOf(1, 9, one)},
			{strideOf(1, 9, one), strideOf(n, 9, known)},
			{strideOf(2, 9, gappy), strideOf(n, 9, known), strideOf(1, 9, one)},
		} {
			if checkTakeIndex(t, colsOf(api.Int), wantLaid(t, l)) != (n >= 1 && n <= 8) {
				t.Errorf("an index with %d rows is taken, or not", n)
			}
		}
		if checkTakeIndex(t, nil, wantLaid(t, []Stride{{Rows: n}, {Rows: 1}})) != (n >= 1 && n <= 8) {
			t.Errorf("an index of no columns with %d rows is taken, or not", n)
		}
	}
}

// P20.3: fewer and more chunks than there are columns.
func TestTakeIndexColumns(t *testing.T) {
	s := stats.Of(api.Int, []api.Value{{N: 5}})
	strideWith := func(chunks int) Stride {
		return Stride{Rows: 1, Long: make([]int, chunks), Stats: slices.Repeat([]api.Stats{s}, chunks)}
	}
	for chunks := range 8 {
		for columns := range 8 {
			cols := colsOf(slices.Repeat([]int{api.Int}, columns)...)
			for _, l := range [][]Stride{
				{strideWith(chunks)},
				{strideWith(chunks), strideWith(columns)},
				{strideWith(columns), strideWith(chunks)},
				{strideWith(columns), strideWith(chunks), strideWith(columns)},
			} {
				if checkTakeIndex(t, cols, wantLaid(t, l)) != (chunks == columns) {
					t.Errorf("an index of %d chunks is taken, or not, of %d columns", chunks, columns)
				}
			}
		}
	}
	for _, none := range noKinds {
		wantNoIndex(t, colsOf(none), wantLaid(t, []Stride{strideWith(1)}))
		wantNoIndex(t, colsOf(none), wantLaid(t, []Stride{strideOf(1, 1, stats.Of(api.Int, []api.Value{nothing}))}))
		wantNoIndex(t, colsOf(api.Int, none), wantLaid(t, []Stride{strideWith(2)}))
		wantIndex(t, colsOf(none), nil)
	}
}

// P20.3: lengths at their ends.
func TestTakeIndexLengths(t *testing.T) {
	s := stats.Of(api.Int, []api.Value{{N: 5}})
	for _, n := range []int{least, -1 << 32, -1, 0, 1, 127, 128, 1<<20 - 1, 1 << 20, 1<<20 + 1, 1 << 21, 1 << 32, 1<<32 + 1, greatest} {
		good := n >= 0 && n <= 1<<20
		if checkTakeIndex(t, colsOf(api.Int), wantLaid(t, []Stride{strideOf(1, n, s)})) != good {
			t.Errorf("an index with a length of %d is taken, or not", n)
		}
		for at := range 3 {
			l := Stride{Rows: 1, Long: []int{7, 7, 7}, Stats: []api.Stats{s, s, s}}
			l.Long[at] = n
			if checkTakeIndex(t, colsOf(2, 3, 4), wantLaid(t, []Stride{l, l})) != good {
				t.Errorf("an index with a length of %d as %d is taken, or not", n, at)
			}
		}
	}
}

// P20.3: what is known that may not be of the kind.
func TestTakeIndexKnown(t *testing.T) {
	for _, kind := range kinds {
		lo, hi := api.Value{N: 0}, api.Value{N: 1}
		if !value.Number(kind) {
			lo, hi = api.Value{S: "a"}, api.Value{S: "b"}
		}
		fine := api.Stats{Count: 2, Min: lo, Max: hi}
		wantIndex(t, colsOf(kind), []Stride{strideOf(2, 9, fine)})
		for _, wrong := range []func(s *api.Stats){
			func(s *api.Stats) { s.Min, s.Max = hi, lo },
			func(s *api.Stats) { s.Min = nothing },
			func(s *api.Stats) { s.Max = nothing },
			func(s *api.Stats) { s.Min, s.Max = nothing, nothing },
			func(s *api.Stats) { s.Count, s.HasNull = 0, true },
			func(s *api.Stats) { s.Count, s.HasNull = -1, true },
			func(s *api.Stats) { s.Max = api.Value{N: 1, S: "c"} },
			func(s *api.Stats) { s.Max.S = strings.Repeat("z", 301) },
			func(s *api.Stats) { s.Sum, s.Over = 1, true },
		} {
			bad := fine
			wrong(&bad)
			wantNoIndex(t, colsOf(kind), wantLaid(t, []Stride{strideOf(2, 9, bad)}))
			wantNoIndex(t, colsOf(kind, kind), wantLaid(t, []Stride{{Rows: 2, Long: []int{1, 2}, Stats: []api.Stats{fine, bad}}}))
			wantNoIndex(t, colsOf(kind), wantLaid(t, []Stride{strideOf(2, 9, fine), strideOf(2, 9, bad)}))
		}
		for _, other := range kinds { // what is known stands as it may of the other kind, too, or does not
			for _, s := range known(other)[1:] {
				if checkTakeIndex(t, colsOf(kind), wantLaid(t, []Stride{strideOf(full(s), 9, s)})) != stats.May(kind, s) {
					t.Errorf("%v of %d is taken, or not, of %d", s, other, kind)
				}
			}
		}
	}
}

// P20.3: Count held against Rows, and HasNull against both.
func TestTakeIndexCounts(t *testing.T) {
	for _, kind := range kinds {
		for rows := 0; rows <= 9; rows++ {
			for _, count := range []int{0, 1, 2, 3, 4, 5, 6, 7, 8, 9, 10, 256, 409600, 409601} {
				for _, hasNull := range []bool{false, true} {
					s := api.Stats{Count: count, HasNull: hasNull}
					if !value.Number(kind) && count > 0 {
						s.Min, s.Max = api.Value{S: "a"}, api.Value{S: "a"}
					}
					if count == 0 {
						s.Min, s.Max = nothing, nothing
					}
					good := rows >= 1 && rows <= 8 && count <= rows && hasNull == (count < rows)
					if checkTakeIndex(t, colsOf(kind), wantLaid(t, []Stride{strideOf(rows, 9, s)})) != good {
						t.Errorf("%d rows with %d that are something, HasNull %v, are taken, or not", rows, count, hasNull)
					}
				}
			}
		}
	}
}

// index is a short one, with its columns.
func index() ([]api.Col, []Stride) {
	cols := colsOf(api.Int, api.Text)
	a := stats.Of(api.Int, []api.Value{{N: 5}, {N: -300}})
	b := stats.Of(api.Text, []api.Value{{S: "a"}, nothing})
	c := stats.Of(api.Int, []api.Value{nothing})
	d := stats.Of(api.Text, []api.Value{{S: "é"}})
	return cols, []Stride{
		{Rows: 2, Long: []int{30, 128}, Stats: []api.Stats{a, b}},
		{Rows: 1, Long: []int{1 << 20, 0}, Stats: []api.Stats{c, d}},
	}
}

// P20.3: cut at every place, with one byte more, turned in every bit, without a
// seal or with another one.
func TestTakeIndexTurned(t *testing.T) {
	cols, l := index()
	wantIndex(t, cols, l)
	b := slowIndex(l)
	bare := laid(strideFields(l)...)
	wantNoIndex(t, cols, nil)
	wantNoIndex(t, cols, bare)
	wantNoIndex(t, cols, slowSeal(b))
	wantNoIndex(t, cols, append(slices.Clone(bare), 0, 0, 0, 0))
	first := len(laid(strideFields(l[:1])...))
	for cut := range b {
		wantNoIndex(t, cols, b[:cut])
		wantNoIndex(t, cols, b[cut+1:])
		if cut < len(bare) && checkTakeIndex(t, cols, slowSeal(b[:cut])) != (cut == 0 || cut == first) {
			t.Errorf("an index cut at %d, and sealed, is taken, or not", cut)
		}
	}
	for more := range 256 {
		wantNoIndex(t, cols, append(slices.Clone(b), byte(more)))
		wantNoIndex(t, cols, slowSeal(append(slices.Clone(bare), byte(more))))
	}
	for bit := range 8 * len(b) {
		b[bit/8] ^= 1 << (bit % 8)
		wantNoIndex(t, cols, b)
		if bit/8 < len(bare) {
			checkTakeIndex(t, cols, slowSeal(b[:len(bare)]))
		}
		b[bit/8] ^= 1 << (bit % 8)
	}
	for n := range 9 { // four noughts are the seal of no bytes
		for _, any := range [][]api.Col{nil, cols} {
			if checkTakeIndex(t, any, make([]byte, n)) != (n == 4) {
				t.Errorf("an index of %d noughts is taken, or not", n)
			}
		}
	}
}

// P20.3: fields that are missing, too many, in another order, others; numbers in
// more bytes than they need, and of 2^63 and above.
func TestTakeIndexFields(t *testing.T) {
	cols, l := index()
	fields := strideFields(l)
	taken := 0
	for _, wrong := range others(fields) {
		if checkTakeIndex(t, cols, slowSeal(laid(wrong...))) {
			taken++
		}
	}
	// A stride may be missing, and one that is the same again is the same.
	if taken == 0 || taken > 60 {
		t.Errorf("of the fields near an index's %d are one's", taken)
	}
	for i, f := range fields {
		ahead, behind := laid(fields[:i]...), laid(fields[i+1:]...)
		for more := 1; more <= 9; more++ {
			head, count, bulk := uint64(8*f.Tag), f.N, []byte(nil)
			if f.Bytes {
				head, count, bulk = head+2, uint64(len(f.B)), f.B
			}
			wantNoIndex(t, cols, slowSeal(slices.Concat(ahead, long(head, more), slowNumber(count), bulk, behind)))
			wantNoIndex(t, cols, slowSeal(slices.Concat(ahead, slowNumber(head), long(count, more), bulk, behind)))
		}
		for _, far := range append([]uint64{1<<32 + 1, 1<<63 - 1}, fars...) {
			if !f.Bytes {
				wantNoIndex(t, cols, slowSeal(slices.Concat(ahead, laid(num(f.Tag, far)), behind)))
			}
		}
		for cut := range f.B {
			wantNoIndex(t, cols, slowSeal(slices.Concat(ahead, laid(str(f.Tag, string(f.B[:cut]))), behind)))
		}
	}
	for _, tag := range []int{2, 3, 4, 100} {
		for _, f := range []wire.Field{num(tag, 1), str(tag, "a")} {
			wantNoIndex(t, nil, slowSeal(laid(f)))
			wantNoIndex(t, nil, slowSeal(laid(num(1, 1), f)))
			wantNoIndex(t, cols, slowSeal(laid(f)))
		}
	}
	wantNoIndex(t, nil, slowSeal(laid(str(1, "\x01"))))
}

// P20.3, P20.5: drawn indexes, drawn bytes, and indexes that are somewhat turned;
// sealed and not.
func TestTakeIndexDrawn(t *testing.T) {
	r := rand.New(rand.NewSource(204))
	taken := 0
	for range 8000 {
		cols := drawnCols(r)
		l := drawnStrides(r, cols, r.Intn(4))
		wantIndex(t, cols, l)
		wantNoIndex(t, cols, near(r, laid(strideFields(l)...)))
		if checkTakeIndex(t, cols, resealed(r, slowIndex(l))) {
			taken++
		}
		checkTakeIndex(t, cols, near(r, slowIndex(l)))
		checkTakeIndex(t, drawnCols(r), slowIndex(l))
		b := make([]byte, r.Intn(16))
		r.Read(b)
		checkTakeIndex(t, cols, b)
		checkTakeIndex(t, cols, slowSeal(b))
		for i := range b {
			b[i] = "\x00\x01\x02\x07\x08\x09\x10\x1a\x80\xff"[r.Intn(10)]
		}
		checkTakeIndex(t, cols, slowSeal(b))
		checkTakeIndex(t, nil, slowSeal(b))
	}
	if taken < 300 {
		t.Errorf("just %d of those that were turned are indexes", taken)
	}
}

// table is what Put makes of twenty rows of two columns.
func table(t *testing.T) ([]api.Col, []api.Row, []byte, []Stride) {
	t.Helper()
	cols := colsOf(api.Int, api.Text)
	var rows []api.Row
	for i := range 20 {
		r := api.Row{{N: i * i}, {S: string(rune('a' + i%3))}}
		if i%5 == 0 {
			r[0] = nothing
		}
		rows = append(rows, r)
	}
	data, l, e := Put(&tab, cols, rows)
	if e != api.OK {
		t.Fatal(e)
	}
	return cols, rows, data, l
}

// cloned are strides that share nothing with l.
func cloned(l []Stride) []Stride {
	l = slices.Clone(l)
	for i := range l {
		l[i].Long, l[i].Stats = slices.Clone(l[i].Long), slices.Clone(l[i].Stats)
	}
	return l
}

// P20.4: strides and columns of any numbers.
func TestReadPlaces(t *testing.T) {
	cols, rows, data, l := table(t)
	wantRows(t, cols, data, l, rows)
	for _, stride := range []int{least, -1 << 32, -2, -1, 0, 1, 2, 3, 4, 1 << 32, 1<<32 + 1, greatest} {
		for _, col := range []int{least, -1 << 32, -2, -1, 0, 1, 2, 3, 1 << 32, 1<<32 + 1, greatest} {
			want := api.ErrArg
			if stride >= 0 && stride < 3 && col >= 0 && col < 2 {
				want = api.OK
			}
			wantRead(t, cols, data, l, stride, col, want)
			wantRead(t, cols, nil, nil, stride, col, api.ErrArg)
			wantRead(t, nil, data, l, stride, col, api.ErrArg)
		}
	}
	for stride := range l {
		wantRead(t, cols[:1], data, l, stride, 1, api.ErrArg)
		wantRead(t, cols[:1], data, l, stride, 0, api.OK)
		wantRead(t, append(slices.Clone(cols), cols[0]), data, l, stride, 2, api.ErrArg)
	}
}

// P20.4: a stride that tells fewer lengths than there are columns, or less of
// what is known; ErrArg stands ahead of all that is corrupt.
func TestReadTellsLess(t *testing.T) {
	cols, _, data, l := table(t)
	for stride := range l {
		for longs := range 3 {
			for known := range 3 {
				m := cloned(l)
				m[stride].Long, m[stride].Stats = m[stride].Long[:longs], m[stride].Stats[:known]
				for i := range l {
					for j := range cols {
						want := api.OK
						if i == stride && (longs <= j || known <= j) {
							want = api.ErrArg
						} else if i > stride && longs < 2 { // all that stands behind is looked for too far ahead
							want = api.ErrCorrupt
						}
						wantRead(t, cols, data, m, i, j, want)
						if want == api.ErrArg {
							m[0].Rows, m[2].Rows = 99, -1
							wantRead(t, cols, data[:1], m, i, j, want)
							m[0].Rows, m[2].Rows = l[0].Rows, l[2].Rows
						}
					}
				}
			}
		}
	}
}

// P20.4: a stride that tells more lengths than there are columns: all of them
// stand ahead of the next one's chunks.
func TestReadTellsMore(t *testing.T) {
	cols, _, data, l := table(t)
	m := cloned(l)
	m[0].Long = append(m[0].Long, 3)
	more := slices.Insert(slices.Clone(data), l[0].Long[0]+l[0].Long[1], []byte("abc")...)
	for i := range l {
		for j := range cols {
			wantRead(t, cols, more, m, i, j, api.OK)
			want := api.OK
			if i > 0 {
				want = api.ErrCorrupt
			}
			wantRead(t, cols, data, m, i, j, want)
		}
	}
	m[0].Long[2] = -3
	for i := range l {
		want := api.OK
		if i > 0 {
			want = api.ErrCorrupt
		}
		wantRead(t, cols, data, m, i, 0, want)
	}
}

// P20.4: lengths below 0, and so great that no int is their sum, ahead of the
// chunk and its own; those behind it are not looked at.
func TestReadLengths(t *testing.T) {
	cols, _, data, l := table(t)
	chunks := 2 * len(l)
	for _, n := range []int{least, least + 1, -1 << 32, -100, -1, 0, 1, len(data), len(data) + 1, 1 << 32, greatest - len(data), greatest - 1, greatest} {
		for at := range chunks {
			m := cloned(l)
			m[at/2].Long[at%2] = n
			for asked := range chunks {
				want := api.ErrCorrupt
				if asked < at {
					want = api.OK
				}
				wantRead(t, cols, data, m, asked/2, asked%2, want)
			}
			m = cloned(l)
			m[at/2].Long[at%2] = n
			for _, far := range []int{greatest, greatest - n, least, -n} {
				m[2].Long[1] = far
				wantRead(t, cols, data, m, 2, 1, api.ErrCorrupt)
				m[2].Long[0], m[2].Long[1] = far, far
				wantRead(t, cols, data, m, 2, 1, api.ErrCorrupt)
			}
		}
	}
	// Lengths that are far too great, but whose sum goes round to the place of the
	// chunk.
	around := cloned(l)
	around[0].Long[0] += greatest
	around[0].Long[1] += greatest
	around[1].Long[0] += 2
	wantRead(t, cols, data, around, 1, 0, api.ErrCorrupt)
	wantRead(t, cols, data, around, 1, 1, api.ErrCorrupt)
	wantRead(t, cols, data, around, 2, 0, api.ErrCorrupt)
	// One that is below 0, and another that makes up for it.
	back := cloned(l)
	back[0].Long[0] -= len(data)
	back[0].Long[1] += len(data)
	wantRead(t, cols, data, back, 0, 1, api.ErrCorrupt)
	wantRead(t, cols, data, back, 1, 0, api.ErrCorrupt)
}

// P20.4: a length that is one too short or too long, and one that makes up for
// it behind.
func TestReadNearLengths(t *testing.T) {
	cols, _, data, l := table(t)
	for at := range 2 * len(l) {
		for _, by := range []int{-1, 1} {
			m := cloned(l)
			m[at/2].Long[at%2] += by
			for asked := range 2 * len(l) {
				want := api.ErrCorrupt
				if asked < at {
					want = api.OK
				}
				wantRead(t, cols, data, m, asked/2, asked%2, want)
			}
			if at+1 < 2*len(l) {
				next := at + 1
				m[next/2].Long[next%2] -= by
				for asked := range 2 * len(l) {
					want := api.OK
					if asked == at || asked == next {
						want = api.ErrCorrupt
					}
					wantRead(t, cols, data, m, asked/2, asked%2, want)
				}
			}
		}
	}
}

// P20.4: data cut at every place, and with more behind: what stands ahead of the
// cut is read.
func TestReadCut(t *testing.T) {
	cols, _, data, l := table(t)
	for cut := range data {
		end := 0
		for i, s := range l {
			for j := range cols {
				end += s.Long[j]
				want := api.OK
				if end > cut {
					want = api.ErrCorrupt
				}
				wantRead(t, cols, data[:cut], l, i, j, want)
				wantRead(t, cols, append(slices.Clone(data), many(cut)...), l, i, j, api.OK)
				checkRead(t, cols, data[cut+1:], l, i, j) // a chunk of another stride may stand there
			}
		}
	}
}

// P20.4: with any byte another one just the chunk that holds it is corrupt.
func TestReadTurned(t *testing.T) {
	cols, _, data, l := table(t)
	for at := range data {
		for _, mask := range []byte{1, 2, 4, 8, 16, 32, 64, 128, 255, 0x55} {
			data[at] ^= mask
			end := 0
			for i, s := range l {
				for j := range cols {
					from := end
					end += s.Long[j]
					want := api.OK
					if at >= from && at < end {
						want = api.ErrCorrupt
					}
					wantRead(t, cols, data, l, i, j, want)
				}
			}
			data[at] ^= mask
		}
	}
}

// P20.4: a stride that tells other Rows.
func TestReadRows(t *testing.T) {
	cols, _, data, l := table(t)
	for _, n := range []int{least, -8, -1, 0, 1, 3, 5, 7, 9, 16, 264, 1<<32 + 8, greatest} {
		for i := range l {
			m := cloned(l)
			m[i].Rows = n
			for asked := range l {
				for j := range cols {
					want := api.OK
					if asked == i {
						want = api.ErrCorrupt
					}
					wantRead(t, cols, data, m, asked, j, want)
				}
			}
		}
	}
}

// P20.4: a stride that tells something else of a column, each field of it.
func TestReadKnown(t *testing.T) {
	cols, _, data, l := table(t)
	for _, wrong := range []func(s *api.Stats){
		func(s *api.Stats) { s.Count++ },
		func(s *api.Stats) { s.Count-- },
		func(s *api.Stats) { s.HasNull = !s.HasNull },
		func(s *api.Stats) { s.Min.N-- },
		func(s *api.Stats) { s.Min.S += "a" },
		func(s *api.Stats) { s.Min.Null = true },
		func(s *api.Stats) { s.Min = nothing },
		func(s *api.Stats) { s.Max.N++ },
		func(s *api.Stats) { s.Max.S += "a" },
		func(s *api.Stats) { s.Max.Null = true },
		func(s *api.Stats) { s.Max = nothing },
		func(s *api.Stats) { s.Sum++ },
		func(s *api.Stats) { s.Sum-- },
		func(s *api.Stats) { s.Over = !s.Over },
		func(s *api.Stats) { *s = api.Stats{} },
	} {
		for i := range l {
			for j := range cols {
				m := cloned(l)
				wrong(&m[i].Stats[j])
				for asked := range l {
					for col := range cols {
						want := api.OK
						if asked == i && col == j {
							want = api.ErrCorrupt
						}
						wantRead(t, cols, data, m, asked, col, want)
					}
				}
			}
		}
	}
}

// P20.4: a column of another kind than was put is read, if the values and what is
// known of them are the same of both; of none it is corrupt.
func TestReadKinds(t *testing.T) {
	r := rand.New(rand.NewSource(205))
	for _, kind := range kinds {
		for range 20 {
			rows := drawnRows(r, colsOf(kind), 1+r.Intn(32))
			data, l, _ := Put(&tab, colsOf(kind), rows)
			for _, other := range kinds {
				e := checkRead(t, colsOf(other), data, l, 0, 0)
				if other == kind && e != api.OK {
					t.Errorf("Read of %d is %d", kind, e)
				}
			}
			for _, none := range noKinds {
				wantRead(t, colsOf(none), data, l, 0, 0, api.ErrCorrupt)
			}
		}
	}
	_, _, data, l := table(t)
	for i := range l {
		wantRead(t, colsOf(api.Text, api.Int), data, l, i, 0, api.ErrCorrupt)
		wantRead(t, colsOf(api.Text, api.Int), data, l, i, 1, api.ErrCorrupt)
		wantRead(t, []api.Col{{Kind: api.Decimal}, {Kind: api.Bytes}}, data, l, i, 0, api.OK)
		wantRead(t, []api.Col{{Kind: api.Decimal}, {Kind: api.Bytes}}, data, l, i, 1, api.OK)
	}
}

// P20.4: chunks that are rightly sealed, but hold no such column.
func TestReadOtherChunks(t *testing.T) {
	r := rand.New(rand.NewSource(206))
	cols := colsOf(api.Int)
	values := []api.Value{{N: 3}, nothing, {N: 9}}
	c, _ := column.Put(api.Int, values)
	stride := func(chunk []byte) []Stride { return []Stride{strideOf(3, len(chunk), stats.Of(api.Int, values))} }
	wantRead(t, cols, slowChunk(c), stride(slowChunk(c)), 0, 0, api.OK)
	for _, wrong := range []func(c *api.Column){
		func(c *api.Column) { c.Many = 2 },
		func(c *api.Column) { c.Many = 4 },
		func(c *api.Column) { c.Many = 4097 },
		func(c *api.Column) { c.Many = greatest },
		func(c *api.Column) { c.Encoding = 2 },
		func(c *api.Column) { c.Texts = 1 },
		func(c *api.Column) { c.Streams = nil },
		func(c *api.Column) { c.Streams = c.Streams[:1] },
		func(c *api.Column) { c.Streams = c.Streams[1:] },
		func(c *api.Column) { c.Streams[0].Kind = 2 },
		func(c *api.Column) { c.Streams[1].Kind = 3 },
		func(c *api.Column) { c.Streams[0].B = nil },
		func(c *api.Column) { c.Streams[1].B = c.Streams[1].B[1:] },
	} {
		bad := c
		bad.Streams = slices.Clone(c.Streams)
		wrong(&bad)
		chunk := slowChunk(bad)
		wantRead(t, cols, chunk, stride(chunk), 0, 0, api.ErrCorrupt)
	}
	for _, chunk := range [][]byte{nil, {}, slowSeal(nil), laid(columnFields(c)...), slowIndex(stride(nil))} {
		wantRead(t, cols, chunk, stride(chunk), 0, 0, api.ErrCorrupt)
	}
	taken := 0
	for range 5000 {
		chunk := resealed(r, slowChunk(c))
		if checkRead(t, cols, chunk, stride(chunk), 0, 0) == api.OK {
			taken++
		}
	}
	if taken == 0 || taken > 2500 {
		t.Errorf("of those that were turned %d are read", taken)
	}
	// More values than a stride has rows, if all that is told of them is right.
	whole := drawnValues(r, api.Int, 4096, 3)
	c, _ = column.Put(api.Int, whole)
	chunk := slowChunk(c)
	told := []Stride{strideOf(4096, len(chunk), stats.Of(api.Int, whole))}
	wantRead(t, cols, chunk, told, 0, 0, api.OK)
	wantNoIndex(t, cols, wantLaid(t, told))
}

// P20.4, P20.5: columns of no values: a stride that tells no rows; what is no such
// column is corrupt then, too.
func TestReadNoRows(t *testing.T) {
	for _, kind := range kinds {
		none := stats.Of(kind, nil)
		c, _ := column.Put(kind, nil)
		chunk := slowChunk(c)
		wantRead(t, colsOf(kind), chunk, []Stride{strideOf(0, len(chunk), none)}, 0, 0, api.OK)
		wantRead(t, colsOf(kind), chunk, []Stride{strideOf(1, len(chunk), none)}, 0, 0, api.ErrCorrupt)
		wantRead(t, colsOf(kind), chunk[1:], []Stride{strideOf(0, len(chunk)-1, none)}, 0, 0, api.ErrCorrupt)
		wantRead(t, colsOf(kind), nil, []Stride{strideOf(0, 0, none)}, 0, 0, api.ErrCorrupt)
		for _, other := range noKinds {
			wantRead(t, colsOf(other), chunk, []Stride{strideOf(0, len(chunk), none)}, 0, 0, api.ErrCorrupt)
		}
		for _, bad := range []api.Column{{}, {Many: 4097, Encoding: 1, Streams: c.Streams}, {Encoding: 1, Streams: c.Streams[:1]}, {Encoding: 3, Streams: c.Streams}} {
			chunk := slowChunk(bad)
			wantRead(t, colsOf(kind), chunk, []Stride{strideOf(0, len(chunk), none)}, 0, 0, api.ErrCorrupt)
		}
	}
}

// P20.5: many drawn columns and rows are read as they were put, by the strides
// that Put told, and by those of their index.
func TestDrawnRows(t *testing.T) {
	r := rand.New(rand.NewSource(207))
	for range 3000 {
		cols := drawnCols(r)
		wantPut(t, cols, drawnRows(r, cols, r.Intn(33)))
	}
}

// P20.5: the longest rows there are.
func TestLongestRows(t *testing.T) {
	cols := colsOf(7, 6, 7, 6, 7, 2)
	var rows []api.Row
	for i := range 32 {
		v := api.Value{S: many(300 - i)}
		w := api.Value{S: strings.Repeat("é", 150-i)}
		rows = append(rows, api.Row{v, w, v, w, v, {N: least + i}})
	}
	wantPut(t, cols, rows)
}

// roomy is a copy of a list, with things behind its end.
func roomy[T any](l []T, behind ...T) []T {
	return append(slices.Clone(l), behind...)[:len(l)]
}

// whole is a copy of a list and of what stands behind its end.
func whole[T any](l []T) []T { return slices.Clone(l[:cap(l)]) }

// scrub writes over bytes and what stands behind their end.
func scrub(b []byte) {
	for i := range b[:cap(b)] {
		b[:cap(b)][i] ^= 0x55
	}
}

// wipe writes over strides, and all that they hold.
func wipe(l []Stride) {
	for i := range l {
		for j := range l[i].Long[:cap(l[i].Long)] {
			l[i].Long[:cap(l[i].Long)][j] = -77
		}
		for j := range l[i].Stats[:cap(l[i].Stats)] {
			l[i].Stats[:cap(l[i].Stats)][j] = api.Stats{Count: -77}
		}
		l[i] = Stride{Rows: -77}
	}
}

// R7: what PutChunk and TakeChunk are handed stays, with the room behind, and
// what they answer goes with nothing.
func TestChunksLeave(t *testing.T) {
	r := rand.New(rand.NewSource(208))
	for range 1000 {
		c := drawnColumn(r)
		handed := c
		handed.Streams = roomy(c.Streams, api.Stream{Kind: 9}, api.Stream{Kind: 9})
		for i := range handed.Streams {
			handed.Streams[i].B = roomy(handed.Streams[i].B, []byte("room behind")...)
		}
		then := api.Column{Streams: whole(handed.Streams)}
		rooms := make([][]byte, len(c.Streams))
		for i, s := range handed.Streams {
			rooms[i] = whole(s.B)
		}
		one, two := PutChunk(&tab, handed), PutChunk(&tab, handed)
		if !sameColumn(then, api.Column{Streams: handed.Streams[:cap(handed.Streams)]}) {
			t.Fatalf("streams that were handed in are now %v", handed.Streams)
		}
		for i, s := range handed.Streams {
			if !bytes.Equal(s.B[:cap(s.B)], rooms[i]) {
				t.Fatalf("bytes that were handed in are now % x", s.B[:cap(s.B)])
			}
			scrub(s.B)
		}
		scrub(one)
		if !bytes.Equal(two, slowChunk(c)) {
			t.Fatalf("PutChunk(%v) went with another, or with what was handed in", c)
		}
		b := roomy(two, []byte("room behind")...)
		bytesThen := whole(b)
		first, _ := TakeChunk(&tab, b)
		second, _ := TakeChunk(&tab, b)
		if !bytes.Equal(b[:cap(b)], bytesThen) {
			t.Fatalf("a chunk that was handed in is now % x", b[:cap(b)])
		}
		scrub(b)
		for i := range first.Streams { // each stream's bytes by themselves, that the others must not go with
			scrub(first.Streams[i].B)
			first.Streams[i].Kind = -7
			_ = append(first.Streams[i].B, "over the end"...)
			for j := i + 1; j < len(first.Streams); j++ {
				if !bytes.Equal(first.Streams[j].B, c.Streams[j].B) {
					t.Fatalf("two streams of one column share their bytes")
				}
			}
		}
		if !sameColumn(second, c) {
			t.Fatalf("TakeChunk is %v, and goes with another, or with what was handed in; want %v", second, c)
		}
	}
}

// R7: so of Put.
func TestPutLeaves(t *testing.T) {
	r := rand.New(rand.NewSource(209))
	for n := range 500 {
		cols := drawnCols(r)
		rows := drawnRows(r, cols, r.Intn(33))
		if n%5 == 0 {
			rows = append(rows, api.Row{}) // refused
		}
		handedCols := roomy(cols, api.Col{Name: "behind", Kind: 1}, api.Col{})
		handed := roomy(rows, api.Row{{N: 7}}, nil)
		for i := range handed {
			handed[i] = roomy(rows[i], api.Value{N: 7}, api.Value{S: "behind"})
		}
		thenCols := whole(handedCols)
		var then []api.Row
		for _, row := range handed[:cap(handed)] {
			then = append(then, whole(row))
		}
		one, oneStrides, _ := Put(&tab, handedCols, handed)
		two, twoStrides, e := Put(&tab, handedCols, handed)
		if !slices.Equal(handedCols[:cap(handedCols)], thenCols) {
			t.Fatalf("columns that were handed in are now %v", handedCols[:cap(handedCols)])
		}
		for i, row := range handed[:cap(handed)] {
			if !slices.Equal(row[:cap(row)], then[i]) {
				t.Fatalf("a row that was handed in is now %v", row[:cap(row)])
			}
			clear(row[:cap(row)])
		}
		clear(handed)
		clear(handedCols)
		scrub(one)
		wipe(oneStrides)
		if n%5 == 0 {
			if e == api.OK {
				t.Fatalf("a row of no values is put")
			}
			continue
		}
		want, strides := slowPut(t, cols, rows)
		if !bytes.Equal(two, want) || !sameStrides(twoStrides, strides) {
			t.Fatalf("Put(%v, %v) went with another, or with what was handed in", cols, rows)
		}
		wantApart(t, twoStrides)
	}
}

// wantApart fails, if two lists of strides share memory, the room behind their
// ends, too.
func wantApart(t *testing.T, l []Stride) {
	t.Helper()
	then := cloned(l)
	for i := range l {
		_ = append(l[i].Long, -7, -7)
		_ = append(l[i].Stats, api.Stats{Count: -7}, api.Stats{Count: -7})
	}
	if !sameStrides(l, then) {
		t.Fatalf("strides share the room behind their ends: %v", l)
	}
	for i := range l {
		wipe(l[i : i+1])
		if !sameStrides(l[i+1:], then[i+1:]) {
			t.Fatalf("strides share what they hold: %v", l)
		}
	}
}

// roomyStrides are copies of strides, with room behind each list's end.
func roomyStrides(l []Stride) []Stride {
	out := roomy(l, Stride{Rows: 9}, Stride{Rows: 9})
	for i := range out {
		out[i].Long = roomy(l[i].Long, 9, 9)
		out[i].Stats = roomy(l[i].Stats, api.Stats{Count: 9}, api.Stats{Count: 9})
	}
	return out
}

// wholeStrides are copies of strides, and of what stands behind the ends.
func wholeStrides(l []Stride) []Stride {
	out := whole(l)
	for i := range out {
		out[i].Long, out[i].Stats = whole(out[i].Long), whole(out[i].Stats)
	}
	return out
}

// wantStays fails, if strides, or what stands behind the ends, are not as they
// were.
func wantStays(t *testing.T, l, then []Stride) {
	t.Helper()
	if now := wholeStrides(l); !sameStrides(now, then) {
		t.Fatalf("strides that were handed in are now %v; they were %v", now, then)
	}
}

// R7: so of PutIndex and TakeIndex.
func TestIndexesLeave(t *testing.T) {
	r := rand.New(rand.NewSource(210))
	for range 1000 {
		cols := drawnCols(r)
		l := drawnStrides(r, cols, r.Intn(5))
		handed := roomyStrides(l)
		then := wholeStrides(handed)
		one, two := PutIndex(&tab, handed), PutIndex(&tab, handed)
		wantStays(t, handed, then)
		wipe(handed)
		scrub(one)
		if !bytes.Equal(two, slowIndex(l)) {
			t.Fatalf("PutIndex(%v) went with another, or with what was handed in", l)
		}
		b := roomy(two, []byte("room behind")...)
		handedCols := roomy(cols, api.Col{Name: "behind", Kind: 1}, api.Col{})
		bytesThen, colsThen := whole(b), whole(handedCols)
		first, _ := TakeIndex(&tab, handedCols, b)
		second, _ := TakeIndex(&tab, handedCols, b)
		if !bytes.Equal(b[:cap(b)], bytesThen) || !slices.Equal(handedCols[:cap(handedCols)], colsThen) {
			t.Fatalf("what TakeIndex was handed is now % x, %v", b[:cap(b)], handedCols[:cap(handedCols)])
		}
		scrub(b)
		clear(handedCols)
		wipe(first)
		if !sameStrides(second, l) {
			t.Fatalf("TakeIndex is %v, and goes with another, or with what was handed in; want %v", second, l)
		}
		wantApart(t, second)
	}
}

// R7: so of Read.
func TestReadLeaves(t *testing.T) {
	r := rand.New(rand.NewSource(211))
	for range 500 {
		cols := drawnCols(r)
		rows := drawnRows(r, cols, 1+r.Intn(32))
		data, l, _ := Put(&tab, cols, rows)
		stride, col := r.Intn(len(l)), r.Intn(len(cols))
		handedCols, handedData, handed := roomy(cols, api.Col{}, api.Col{Kind: 1}), roomy(data, []byte("room behind")...), roomyStrides(l)
		colsThen, dataThen, then := whole(handedCols), whole(handedData), wholeStrides(handed)
		one, _ := Read(&tab, handedCols, handedData, handed, stride, col)
		two, e := Read(&tab, handedCols, handedData, handed, stride, col)
		wantStays(t, handed, then)
		if !slices.Equal(handedCols[:cap(handedCols)], colsThen) || !bytes.Equal(handedData[:cap(handedData)], dataThen) {
			t.Fatalf("what Read was handed is now %v, % x", handedCols[:cap(handedCols)], short(handedData))
		}
		clear(handedCols)
		scrub(handedData)
		wipe(handed)
		clear(one[:cap(one)])
		few := rows[8*stride : min(8*stride+8, len(rows))]
		if e != api.OK || !slices.Equal(two, valuesOf(few, col)) {
			t.Fatalf("Read is %v, %d, and goes with another, or with what was handed in; want %v", two, e, valuesOf(few, col))
		}
	}
}

// R6, R7: the table of sums stays, and another one does as well.
func TestTableStays(t *testing.T) {
	cols, rows, data, l := table(t)
	one, other := crc.New(), crc.New()
	again, _, _ := Put(&one, cols, rows)
	if !bytes.Equal(again, data) || !bytes.Equal(PutIndex(&one, l), PutIndex(&tab, l)) {
		t.Errorf("Put by another table is % x; want % x", again, data)
	}
	if _, e := TakeIndex(&one, cols, PutIndex(&tab, l)); e != api.OK {
		t.Errorf("TakeIndex by another table is %d", e)
	}
	if values, e := Read(&one, cols, data, l, 0, 0); e != api.OK || !slices.Equal(values, valuesOf(rows[:8], 0)) {
		t.Errorf("Read by another table is %v, %d", values, e)
	}
	if one != other || tab != other {
		t.Errorf("a table that was handed in is another now")
	}
	// What seals, and opens, is the table that is handed in, whatever it holds.
	odd := crc.Table{}
	b := PutChunk(&odd, api.Column{})
	if bytes.Equal(b, slowChunk(api.Column{})) {
		t.Errorf("PutChunk by a table of noughts is sealed as by another")
	}
	if _, e := TakeChunk(&odd, b); e != api.OK {
		t.Errorf("TakeChunk by a table of noughts is %d", e)
	}
}

// spent is how many bytes of memory a call takes.
func spent(call func()) uint64 {
	var before, after runtime.MemStats
	runtime.ReadMemStats(&before)
	call()
	runtime.ReadMemStats(&after)
	return after.TotalAlloc - before.TotalAlloc
}

// R1: chunks and indexes of a file's greatest length are taken in memory, and so
// in time, that does not grow with its square; and a chunk is read in what it
// takes by itself, whatever stands ahead of it.
func TestLong(t *testing.T) {
	c := api.Column{Streams: make([]api.Stream, 200000)}
	chunk := PutChunk(&tab, c)
	one := stats.Of(api.Int, []api.Value{{N: 5}})
	l := slices.Repeat([]Stride{strideOf(1, 40, one)}, 30000)
	index := PutIndex(&tab, l)
	for name, call := range map[string]func(){
		"PutChunk":  func() { PutChunk(&tab, c) },
		"TakeChunk": func() { TakeChunk(&tab, chunk) },
		"PutIndex":  func() { PutIndex(&tab, l) },
		"TakeIndex": func() { TakeIndex(&tab, colsOf(api.Int), index) },
	} {
		if n := spent(call); n > 512<<20 {
			t.Errorf("%s takes %d bytes of memory", name, n)
		}
	}
	values, _ := column.Put(api.Int, []api.Value{{N: 5}})
	last := slowChunk(values)
	data := append(make([]byte, 40*len(l)), last...)
	l = append(l, strideOf(1, len(last), one))
	if n := spent(func() { wantOK(t, data, l) }); n > 1<<20 {
		t.Errorf("Read of the last chunk takes %d bytes of memory", n)
	}
}

// wantOK fails, if the last chunk of ints is not read.
func wantOK(t *testing.T, data []byte, l []Stride) {
	t.Helper()
	if values, e := Read(&tab, colsOf(api.Int), data, l, len(l)-1, 0); e != api.OK || !slices.Equal(values, []api.Value{{N: 5}}) {
		t.Errorf("Read of the last chunk is %v, %d", values, e)
	}
}

// FuzzPut draws columns and rows by a seed.
func FuzzPut(f *testing.F) {
	for seed := range int64(20) {
		f.Add(seed, 8)
	}
	f.Fuzz(func(t *testing.T, seed int64, many int) {
		r := rand.New(rand.NewSource(seed))
		cols := drawnCols(r)
		rows := drawnRows(r, cols, int(uint(many)%40))
		if len(rows) > 32 {
			wantNoPut(t, cols, rows, api.ErrBig)
			return
		}
		wantPut(t, cols, rows)
	})
}

// FuzzTakeChunk takes bytes as they are, and with a seal.
func FuzzTakeChunk(f *testing.F) {
	for _, c := range good() {
		f.Add(slowChunk(c))
		f.Add(laid(columnFields(c)...))
	}
	f.Fuzz(func(t *testing.T, b []byte) {
		checkTakeChunk(t, b)
		checkTakeChunk(t, slowSeal(b))
	})
}

// FuzzTakeIndex takes bytes as they are, and with a seal, of one and of two
// columns.
func FuzzTakeIndex(f *testing.F) {
	_, l := index()
	f.Add(slowIndex(l), api.Int, api.Text)
	f.Add(laid(strideFields(l)...), api.Int, api.Text)
	f.Add(laid(num(1, 5)), 0, 0)
	f.Fuzz(func(t *testing.T, b []byte, one, two int) {
		for _, cols := range [][]api.Col{nil, colsOf(one), colsOf(one, two)} {
			checkTakeIndex(t, cols, b)
			checkTakeIndex(t, cols, slowSeal(b))
		}
	})
}

// FuzzRead reads any bytes as a chunk, as they are and with a seal.
func FuzzRead(f *testing.F) {
	for _, kind := range kinds {
		c, _ := column.Put(kind, []api.Value{nothing, {}})
		f.Add(laid(columnFields(c)...), kind, 2, 0, 0)
	}
	f.Fuzz(func(t *testing.T, b []byte, kind, rows, ahead, long int) {
		for _, chunk := range [][]byte{b, slowSeal(b)} {
			values := []api.Value{nothing, {}}
			l := []Stride{strideOf(1, ahead, api.Stats{}), strideOf(rows, len(chunk), stats.Of(kind, values))}
			checkRead(t, colsOf(kind), chunk, l, 1, 0)
			checkRead(t, colsOf(kind), chunk, l[1:], 0, 0)
			l[1].Long[0] = long
			checkRead(t, colsOf(kind), chunk, l, 1, 0)
		}
	})
}
