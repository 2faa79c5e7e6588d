package stats

import (
	"math"
	"math/big"
	"math/rand"
	"slices"
	"sort"
	"strings"
	"testing"
	"unicode/utf8"

	"pilaster/api"
)

// kinds are all that there are, first those of numbers, then those of texts.
var (
	kinds     = []int{1, 2, 3, 4, 5, 6, 7}
	ofNumbers = kinds[:5]
	ofLetters = kinds[5:]
)

// noKinds are none.
var noKinds = []int{math.MinInt, math.MinInt + 1, math.MinInt + 2, math.MinInt + 6, -1 << 32, -1<<32 + 2, -256, -254, -250, -7, -6, -2, -1, 0, 8, 9, 10, 16, 256, 257, 258, 262, 263, 1<<32 + 1, 1<<32 + 6, math.MaxInt - 1, math.MaxInt}

// mostMany is how many values a table has at most: 1024 rows of 400 files.
const mostMany = 409600

const (
	least    = math.MinInt
	greatest = math.MaxInt
)

// nothing is a value that is nothing.
var nothing = api.Value{Null: true}

// unknown is what is known of no values.
var unknown = api.Stats{Min: nothing, Max: nothing}

func number(n int) api.Value { return api.Value{N: n} }

func text(s string) api.Value { return api.Value{S: s} }

// of are numbers as values.
func of(l ...int) []api.Value {
	out := make([]api.Value, len(l))
	for i, n := range l {
		out[i].N = n
	}
	return out
}

// ofTexts are texts as values.
func ofTexts(l ...string) []api.Value {
	out := make([]api.Value, len(l))
	for i, s := range l {
		out[i].S = s
	}
	return out
}

// isNumber tells whether a kind is of numbers.
func isNumber(kind int) bool { return slices.Contains(ofNumbers, kind) }

// numbered is what is known of values that are something, by their reach and sum.
func numbered(count, min, max, sum int) api.Stats {
	return api.Stats{Count: count, Min: number(min), Max: number(max), Sum: sum}
}

// lettered is what is known of texts that are something.
func lettered(count int, min, max string) api.Stats {
	return api.Stats{Count: count, Min: text(min), Max: text(max)}
}

// over is s with a sum that is none of an int's.
func over(s api.Stats) api.Stats {
	s.Sum, s.Over = 0, true
	return s
}

// gappy is s with some that are nothing.
func gappy(s api.Stats) api.Stats {
	s.HasNull = true
	return s
}

// slowAhead tells whether a, that is something, stands ahead of b, that is, too.
func slowAhead(a, b api.Value) bool {
	if a.N != b.N {
		return a.N < b.N
	}
	for i := 0; i < len(a.S) && i < len(b.S); i++ {
		if a.S[i] != b.S[i] {
			return a.S[i] < b.S[i]
		}
	}
	return len(a.S) < len(b.S)
}

// setSum lays a sum of numbers into s: as it is, or over.
func setSum(s *api.Stats, sum *big.Int) {
	s.Sum, s.Over = 0, !sum.IsInt64()
	if !s.Over {
		s.Sum = int(sum.Int64())
	}
}

// slowOf is Of, by sorting what is something, and by a sum of any size.
func slowOf(kind int, l []api.Value) api.Stats {
	s, some, sum := unknown, []api.Value{}, new(big.Int)
	for _, v := range l {
		if !v.Null {
			some = append(some, v)
			sum.Add(sum, big.NewInt(int64(v.N)))
		}
	}
	s.HasNull = len(some) < len(l)
	s.Count = len(some)
	if len(some) > 0 {
		sort.Slice(some, func(i, j int) bool { return slowAhead(some[i], some[j]) })
		s.Min, s.Max = some[0], some[len(some)-1]
	}
	if isNumber(kind) {
		setSum(&s, sum)
	}
	return s
}

// slowMerge is Merge, by sorting the four ends of both, and by a sum of any size.
func slowMerge(kind int, a, b api.Stats) api.Stats {
	s := unknown
	s.Count = a.Count + b.Count
	s.HasNull = a.HasNull || b.HasNull
	lows, highs := []api.Value{}, []api.Value{}
	for _, x := range []api.Stats{a, b} {
		if !x.Min.Null {
			lows = append(lows, x.Min)
		}
		if !x.Max.Null {
			highs = append(highs, x.Max)
		}
	}
	if len(lows) > 0 {
		sort.Slice(lows, func(i, j int) bool { return slowAhead(lows[i], lows[j]) })
		s.Min = lows[0]
	}
	if len(highs) > 0 {
		sort.Slice(highs, func(i, j int) bool { return slowAhead(highs[i], highs[j]) })
		s.Max = highs[len(highs)-1]
	}
	if isNumber(kind) {
		setSum(&s, new(big.Int).Add(big.NewInt(int64(a.Sum)), big.NewInt(int64(b.Sum))))
	}
	if a.Over || b.Over {
		s = over(s)
	}
	return s
}

// slowFits tells whether a value may be of a kind.
func slowFits(kind int, v api.Value) bool {
	if !slices.Contains(kinds, kind) {
		return false
	}
	if v.Null {
		return v == nothing
	}
	if isNumber(kind) {
		return v.S == "" && (kind != api.Bool || v.N == 0 || v.N == 1)
	}
	return v.N == 0 && len(v.S) <= 300 && (kind == api.Bytes || utf8.ValidString(v.S))
}

// slowMay is May, by each thing that may be wrong.
func slowMay(kind int, s api.Stats) bool {
	if s.Count < 0 || s.Count > mostMany {
		return false
	}
	if !slowFits(kind, s.Min) || !slowFits(kind, s.Max) {
		return false
	}
	if s.Count == 0 {
		if !s.Min.Null || !s.Max.Null {
			return false
		}
	} else {
		if s.Min.Null || s.Max.Null || slowAhead(s.Max, s.Min) {
			return false
		}
	}
	if s.Over && s.Sum != 0 {
		return false
	}
	return isNumber(kind) || s.Sum == 0 && !s.Over
}

// sample are values of a kind, rising, the least and the greatest one among them.
func sample(kind int) []api.Value {
	switch kind {
	case api.Bool:
		return of(0, 1)
	case api.Text:
		return ofTexts("", "\x00", "a", "a\x00", "ab", "abc", "b", "é", "\u7fff", "😀")
	case api.Bytes:
		return ofTexts("", "\x00", "a", "ab", "\x7f", "\x80", "\x80\x00", "\xc3", "\xff", "\xff\xff")
	}
	return of(least, least+1, -1<<32, -256, -1, 0, 1, 255, 1<<31, 1<<32, greatest-1, greatest)
}

// drawn are values of a kind, of which so many of ten are nothing; those of
// numbers are all of one size, so that some sums go beyond an int's and some not.
func drawn(r *rand.Rand, kind, many, gaps int) []api.Value {
	l := make([]api.Value, many)
	bits := r.Intn(64)
	for i := range l {
		l[i] = drawnOne(r, kind, bits)
		if r.Intn(10) < gaps {
			l[i] = nothing
		}
	}
	return l
}

// drawnOne is a value of a kind that is something, if a number of so many bits.
func drawnOne(r *rand.Rand, kind, bits int) api.Value {
	switch {
	case kind == api.Bool:
		return number(r.Intn(2))
	case isNumber(kind):
		if r.Intn(10) == 0 {
			l := sample(kind)
			return l[r.Intn(len(l))]
		}
		return number(int(int64(r.Uint64()) >> (63 - bits)))
	case kind == api.Text:
		letters := []rune("ab\x00\x7fé😀")
		s := ""
		for range r.Intn(5) {
			s += string(letters[r.Intn(len(letters))])
		}
		return text(s)
	}
	b := make([]byte, r.Intn(4))
	for i := range b {
		b[i] = "\x00\x01ab\x7f\x80\xff"[r.Intn(7)]
	}
	return text(string(b))
}

// pairs are how many values two rows have, and how many of ten are nothing.
func pairs(r *rand.Rand, kind int) (a, b []api.Value) {
	sizes := []int{0, 1, 2, 3, 5, 8, 20}
	gaps := []int{0, 1, 5, 9, 10}
	a = drawn(r, kind, sizes[r.Intn(len(sizes))], gaps[r.Intn(len(gaps))])
	b = drawn(r, kind, sizes[r.Intn(len(sizes))], gaps[r.Intn(len(gaps))])
	return a, b
}

// wantOf fails, if what is known of the values is not want.
func wantOf(t *testing.T, kind int, l []api.Value, want api.Stats) {
	t.Helper()
	if s := Of(kind, l); s != want {
		t.Errorf("Of(%d, %#v) is %#v, not %#v", kind, l, s, want)
	}
}

// wantMerge fails, if both, in either order, are not want together.
func wantMerge(t *testing.T, kind int, a, b, want api.Stats) {
	t.Helper()
	if s := Merge(kind, a, b); s != want {
		t.Errorf("Merge(%d, %#v, %#v) is %#v, not %#v", kind, a, b, s, want)
	}
	if s := Merge(kind, b, a); s != want {
		t.Errorf("Merge(%d, %#v, %#v) is %#v, not %#v", kind, b, a, s, want)
	}
}

// wantMay fails, if s may be, and should not, or the other way round.
func wantMay(t *testing.T, kind int, s api.Stats, want bool) {
	t.Helper()
	if May(kind, s) != want {
		t.Errorf("May(%d, %#v) is %v", kind, s, !want)
	}
}

// P17.1: the chapter's examples.
func TestOfExamples(t *testing.T) {
	wantOf(t, api.Int, []api.Value{number(3), nothing, number(-1)}, gappy(numbered(2, -1, 3, 2)))
	wantOf(t, api.Int, of(greatest, 1), api.Stats{Count: 2, Min: number(1), Max: number(greatest), Over: true})
}

// P17.1: of each kind no values, one, all that are nothing, none, both in turn.
func TestOfFew(t *testing.T) {
	for _, kind := range kinds {
		wantOf(t, kind, nil, unknown)
		wantOf(t, kind, []api.Value{}, unknown)
		wantOf(t, kind, []api.Value{nothing}, gappy(unknown))
		wantOf(t, kind, []api.Value{nothing, nothing, nothing}, gappy(unknown))
		l := sample(kind)
		for _, v := range l {
			want := api.Stats{Count: 1, Min: v, Max: v, Sum: v.N}
			wantOf(t, kind, []api.Value{v}, want)
			wantOf(t, kind, []api.Value{nothing, v}, gappy(want))
			wantOf(t, kind, []api.Value{v, nothing}, gappy(want))
		}
		wantOf(t, kind, l, slowOf(kind, l))
		turns := []api.Value{}
		for _, v := range l {
			turns = append(turns, v, nothing)
		}
		want := gappy(slowOf(kind, l))
		if want.Count != len(l) || want.Min != l[0] || want.Max != l[len(l)-1] {
			t.Fatalf("the slower reckoning of kind %d is %#v", kind, want)
		}
		wantOf(t, kind, turns, want)
		slices.Reverse(turns)
		wantOf(t, kind, turns, want)
	}
}

// P17.1: the same value many times.
func TestOfTheSame(t *testing.T) {
	for _, kind := range kinds {
		for _, v := range sample(kind) {
			for _, many := range []int{2, 3, 8, 100, 4096} {
				l := slices.Repeat([]api.Value{v}, many)
				want := api.Stats{Count: many, Min: v, Max: v}
				setSum(&want, new(big.Int).Mul(big.NewInt(int64(v.N)), big.NewInt(int64(many))))
				wantOf(t, kind, l, want)
			}
		}
	}
	wantOf(t, api.Int, slices.Repeat(of(7), 409601), numbered(409601, 7, 7, 7*409601))
}

// P17.1: values that rise and fall; the least and the greatest one anywhere.
func TestOfOrders(t *testing.T) {
	for _, l := range [][]int{{1, 2, 3, 4}, {4, 3, 2, 1}, {1, 4, 2, 3}, {2, 1, 4, 3}, {2, 4, 1, 3}, {2, 3, 1, 4}, {2, 3, 4, 1}, {4, 2, 3, 1}, {1, 3, 2, 4}} {
		wantOf(t, api.Int, of(l...), numbered(4, 1, 4, 10))
		below := of(l...)
		letters := of(l...)
		for i, n := range l {
			below[i] = number(-n)
			letters[i] = text(string(rune('a' + n)))
		}
		wantOf(t, api.Decimal, below, numbered(4, -4, -1, -10))
		wantOf(t, api.Text, letters, lettered(4, "b", "e"))
		wantOf(t, api.Bytes, letters, lettered(4, "b", "e"))
	}
	for _, kind := range kinds {
		l := sample(kind)
		want := slowOf(kind, l)
		for range len(l) {
			l = append(l[1:], l[0])
			wantOf(t, kind, l, want)
			falling := slices.Clone(l)
			slices.Reverse(falling)
			wantOf(t, kind, falling, want)
		}
	}
}

// P17.1: the least and the greatest int, and sums at the ends of what an int has.
func TestOfSums(t *testing.T) {
	for _, x := range []struct {
		l    []int
		want api.Stats
	}{
		{[]int{least}, numbered(1, least, least, least)},
		{[]int{greatest}, numbered(1, greatest, greatest, greatest)},
		{[]int{least, greatest}, numbered(2, least, greatest, -1)},
		{[]int{greatest, least}, numbered(2, least, greatest, -1)},
		{[]int{least, least}, over(numbered(2, least, least, 0))},
		{[]int{greatest, greatest}, over(numbered(2, greatest, greatest, 0))},
		{[]int{greatest - 1, 1}, numbered(2, 1, greatest-1, greatest)},
		{[]int{greatest, 1}, over(numbered(2, 1, greatest, 0))},
		{[]int{1, greatest}, over(numbered(2, 1, greatest, 0))},
		{[]int{least + 1, -1}, numbered(2, least+1, -1, least)},
		{[]int{least, -1}, over(numbered(2, least, -1, 0))},
		{[]int{-1, least}, over(numbered(2, least, -1, 0))},
		{[]int{least, 0}, numbered(2, least, 0, least)},
		{[]int{1 << 62, 1 << 62}, over(numbered(2, 1<<62, 1<<62, 0))},
		{[]int{1 << 62, 1<<62 - 1}, numbered(2, 1<<62-1, 1<<62, greatest)},
		{[]int{-1 << 62, -1 << 62}, numbered(2, -1<<62, -1<<62, least)},
		{[]int{-1 << 62, -1<<62 - 1}, over(numbered(2, -1<<62-1, -1<<62, 0))},
		{[]int{greatest, 1, -1}, numbered(3, -1, greatest, greatest)},
		{[]int{greatest, greatest, least}, numbered(3, least, greatest, greatest-1)},
		{[]int{greatest, greatest, least, least}, numbered(4, least, greatest, -2)},
		{[]int{least, -1, 1}, numbered(3, least, 1, least)},
		{[]int{least, least, greatest}, over(numbered(3, least, greatest, 0))},
		{[]int{least, least, greatest, 1}, numbered(4, least, greatest, least)},
		{[]int{least, least, greatest, greatest, 2}, numbered(5, least, greatest, 0)},
		{[]int{greatest, greatest, 2}, over(numbered(3, 2, greatest, 0))},
		{[]int{least, least, least, least}, over(numbered(4, least, least, 0))},
	} {
		for _, kind := range ofNumbers[1:] {
			wantOf(t, kind, of(x.l...), x.want)
			wantOf(t, kind, append(of(x.l...), nothing), gappy(x.want))
		}
	}
}

// P17.1: a sum that goes far beyond, and comes back to just the last int there is.
func TestOfSumsComeBack(t *testing.T) {
	for _, many := range []int{2, 3, 1000, 4096} {
		far := slices.Repeat(of(greatest), many)
		far = append(far, slices.Repeat(of(-greatest), many-1)...)
		wantOf(t, api.Int, far, numbered(2*many-1, -greatest, greatest, greatest))
		wantOf(t, api.Int, append(far, number(1)), over(numbered(2*many, -greatest, greatest, 0)))
		slices.Reverse(far)
		wantOf(t, api.Int, far, numbered(2*many-1, -greatest, greatest, greatest))
		low := slices.Repeat(of(least), many)
		low = append(low, slices.Repeat(of(greatest), many-1)...)
		low = append(low, number(many-1))
		wantOf(t, api.Time, low, numbered(2*many, least, greatest, least))
		wantOf(t, api.Time, append(low, number(-1)), over(numbered(2*many+1, least, greatest, 0)))
	}
}

// P17.1: texts, byte by byte, and without a sum.
func TestOfTexts(t *testing.T) {
	for _, x := range []struct {
		l    []string
		want api.Stats
	}{
		{[]string{""}, lettered(1, "", "")},
		{[]string{"", "a"}, lettered(2, "", "a")},
		{[]string{"a", ""}, lettered(2, "", "a")},
		{[]string{"ab", "a", "abc"}, lettered(3, "a", "abc")},
		{[]string{"abc", "ab", "b"}, lettered(3, "ab", "b")},
		{[]string{"a", "a\x00"}, lettered(2, "a", "a\x00")},
		{[]string{"\x00", ""}, lettered(2, "", "\x00")},
		{[]string{"é", "z"}, lettered(2, "z", "é")},
		{[]string{"9", "10"}, lettered(2, "10", "9")},
		{[]string{"B", "a"}, lettered(2, "B", "a")},
		{[]string{"\U00010000", "\uffff"}, lettered(2, "\uffff", "\U00010000")},
		{[]string{strings.Repeat("a", 300), strings.Repeat("a", 299)}, lettered(2, strings.Repeat("a", 299), strings.Repeat("a", 300))},
	} {
		for _, kind := range ofLetters {
			wantOf(t, kind, ofTexts(x.l...), x.want)
			wantOf(t, kind, append(ofTexts(x.l...), nothing), gappy(x.want))
			wantMay(t, kind, x.want, true)
		}
	}
	wantOf(t, api.Bytes, ofTexts("\xff", "\x7f", "\x80"), lettered(3, "\x7f", "\xff"))
	wantOf(t, api.Bytes, ofTexts("\xff", "\xff\x00", "\xfe\xff"), lettered(3, "\xfe\xff", "\xff\x00"))
}

// P17.1: Of against a slower reckoning.
func TestOfDrawn(t *testing.T) {
	r := rand.New(rand.NewSource(171))
	overs := 0
	for range 4000 {
		if t.Failed() {
			return
		}
		for _, kind := range kinds {
			l := drawn(r, kind, r.Intn(30), r.Intn(11))
			want := slowOf(kind, l)
			wantOf(t, kind, l, want)
			if want.Over {
				overs++
			}
		}
	}
	if overs < 500 {
		t.Errorf("just %d sums went over", overs)
	}
}

// R1: values that may not be, and kinds that there are none of, are not asked,
// but the calls end.
func TestAnyValues(t *testing.T) {
	odd := []api.Value{nothing, {Null: true, N: 3}, {Null: true, S: "a"}, {N: 3, S: "a"}, {N: least}, {S: "\xff"}, {S: strings.Repeat("a", 301)}}
	for _, kind := range append(slices.Clone(kinds), noKinds...) {
		for _, a := range odd {
			for _, b := range odd {
				Of(kind, []api.Value{a, b})
				s := api.Stats{Count: greatest, Min: a, Max: b, Sum: least, Over: true}
				Merge(kind, s, s)
				May(kind, s)
			}
		}
	}
}

// P17.1, P17.2: of texts no sum is asked, whatever stands in a number's place.
func TestTextsHaveNoSum(t *testing.T) {
	for _, kind := range ofLetters {
		s := Of(kind, of(greatest, greatest))
		if s.Sum != 0 || s.Over {
			t.Errorf("Of(%d, ..) has the sum %d, and is over: %v", kind, s.Sum, s.Over)
		}
		a := api.Stats{Count: 1, Min: text("a"), Max: text("a"), Sum: greatest}
		if s := Merge(kind, a, a); s.Over {
			t.Errorf("Merge(%d, ..) is over", kind)
		}
	}
}

// P17.2: nothing is known of no values, and that changes nothing.
func TestMergeNoValues(t *testing.T) {
	for _, kind := range kinds {
		wantMerge(t, kind, unknown, unknown, unknown)
		wantMerge(t, kind, unknown, gappy(unknown), gappy(unknown))
		l := sample(kind)
		for i := range l {
			for j := i; j < len(l); j++ {
				s := Of(kind, []api.Value{l[i], l[j]})
				wantMerge(t, kind, s, unknown, s)
				wantMerge(t, kind, gappy(s), unknown, gappy(s))
				wantMerge(t, kind, s, gappy(unknown), gappy(s))
				if isNumber(kind) {
					wantMerge(t, kind, over(s), unknown, over(s))
				}
			}
		}
	}
}

// P17.2: the lesser Min, the greater Max, and where both have the same.
func TestMergeReach(t *testing.T) {
	for _, x := range [][3]api.Stats{
		{numbered(2, 1, 9, 10), numbered(2, 1, 9, 10), numbered(4, 1, 9, 20)},
		{numbered(2, 1, 9, 10), numbered(2, 1, 5, 6), numbered(4, 1, 9, 16)},
		{numbered(2, 1, 9, 10), numbered(3, 2, 9, 15), numbered(5, 1, 9, 25)},
		{numbered(2, 1, 9, 10), numbered(2, 3, 4, 7), numbered(4, 1, 9, 17)},
		{numbered(2, 1, 2, 3), numbered(2, 8, 9, 17), numbered(4, 1, 9, 20)},
		{numbered(2, -9, -8, -17), numbered(1, 5, 5, 5), numbered(3, -9, 5, -12)},
		{numbered(1, 0, 0, 0), numbered(1, 0, 0, 0), numbered(2, 0, 0, 0)},
		{numbered(2, least, 0, least), numbered(1, greatest, greatest, greatest), numbered(3, least, greatest, -1)},
	} {
		for _, kind := range ofNumbers[1:] {
			wantMerge(t, kind, x[0], x[1], x[2])
		}
	}
	for _, x := range [][3]api.Stats{
		{lettered(2, "a", "z"), lettered(2, "a", "z"), lettered(4, "a", "z")},
		{lettered(2, "a", "z"), lettered(2, "a", "ab"), lettered(4, "a", "z")},
		{lettered(2, "a", "z"), lettered(2, "ab", "z"), lettered(4, "a", "z")},
		{lettered(2, "a", "ab"), lettered(2, "", "a"), lettered(4, "", "ab")},
		{lettered(1, "", ""), lettered(1, "é", "é"), lettered(2, "", "é")},
		{lettered(1, "ab", "ab"), lettered(1, "abc", "abc"), lettered(2, "ab", "abc")},
	} {
		for _, kind := range ofLetters {
			wantMerge(t, kind, x[0], x[1], x[2])
		}
	}
	wantMerge(t, api.Bytes, lettered(1, "\x80", "\x80"), lettered(2, "\x7f", "\xff"), lettered(3, "\x7f", "\xff"))
	wantMerge(t, api.Bool, numbered(3, 0, 0, 0), numbered(2, 1, 1, 2), numbered(5, 0, 1, 2))
}

// P17.2: over stays over, and a sum beyond an int's is.
func TestMergeSums(t *testing.T) {
	a, b := numbered(3, 1, 5, 7), numbered(4, -5, 2, -9)
	both := numbered(7, -5, 5, -2)
	for _, kind := range ofNumbers[1:] {
		wantMerge(t, kind, a, b, both)
		wantMerge(t, kind, over(a), b, over(both))
		wantMerge(t, kind, a, over(b), over(both))
		wantMerge(t, kind, over(a), over(b), over(both))
		for _, x := range []struct {
			a, b, sum int
			over      bool
		}{
			{greatest, 0, greatest, false},
			{greatest - 1, 1, greatest, false},
			{greatest, 1, 0, true},
			{greatest, greatest, 0, true},
			{1 << 62, 1<<62 - 1, greatest, false},
			{1 << 62, 1 << 62, 0, true},
			{least, 0, least, false},
			{least + 1, -1, least, false},
			{least, -1, 0, true},
			{least, least, 0, true},
			{-1 << 62, -1 << 62, least, false},
			{-1 << 62, -1<<62 - 1, 0, true},
			{least, greatest, -1, false},
			{least, least + 1, 0, true},
			{5, -5, 0, false},
		} {
			a, b, want := numbered(2, 0, 1, x.a), numbered(3, 0, 1, x.b), numbered(5, 0, 1, x.sum)
			want.Over = x.over
			wantMerge(t, kind, a, b, want)
		}
	}
}

// P17.2: that some are nothing, of one or both.
func TestMergeGaps(t *testing.T) {
	for _, kind := range kinds {
		l := sample(kind)
		a, b := Of(kind, l[:1]), Of(kind, l[1:2])
		want := Of(kind, l[:2])
		wantMerge(t, kind, a, b, want)
		wantMerge(t, kind, gappy(a), b, gappy(want))
		wantMerge(t, kind, a, gappy(b), gappy(want))
		wantMerge(t, kind, gappy(a), gappy(b), gappy(want))
	}
}

// P17.2: Merge against a slower reckoning.
func TestMergeDrawn(t *testing.T) {
	r := rand.New(rand.NewSource(172))
	overs := 0
	for range 4000 {
		if t.Failed() {
			return
		}
		for _, kind := range kinds {
			a, b := pairs(r, kind)
			x, y := Of(kind, a), Of(kind, b)
			if isNumber(kind) && r.Intn(5) == 0 {
				x = over(x)
			}
			if isNumber(kind) && r.Intn(5) == 0 {
				x.Sum, x.Over = int(r.Uint64()), false
				y.Sum, y.Over = int(r.Uint64()), false
			}
			want := slowMerge(kind, x, y)
			wantMerge(t, kind, x, y, want)
			wantMay(t, kind, want, true)
			if want.Over && !x.Over && !y.Over {
				overs++
			}
		}
	}
	if overs < 200 {
		t.Errorf("just %d sums went over", overs)
	}
}

// P17.3: what Of and Merge tell of values may be.
func TestMayWhatIsTold(t *testing.T) {
	r := rand.New(rand.NewSource(173))
	for _, kind := range kinds {
		for range 500 {
			if t.Failed() {
				return
			}
			a, b := pairs(r, kind)
			wantMay(t, kind, Of(kind, a), true)
			wantMay(t, kind, Of(kind, b), true)
			wantMay(t, kind, Merge(kind, Of(kind, a), Of(kind, b)), true)
		}
		l := sample(kind)
		wantMay(t, kind, Of(kind, l), true)
		wantMay(t, kind, Of(kind, nil), true)
		full := slices.Repeat(l[:1], mostMany)
		wantMay(t, kind, Of(kind, full), true)
		wantMay(t, kind, Of(kind, append(full, nothing)), true)
		wantMay(t, kind, Of(kind, append(full, l[1])), false)
		half := Of(kind, full[:mostMany/2])
		wantMay(t, kind, Merge(kind, half, half), true)
		wantMay(t, kind, Merge(kind, half, Of(kind, full[:mostMany/2+1])), false)
	}
}

// P17.3: how many there may be.
func TestMayCount(t *testing.T) {
	for _, kind := range kinds {
		v := sample(kind)[1]
		for _, x := range []struct {
			count int
			some  bool
		}{
			{least, false}, {least + 1, false}, {-1 << 32, false}, {-mostMany, false}, {-2, false}, {-1, false}, {0, false},
			{1, true}, {2, true}, {1024, true}, {mostMany - 1, true}, {mostMany, true},
			{mostMany + 1, false}, {1 << 20, false}, {1 << 32, false}, {1<<32 + 1, false}, {greatest, false},
		} {
			s := api.Stats{Count: x.count, Min: v, Max: v}
			wantMay(t, kind, s, x.some)
			wantMay(t, kind, gappy(s), x.some)
			s.Min, s.Max = nothing, nothing
			wantMay(t, kind, s, x.count == 0)
			wantMay(t, kind, gappy(s), x.count == 0)
		}
	}
}

// P17.3: both ends are nothing just if there is none that is something.
func TestMayNothing(t *testing.T) {
	for _, kind := range kinds {
		for _, v := range sample(kind) {
			for _, count := range []int{0, 1, 2, mostMany} {
				wantMay(t, kind, api.Stats{Count: count, Min: nothing, Max: nothing}, count == 0)
				wantMay(t, kind, api.Stats{Count: count, Min: nothing, Max: v}, false)
				wantMay(t, kind, api.Stats{Count: count, Min: v, Max: nothing}, false)
				wantMay(t, kind, api.Stats{Count: count, Min: v, Max: v}, count > 0)
			}
		}
	}
	wantMay(t, api.Int, api.Stats{}, false)
}

// P17.3: the greatest value does not stand ahead of the least.
func TestMayReach(t *testing.T) {
	for _, kind := range kinds {
		l := sample(kind)
		for i, a := range l {
			for j, b := range l {
				wantMay(t, kind, api.Stats{Count: 2, Min: a, Max: b}, i <= j)
				wantMay(t, kind, api.Stats{Count: 1, Min: a, Max: b}, i <= j)
			}
		}
	}
	for _, kind := range ofLetters {
		wantMay(t, kind, lettered(2, "a", "ab"), true)
		wantMay(t, kind, lettered(2, "ab", "a"), false)
		wantMay(t, kind, lettered(2, "z", "é"), true)
		wantMay(t, kind, lettered(2, "é", "z"), false)
	}
}

// wrong are values that may not be of a kind.
func wrong(kind int) []api.Value {
	l := []api.Value{{Null: true, N: 1}, {Null: true, N: least}, {Null: true, S: "a"}, {Null: true, N: 1, S: "a"}, {N: 1, S: "a"}}
	switch {
	case kind == api.Bool:
		return append(l, number(2), number(-1), number(least), number(greatest), text("a"))
	case isNumber(kind):
		return append(l, text("a"), text("\x00"))
	case kind == api.Text:
		l = append(l, text("\xff"), text("a\x80"), text("\xed\xa0\x80"))
	}
	return append(l, number(1), number(-1), text(strings.Repeat("a", 301)))
}

// P17.3: ends that may not be of the kind, one or both.
func TestMayWrongEnds(t *testing.T) {
	for _, kind := range kinds {
		l := sample(kind)
		for _, v := range wrong(kind) {
			for _, count := range []int{0, 1, 2} {
				wantMay(t, kind, api.Stats{Count: count, Min: v, Max: v}, false)
				for _, w := range append(slices.Clone(l), nothing) {
					wantMay(t, kind, api.Stats{Count: count, Min: v, Max: w}, false)
					wantMay(t, kind, api.Stats{Count: count, Min: w, Max: v}, false)
				}
			}
		}
	}
	long := strings.Repeat("a", 300)
	for _, kind := range ofLetters {
		wantMay(t, kind, lettered(1, long, long), true)
		wantMay(t, kind, lettered(2, long, long+"a"), false)
	}
	wantMay(t, api.Bytes, lettered(1, "\xff", "\xff"), true)
	wantMay(t, api.Text, lettered(2, "a", "\xff"), false)
	wantMay(t, api.Text, lettered(2, "\x80", "é"), false)
}

// P17.3: a sum beside Over, and either of texts.
func TestMaySums(t *testing.T) {
	sums := []int{least, -1 << 32, -1, 1, 2, 1 << 32, greatest}
	for _, kind := range kinds {
		v := sample(kind)[1]
		for _, s := range []api.Stats{unknown, {Count: 1, Min: v, Max: v}, {Count: mostMany, Min: v, Max: v}} {
			wantMay(t, kind, s, true)
			wantMay(t, kind, over(s), isNumber(kind))
			for _, sum := range sums {
				s.Sum, s.Over = sum, false
				wantMay(t, kind, s, isNumber(kind))
				s.Over = true
				wantMay(t, kind, s, false)
			}
		}
	}
}

// P17.3: of kinds that there are none of nothing may be known.
func TestMayNoKinds(t *testing.T) {
	for _, kind := range noKinds {
		wantMay(t, kind, api.Stats{}, false)
		wantMay(t, kind, unknown, false)
		wantMay(t, kind, gappy(unknown), false)
		wantMay(t, kind, numbered(1, 0, 0, 0), false)
		wantMay(t, kind, numbered(1, 1, 1, 1), false)
		wantMay(t, kind, lettered(1, "a", "b"), false)
	}
}

// P17.3: May of any fields against a slower reckoning.
func TestMayDrawn(t *testing.T) {
	r := rand.New(rand.NewSource(174))
	counts := []int{-1, 0, 0, 0, 1, 1, 1, 2, mostMany, mostMany + 1}
	told := [2]int{}
	for range 20000 {
		if t.Failed() {
			return
		}
		for _, kind := range kinds {
			ends := append(sample(kind), nothing, nothing, nothing, nothing)
			if r.Intn(4) == 0 {
				ends = append(ends, wrong(kind)...)
			}
			s := api.Stats{Count: counts[r.Intn(len(counts))], HasNull: r.Intn(2) == 0, Min: ends[r.Intn(len(ends))], Max: ends[r.Intn(len(ends))], Over: r.Intn(3) == 0}
			if r.Intn(3) == 0 {
				s.Sum = r.Intn(5) - 2
			}
			want := slowMay(kind, s)
			wantMay(t, kind, s, want)
			if want {
				told[1]++
			} else {
				told[0]++
			}
		}
	}
	if told[0] < 1000 || told[1] < 1000 {
		t.Errorf("%v are too few of either", told)
	}
}

// wantBoth fails, if Merge of two rows' stats is not that of both, one behind
// the other, but that it is over if either is. It tells whether it is over where
// that is not.
func wantBoth(t *testing.T, kind int, a, b []api.Value) bool {
	t.Helper()
	x, y := Of(kind, a), Of(kind, b)
	both := Of(kind, slices.Concat(a, b))
	want := both
	if x.Over || y.Over {
		want = over(want)
	}
	if s := Merge(kind, x, y); s != want {
		t.Errorf("Merge(%d, ..) of %#v and %#v is %#v, not %#v", kind, a, b, s, want)
	}
	return want != both
}

// P17.4: Merge is what is known of both, one behind the other.
func TestMergeIsOfBoth(t *testing.T) {
	r := rand.New(rand.NewSource(175))
	overs, apart := 0, 0
	for range 6000 {
		if t.Failed() {
			return
		}
		for _, kind := range kinds {
			a, b := pairs(r, kind)
			if wantBoth(t, kind, a, b) {
				apart++
			}
			wantBoth(t, kind, b, a)
			if Of(kind, slices.Concat(a, b)).Over {
				overs++
			}
		}
	}
	if overs < 500 || apart < 20 {
		t.Errorf("just %d sums went over, and %d came back", overs, apart)
	}
}

// P17.4: a sum that is over of one row, and comes back with the other.
func TestMergeOverStays(t *testing.T) {
	a, b := of(greatest, 1), of(-1)
	if !wantBoth(t, api.Int, a, b) || !wantBoth(t, api.Int, b, a) {
		t.Error("the sum of both is an int's, and Merge should be over")
	}
	wantMerge(t, api.Int, Of(api.Int, a), Of(api.Int, b), over(numbered(3, -1, greatest, 0)))
	wantOf(t, api.Int, slices.Concat(a, b), numbered(3, -1, greatest, greatest))
	c, d := of(greatest, 5), of(least, -5)
	if !wantBoth(t, api.Date, c, d) {
		t.Error("the sum of both is an int's, and Merge should be over")
	}
}

// P17.4: cut anywhere, what is known of values is that of both parts.
func TestMergeCutAnywhere(t *testing.T) {
	r := rand.New(rand.NewSource(176))
	for _, kind := range kinds {
		for range 100 {
			if t.Failed() {
				return
			}
			l := drawn(r, kind, 12, 3)
			for i := range len(l) + 1 {
				wantBoth(t, kind, l[:i], l[i:])
			}
		}
	}
}

// R7: what is handed in is left as it was, and so is the room behind its end.
func TestInputsStay(t *testing.T) {
	r := rand.New(rand.NewSource(177))
	for _, kind := range kinds {
		for range 100 {
			if t.Failed() {
				return
			}
			room := drawn(r, kind, 20, 2)
			before := slices.Clone(room)
			l := room[5:10]
			x := Of(kind, l)
			y := Of(kind, room[:3])
			if !slices.Equal(room, before) {
				t.Fatalf("Of(%d, %#v) changed what it was handed", kind, l)
			}
			x0, y0 := x, y
			Merge(kind, x, y)
			May(kind, x)
			if x != x0 || y != y0 {
				t.Fatalf("Merge(%d, %#v, %#v) changed what it was handed", kind, x0, y0)
			}
			want := Of(kind, before[5:10])
			clear(room)
			if x != want || Of(kind, before[5:10]) != want {
				t.Fatalf("Of(%d, ..) kept what it was handed", kind)
			}
		}
	}
}

// R6: each call stands for itself.
func TestCallsHangOnArgumentsAlone(t *testing.T) {
	want := numbered(2, 1, 3, 4)
	for range 3 {
		wantOf(t, api.Int, of(greatest, greatest, least), numbered(3, least, greatest, greatest-1))
		wantOf(t, api.Int, of(3, 1), want)
		wantMerge(t, api.Int, over(numbered(1, 5, 5, 0)), gappy(numbered(1, 7, 7, 7)), gappy(over(numbered(2, 5, 7, 0))))
		wantMerge(t, api.Int, numbered(1, 3, 3, 3), numbered(1, 1, 1, 1), want)
		wantOf(t, api.Text, ofTexts("b", "a"), lettered(2, "a", "b"))
	}
}

// valuesOf makes values of a kind of bytes.
func valuesOf(kind int, b []byte) []api.Value {
	var l []api.Value
	for len(b) > 0 {
		n := min(int(b[0]%9), len(b)-1)
		part := b[1 : 1+n]
		b = b[1+n:]
		v := text(string(part))
		if isNumber(kind) {
			x := uint64(0)
			for _, c := range part {
				x = x<<8 | uint64(c)
			}
			v = number(int(x))
		}
		if !slowFits(kind, v) || n == 0 && len(l)%2 == 0 {
			v = nothing
		}
		l = append(l, v)
	}
	return l
}

func FuzzOf(f *testing.F) {
	f.Add(byte(api.Int), []byte("\x08\x7f\xff\xff\xff\xff\xff\xff\xff\x01\x01"), []byte("\x08\xff\xff\xff\xff\xff\xff\xff\xff"))
	f.Add(byte(api.Text), []byte("\x01a\x02ab"), []byte("\x00\x00"))
	f.Add(byte(api.Bytes), []byte("\x01\xff\x02\x80\x80"), []byte(""))
	f.Fuzz(func(t *testing.T, kind byte, x, y []byte) {
		k := int(kind)%7 + 1
		a, b := valuesOf(k, x), valuesOf(k, y)
		wantOf(t, k, a, slowOf(k, a))
		wantOf(t, k, b, slowOf(k, b))
		wantMerge(t, k, Of(k, a), Of(k, b), slowMerge(k, Of(k, a), Of(k, b)))
		wantBoth(t, k, a, b)
		wantMay(t, k, Of(k, a), true)
		wantMay(t, k, Merge(k, Of(k, a), Of(k, b)), true)
	})
}

func FuzzMay(f *testing.F) {
	f.Add(2, 1, false, 1, "", 3, "", 4, false, byte(0))
	f.Add(6, 2, true, 0, "a", 0, "ab", 0, false, byte(0))
	f.Add(7, 0, true, 0, "", 0, "", 0, false, byte(3))
	f.Fuzz(func(t *testing.T, kind, count int, hasNull bool, minN int, minS string, maxN int, maxS string, sum int, isOver bool, nulls byte) {
		s := api.Stats{Count: count, HasNull: hasNull, Sum: sum, Over: isOver}
		s.Min = api.Value{Null: nulls&1 != 0, N: minN, S: minS}
		s.Max = api.Value{Null: nulls&2 != 0, N: maxN, S: maxS}
		wantMay(t, kind, s, slowMay(kind, s))
		for _, k := range kinds {
			wantMay(t, k, s, slowMay(k, s))
		}
	})
}
