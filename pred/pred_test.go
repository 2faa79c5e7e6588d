package pred

import (
	"math"
	"math/rand"
	"reflect"
	"slices"
	"strings"
	"testing"
	"unicode/utf8"

	"pilaster/api"
	"pilaster/stats"
	"pilaster/value"
)

const (
	no      = api.No
	unknown = api.Unknown
	yes     = api.Yes
)

// kinds are all that there are, first those of numbers, then those of texts.
var (
	kinds     = []int{1, 2, 3, 4, 5, 6, 7}
	ofNumbers = kinds[:5]
)

// noOps are operations that there are none of.
var noOps = []int{math.MinInt, math.MinInt + 1, math.MinInt + 9, -1 << 32, -256, -255, -9, -4, -1, 0, 10, 11, 16, 255, 256, 257, 260, 265, 1<<32 + 4, 1<<32 + 9, math.MaxInt - 1, math.MaxInt}

// leaves are the operations that ask a column.
var leaves = []int{api.Eq, api.Lt, api.Le, api.In, api.Null}

// nothing is a value that is nothing.
var nothing = api.Value{Null: true}

// always is the node that comes to Yes.
var always = api.Pred{Op: api.True}

func number(n int) api.Value { return api.Value{N: n} }

func text(s string) api.Value { return api.Value{S: s} }

// of are numbers as values.
func of(l ...int) []api.Value {
	out := make([]api.Value, len(l))
	for i, n := range l {
		out[i].N = n
	}
	return out
}

// ofTexts are texts as values.
func ofTexts(l ...string) []api.Value {
	out := make([]api.Value, len(l))
	for i, s := range l {
		out[i].S = s
	}
	return out
}

func eq(col int, v api.Value) api.Pred { return api.Pred{Op: api.Eq, Col: col, V: v} }

func lt(col int, v api.Value) api.Pred { return api.Pred{Op: api.Lt, Col: col, V: v} }

func le(col int, v api.Value) api.Pred { return api.Pred{Op: api.Le, Col: col, V: v} }

func in(col int, l ...api.Value) api.Pred { return api.Pred{Op: api.In, Col: col, Vals: l} }

func null(col int) api.Pred { return api.Pred{Op: api.Null, Col: col} }

func and(l ...int) api.Pred { return api.Pred{Op: api.And, L: l} }

func or(l ...int) api.Pred { return api.Pred{Op: api.Or, L: l} }

func not(l ...int) api.Pred { return api.Pred{Op: api.Not, L: l} }

// columns are columns of some kinds.
func columns(l ...int) []api.Col {
	out := make([]api.Col, len(l))
	for i, kind := range l {
		out[i] = api.Col{Name: "c" + string(rune('0'+i)), Kind: kind}
	}
	return out
}

// isNumber tells whether a kind is of numbers.
func isNumber(kind int) bool { return slices.Contains(ofNumbers, kind) }

// sample are values of a kind, rising, the least and the greatest one among them.
func sample(kind int) []api.Value {
	switch kind {
	case api.Bool:
		return of(0, 1)
	case api.Text:
		return ofTexts("", "\x00", "a", "a\x00", "ab", "abc", "b", "é", "\u7fff", "😀")
	case api.Bytes:
		return ofTexts("", "\x00", "a", "ab", "\x7f", "\x80", "\x80\x00", "\xc3", "\xff", "\xff\xff")
	}
	return of(math.MinInt, math.MinInt+1, -256, -1, 0, 1, 2, 255, 1<<32, math.MaxInt-1, math.MaxInt)
}

// wrong are values that are something, and may not be of a kind.
func wrong(kind int) []api.Value {
	l := []api.Value{{N: 1, S: "a"}}
	switch {
	case kind == api.Bool:
		return append(l, number(2), number(-1), number(math.MinInt), number(math.MaxInt), text("a"))
	case isNumber(kind):
		return append(l, text("a"), text("\x00"))
	case kind == api.Text:
		l = append(l, text("\xff"), text("a\x80"), text("\xed\xa0\x80"))
	}
	return append(l, number(1), number(-1), text(strings.Repeat("a", 301)))
}

// slowAhead tells whether a, that is something, stands ahead of b, that is, too.
func slowAhead(a, b api.Value) bool {
	if a.N != b.N {
		return a.N < b.N
	}
	for i := 0; i < len(a.S) && i < len(b.S); i++ {
		if a.S[i] != b.S[i] {
			return a.S[i] < b.S[i]
		}
	}
	return len(a.S) < len(b.S)
}

// slowFits tells whether a value is something, and may be of a kind.
func slowFits(kind int, v api.Value) bool {
	switch {
	case v.Null || !slices.Contains(kinds, kind):
		return false
	case isNumber(kind):
		return v.S == "" && (kind != api.Bool || v.N == 0 || v.N == 1)
	}
	return v.N == 0 && len(v.S) <= 300 && (kind == api.Bytes || utf8.ValidString(v.S))
}

// slowShallow tells whether a node needs no more than so much depth, and names
// nodes ahead alone, all the way down.
func slowShallow(l []api.Pred, at, depth int) bool {
	if depth == 0 {
		return false
	}
	if l[at].Op > 3 {
		return true
	}
	for _, below := range l[at].L {
		if below < 0 || below >= at || !slowShallow(l, below, depth-1) {
			return false
		}
	}
	return true
}

// slowNode tells whether a node is one of those that there are, but for the
// nodes that it names.
func slowNode(cols []api.Col, p api.Pred) bool {
	if p.Op == 9 {
		return true
	}
	if p.Op < 1 || p.Op > 9 {
		return false
	}
	if p.Op <= 2 {
		return len(p.L) >= 1
	}
	if p.Op == 3 {
		return len(p.L) == 1
	}
	if p.Col < 0 || p.Col >= len(cols) {
		return false
	}
	kind := cols[p.Col].Kind
	if p.Op == 7 {
		for _, v := range p.Vals {
			if !slowFits(kind, v) {
				return false
			}
		}
		return len(p.Vals) >= 1 && len(p.Vals) <= 10
	}
	return p.Op == 8 || slowFits(kind, p.V)
}

// slowMay is May, node by node, by walks down from each.
func slowMay(cols []api.Col, l []api.Pred) bool {
	for i, p := range l {
		if !slowNode(cols, p) || !slowShallow(l, i, 6) {
			return false
		}
	}
	return len(l) >= 1 && len(l) <= 40
}

// slowEval is Eval of the node at a place, by walks down from it.
func slowEval(l []api.Pred, at int, r api.Row) int {
	p := l[at]
	told := [3]int{}
	if p.Op <= 3 {
		for _, below := range p.L {
			told[slowEval(l, below, r)]++
		}
	}
	switch p.Op {
	case 1:
		if told[no] > 0 {
			return no
		}
		if told[unknown] > 0 {
			return unknown
		}
		return yes
	case 2:
		if told[yes] > 0 {
			return yes
		}
		if told[unknown] > 0 {
			return unknown
		}
		return no
	case 3:
		return told[no]*yes + told[unknown]*unknown + told[yes]*no
	case 8:
		if r[p.Col].Null {
			return yes
		}
		return no
	case 9:
		return yes
	}
	if r[p.Col].Null {
		return unknown
	}
	if slowHolds(p, r[p.Col]) {
		return yes
	}
	return no
}

// slowHolds tells whether a value that is something is what a node asks for.
func slowHolds(p api.Pred, v api.Value) bool {
	switch p.Op {
	case 4:
		return !slowAhead(v, p.V) && !slowAhead(p.V, v)
	case 5:
		return slowAhead(v, p.V)
	case 6:
		return !slowAhead(p.V, v)
	}
	for _, w := range p.Vals {
		if v.N == w.N && v.S == w.S {
			return true
		}
	}
	return false
}

// slowOutcomes is Outcomes of the node at a place, by walks down from it, and by
// trying each choice of what comes out of those below.
func slowOutcomes(l []api.Pred, at int, s []api.Stats) (out [3]bool) {
	p := l[at]
	if p.Op > 3 {
		return slowKnown(p, s)
	}
	var choose func(left []int, told []int)
	choose = func(left, told []int) {
		if len(left) == 0 {
			names := make([]int, len(told))
			nodes := []api.Pred{}
			for i, n := range told {
				names[i] = i
				nodes = append(nodes, [3]api.Pred{eq(0, number(1)), eq(1, number(1)), always}[n])
			}
			nodes = append(nodes, api.Pred{Op: p.Op, L: names})
			out[slowEval(nodes, len(told), api.Row{number(0), nothing})] = true
			return
		}
		for n, may := range slowOutcomes(l, left[0], s) {
			if may {
				choose(left[1:], append(told[:len(told):len(told)], n))
			}
		}
	}
	choose(p.L, nil)
	return out
}

// slowKnown is what may come out of a node that names none, by trying the least
// value, the greatest one, and all between that the node itself names.
func slowKnown(p api.Pred, s []api.Stats) (out [3]bool) {
	if p.Op == 9 {
		return [3]bool{yes: true}
	}
	known := s[p.Col]
	if known.HasNull {
		out[slowEval([]api.Pred{p}, 0, slices.Repeat(api.Row{nothing}, len(s)))] = true
	}
	if known.Count == 0 {
		return out
	}
	tries := []api.Value{known.Min, known.Max}
	for _, v := range append(slices.Clone(p.Vals), p.V) {
		if !v.Null && !slowAhead(v, known.Min) && !slowAhead(known.Max, v) {
			tries = append(tries, v)
		}
	}
	for _, v := range tries {
		out[slowEval([]api.Pred{p}, 0, slices.Repeat(api.Row{v}, len(s)))] = true
	}
	if p.Op == 7 && slowAhead(known.Min, known.Max) {
		out[no] = true
	}
	return out
}

// wantMay fails, if a predicate may be, and should not, or the other way round.
func wantMay(t *testing.T, cols []api.Col, l []api.Pred, want bool) {
	t.Helper()
	if May(cols, l) != want {
		t.Errorf("May(%#v, %#v) is %v", cols, l, !want)
	}
	if slowMay(cols, l) != want {
		t.Errorf("the slower May(%#v, %#v) is %v", cols, l, !want)
	}
}

// wantEval fails, if a predicate does not come to want.
func wantEval(t *testing.T, l []api.Pred, r api.Row, want int) {
	t.Helper()
	if n := Eval(l, r); n != want {
		t.Errorf("Eval(%#v, %#v) is %d, not %d", l, r, n, want)
	}
}

// set is a set of outcomes, of a text of the letters n, u and y.
func set(s string) [3]bool {
	return [3]bool{strings.Contains(s, "n"), strings.Contains(s, "u"), strings.Contains(s, "y")}
}

// wantOut fails, if not just want may come out.
func wantOut(t *testing.T, l []api.Pred, s []api.Stats, want [3]bool) {
	t.Helper()
	if out := Outcomes(l, s); out != want {
		t.Errorf("Outcomes(%#v, %#v) is %v, not %v", l, s, out, want)
	}
	if Match(l, s) != want[yes] {
		t.Errorf("Match(%#v, %#v) is %v", l, s, !want[yes])
	}
}

// trues are so many nodes of True.
func trues(many int) []api.Pred { return slices.Repeat([]api.Pred{always}, many) }

// P18.1: how many nodes there may be.
func TestMayMany(t *testing.T) {
	cols := columns(api.Int)
	for _, x := range []struct {
		many int
		may  bool
	}{{0, false}, {1, true}, {2, true}, {39, true}, {40, true}, {41, false}, {42, false}, {80, false}, {1000, false}} {
		wantMay(t, cols, trues(x.many), x.may)
		wantMay(t, nil, trues(x.many), x.may)
		wantMay(t, cols, slices.Repeat([]api.Pred{eq(0, number(5))}, x.many), x.may)
		if x.many > 0 {
			l := trues(x.many - 1)
			names := []int{}
			for i := range l {
				names = append(names, i)
			}
			wantMay(t, cols, append(l, and(names...)), x.may && x.many > 1)
		}
	}
	wantMay(t, cols, nil, false)
	wantMay(t, nil, nil, false)
	wantMay(t, cols, []api.Pred{}, false)
}

// chain is a leaf, and so many nodes above it, one above the other.
func chain(above int, node func(at int) api.Pred) []api.Pred {
	l := []api.Pred{eq(0, number(5))}
	for i := range above {
		l = append(l, node(i))
	}
	return l
}

// P18.1: a depth of 6 may be needed, one of 7 not.
func TestMayDepth(t *testing.T) {
	cols := columns(api.Int)
	for _, node := range []func(at int) api.Pred{
		func(at int) api.Pred { return not(at) },
		func(at int) api.Pred { return and(at) },
		func(at int) api.Pred { return or(at) },
		func(at int) api.Pred { return and(0, at) },
		func(at int) api.Pred { return and(at, 0) },
		func(at int) api.Pred { return or(0, at, 0) },
		func(at int) api.Pred { return or(at, at) },
		func(at int) api.Pred { return or(max(0, at-2), at, max(0, at-1)) },
		func(at int) api.Pred { return [3]api.Pred{not(at), and(at), or(0, at)}[at%3] },
	} {
		for above := range 10 {
			l := chain(above, node)
			wantMay(t, cols, l, above <= 5)
			wantMay(t, cols, append(l, always), above <= 5)
			wantMay(t, cols, append(l, not(0)), above <= 5)
		}
		wantMay(t, cols, chain(39, node), false)
	}
}

// P18.1: the deepest of those that are named tells, wherever it stands; a node
// that nobody names needs a depth, too.
func TestMayDeepest(t *testing.T) {
	deep := chain(5, func(at int) api.Pred { return not(at) })
	for at := range 6 {
		may := at < 5
		for _, l := range [][]int{{at}, {0, at}, {at, 0}, {at, at}, {0, at, 1}, {1, 0, at}, {at, 1, 0}} {
			for _, op := range []int{api.And, api.Or} {
				wantMay(t, nil, append(deepOf(deep), api.Pred{Op: op, L: l}), may)
				wantMay(t, columns(api.Int), append(deepOf(deep), api.Pred{Op: op, L: l}, always), may)
			}
		}
		wantMay(t, columns(api.Int), append(slices.Clone(deep), not(at)), may)
	}
	wide := []api.Pred{always}
	for range 39 {
		wide = append(wide, not(0))
	}
	wantMay(t, nil, wide, true)
	wide[39] = and(1, 2, 3, 38)
	wantMay(t, nil, wide, true)
}

// deepOf are the same nodes, above one that has no column.
func deepOf(l []api.Pred) []api.Pred {
	l = slices.Clone(l)
	l[0] = always
	return l
}

// P18.1: what names none has the depth 1, whatever stands in its list.
func TestMayDepthOfLeaves(t *testing.T) {
	l := chain(5, func(at int) api.Pred { return or(at) })
	for _, op := range append(slices.Clone(leaves), api.True) {
		p := api.Pred{Op: op, V: number(5), Vals: of(5), L: []int{5}}
		wantMay(t, columns(api.Int), append(slices.Clone(l), p), true)
		up := append(slices.Clone(l), p)
		for i := range 6 {
			up = append(up, not(6+i))
			wantMay(t, columns(api.Int), up, i < 5)
		}
	}
}

// P18.1: the operations 1 to 9, and none else.
func TestMayOperations(t *testing.T) {
	cols := columns(api.Int, api.Text)
	for op := 1; op <= 9; op++ {
		p := api.Pred{Op: op, V: number(5), Vals: of(5), L: []int{0}}
		wantMay(t, cols, []api.Pred{always, p}, true)
		wantMay(t, cols, []api.Pred{always, p, always}, true)
		wantMay(t, cols, []api.Pred{p, always}, op > 3)
	}
	for _, op := range noOps {
		p := api.Pred{Op: op, V: number(5), Vals: of(5), L: []int{0}}
		wantMay(t, cols, []api.Pred{p}, false)
		wantMay(t, cols, []api.Pred{always, p}, false)
		wantMay(t, cols, []api.Pred{always, p, always}, false)
		p.L = nil
		wantMay(t, cols, []api.Pred{p}, false)
		wantMay(t, cols, []api.Pred{p, always}, false)
	}
	wantMay(t, cols, make([]api.Pred, 1), false)
}

// P18.1: And and Or name at least one, Not just one.
func TestMayNames(t *testing.T) {
	for _, x := range []struct {
		l        []int
		some, by bool
	}{
		{nil, false, false}, {[]int{}, false, false},
		{[]int{0}, true, true}, {[]int{3}, true, true},
		{[]int{0, 1}, true, false}, {[]int{1, 0}, true, false}, {[]int{2, 2}, true, false},
		{[]int{0, 1, 2, 3}, true, false}, {[]int{3, 3, 3, 0}, true, false},
		{slices.Repeat([]int{1}, 40), true, false}, {slices.Repeat([]int{0, 1, 2, 3}, 100), true, false},
	} {
		wantMay(t, nil, append(trues(4), and(x.l...)), x.some)
		wantMay(t, nil, append(trues(4), or(x.l...)), x.some)
		wantMay(t, nil, append(trues(4), not(x.l...)), x.by)
		wantMay(t, nil, append(trues(4), and(x.l...), always), x.some)
		wantMay(t, nil, append(trues(4), or(x.l...), always), x.some)
		wantMay(t, nil, append(trues(4), not(x.l...), always), x.by)
	}
}

// P18.1: places are 0 or above, and ahead.
func TestMayPlaces(t *testing.T) {
	for at := range 6 {
		for _, x := range []int{math.MinInt, math.MinInt + 1, -1 << 32, -256, -2, -1, 0, at - 1, at, at + 1, at + 2, 39, 40, 256, 1 << 32, math.MaxInt - 1, math.MaxInt} {
			may := x >= 0 && x < at
			l := trues(7)
			l[at] = not(x)
			wantMay(t, nil, l, may)
			for _, op := range []int{api.And, api.Or} {
				for i := range 3 {
					names := []int{0, 0, 0}
					names[i] = x
					l[at] = api.Pred{Op: op, L: names}
					wantMay(t, nil, l, may)
					l[at].L = names[i : i+1]
					wantMay(t, nil, l, may)
					wantMay(t, nil, l[:at+1], may)
				}
			}
		}
	}
	loop := []api.Pred{not(1), not(0)}
	wantMay(t, nil, loop, false)
}

// P18.1: a column is one of those that there are.
func TestMayColumns(t *testing.T) {
	for many := range 8 {
		cols := columns(slices.Repeat([]int{api.Int}, many)...)
		for _, col := range []int{math.MinInt, math.MinInt + 1, -1 << 32, -256, -1, 0, 1, many - 1, many, many + 1, 256, 1 << 32, math.MaxInt} {
			may := col >= 0 && col < many
			for _, op := range leaves {
				p := api.Pred{Op: op, Col: col, V: number(5), Vals: of(5)}
				wantMay(t, cols, []api.Pred{p}, may)
				wantMay(t, cols, []api.Pred{p, always}, may)
				wantMay(t, cols, []api.Pred{always, p, always}, may)
				wantMay(t, cols, []api.Pred{p, not(0)}, may)
			}
		}
	}
	for _, op := range leaves {
		wantMay(t, nil, []api.Pred{{Op: op, V: number(5), Vals: of(5)}}, false)
		wantMay(t, []api.Col{}, []api.Pred{{Op: op, V: number(5), Vals: of(5)}}, false)
	}
}

// P18.1: a value is something, and may be of its column's kind.
func TestMayValues(t *testing.T) {
	nulls := []api.Value{nothing, {Null: true, N: 1}, {Null: true, S: "a"}}
	for _, kind := range kinds {
		cols := columns(api.Decimal, kind, 8-kind)
		for _, op := range []int{api.Eq, api.Lt, api.Le} {
			for _, v := range sample(kind) {
				wantMay(t, cols, []api.Pred{{Op: op, Col: 1, V: v}}, true)
				wantMay(t, cols, []api.Pred{always, {Op: op, Col: 1, V: v}, always}, true)
			}
			for _, v := range append(wrong(kind), nulls...) {
				wantMay(t, cols, []api.Pred{{Op: op, Col: 1, V: v}}, false)
				wantMay(t, cols, []api.Pred{always, {Op: op, Col: 1, V: v}, always}, false)
				wantMay(t, cols, []api.Pred{{Op: op, Col: 1, V: v, Vals: sample(kind)[:1]}}, false)
			}
		}
	}
	for _, kind := range []int{math.MinInt, -1, 0, 8, 257, 262, math.MaxInt} {
		for _, op := range leaves {
			for _, v := range []api.Value{number(0), number(1), text("a"), text("")} {
				wantMay(t, columns(kind), []api.Pred{{Op: op, V: v, Vals: []api.Value{v}}}, op == api.Null)
			}
		}
	}
}

// P18.1: a text of 300 bytes may be asked for, a longer one not; of two columns
// that which is named tells.
func TestMayValueEdges(t *testing.T) {
	cols := columns(api.Int, api.Text, api.Bytes, api.Bool)
	long := strings.Repeat("a", 300)
	for _, op := range []int{api.Eq, api.Lt, api.Le, api.In} {
		for _, x := range []struct {
			v   api.Value
			may string
		}{
			{text(long), "nyyn"}, {text(long + "a"), "nnnn"}, {text("\xff"), "nnyn"}, {text("é"), "nyyn"},
			{text(""), "yyyy"}, {number(0), "yyyy"}, {number(1), "ynny"}, {number(2), "ynnn"}, {number(math.MinInt), "ynnn"},
			{nothing, "nnnn"}, {api.Value{N: 1, S: "a"}, "nnnn"},
		} {
			for col := range cols {
				p := api.Pred{Op: op, Col: col, V: x.v, Vals: []api.Value{x.v}}
				wantMay(t, cols, []api.Pred{p}, x.may[col] == 'y')
			}
		}
	}
}

// P18.1: In has 1 to 10 values, of which each may be.
func TestMayVals(t *testing.T) {
	for _, kind := range kinds {
		cols := columns(kind)
		good := sample(kind)
		for _, many := range []int{0, 1, 2, 9, 10, 11, 12, 40, 300} {
			l := make([]api.Value, many)
			for i := range l {
				l[i] = good[i%len(good)]
			}
			may := many >= 1 && many <= 10
			wantMay(t, cols, []api.Pred{in(0, l...)}, may)
			wantMay(t, cols, []api.Pred{in(0, l...), always}, may)
			wantMay(t, cols, []api.Pred{in(0, slices.Repeat(good[:1], many)...)}, may)
			for i := range min(many, 12) {
				for _, v := range append(wrong(kind), nothing, api.Value{Null: true, N: 1}) {
					bad := slices.Clone(l)
					bad[i] = v
					wantMay(t, cols, []api.Pred{in(0, bad...)}, false)
				}
			}
		}
		wantMay(t, cols, []api.Pred{{Op: api.In, V: good[0]}}, false)
		wantMay(t, cols, []api.Pred{{Op: api.In, V: good[0], Vals: []api.Value{}}}, false)
	}
}

// littered are nodes of an operation, with all that it does not have laid wrong.
func littered(op int) []api.Pred {
	var out []api.Pred
	badVals := [][]api.Value{nil, {}, {nothing}, {{N: 1, S: "a"}}, slices.Repeat([]api.Value{nothing}, 11)}
	badNames := [][]int{nil, {}, {-1}, {1}, {2, 3}, {math.MinInt, math.MaxInt}, slices.Repeat([]int{0}, 50)}
	for _, col := range []int{0, -1, 2, math.MinInt, math.MaxInt} {
		for _, v := range []api.Value{nothing, number(5), text("\xff"), {N: 1, S: "a"}} {
			for _, vals := range badVals {
				for _, names := range badNames {
					p := api.Pred{Op: op, Col: col, V: v, Vals: vals, L: names}
					switch op {
					case api.And, api.Or:
						p.L = []int{0, 0}
					case api.Not:
						p.L = []int{0}
					case api.Eq, api.Lt, api.Le:
						p.Col, p.V = 1, number(5)
					case api.In:
						p.Col, p.Vals = 1, of(4, 5)
					case api.Null:
						p.Col = 1
					}
					out = append(out, p)
				}
			}
		}
	}
	return out
}

// P18.1, P18.2, P18.3: what an operation does not have is not looked at.
func TestNotLookedAt(t *testing.T) {
	cols := columns(api.Text, api.Int)
	row := api.Row{text("a"), number(5)}
	known := []api.Stats{stats.Of(api.Text, row[:1]), stats.Of(api.Int, row[1:])}
	want := [10]int{0, yes, yes, no, yes, no, yes, yes, no, yes}
	for op := 1; op <= 9; op++ {
		for _, p := range littered(op) {
			if t.Failed() {
				return
			}
			l := []api.Pred{always, p}
			wantMay(t, cols, l, true)
			wantEval(t, l, row, want[op])
			out := [3]bool{}
			out[want[op]] = true
			wantOut(t, l, known, out)
		}
	}
}

// P18.2: the chapter's examples.
func TestEvalExamples(t *testing.T) {
	less := lt(0, number(5))
	wantEval(t, []api.Pred{less}, api.Row{number(4)}, yes)
	wantEval(t, []api.Pred{less}, api.Row{nothing}, unknown)
	wantEval(t, []api.Pred{less}, api.Row{number(5)}, no)
	wantEval(t, []api.Pred{less, null(0), or(0, 1)}, api.Row{nothing}, yes)
}

// truth is Yes or No.
func truth(holds bool) int {
	if holds {
		return yes
	}
	return no
}

// P18.2: values that are less, the same and greater, of each kind.
func TestEvalLeaves(t *testing.T) {
	for _, kind := range kinds {
		l := sample(kind)
		for i, v := range l {
			for j, w := range l {
				r := api.Row{nothing, v, l[0]}
				wantEval(t, []api.Pred{eq(1, w)}, r, truth(i == j))
				wantEval(t, []api.Pred{lt(1, w)}, r, truth(i < j))
				wantEval(t, []api.Pred{le(1, w)}, r, truth(i <= j))
				wantEval(t, []api.Pred{in(1, w)}, r, truth(i == j))
			}
			wantEval(t, []api.Pred{null(1)}, api.Row{nothing, v}, no)
			wantEval(t, []api.Pred{always}, api.Row{nothing, v}, yes)
			r := api.Row{v, nothing, v}
			wantEval(t, []api.Pred{eq(1, v)}, r, unknown)
			wantEval(t, []api.Pred{lt(1, v)}, r, unknown)
			wantEval(t, []api.Pred{le(1, v)}, r, unknown)
			wantEval(t, []api.Pred{in(1, v, v)}, r, unknown)
			wantEval(t, []api.Pred{null(1)}, r, yes)
			wantEval(t, []api.Pred{null(2)}, r, no)
			wantEval(t, []api.Pred{always}, r, yes)
		}
	}
}

// P18.2: texts, byte by byte.
func TestEvalTexts(t *testing.T) {
	for _, x := range []struct{ less, more string }{
		{"", "\x00"}, {"", "a"}, {"a", "ab"}, {"ab", "abc"}, {"ab", "b"}, {"abc", "b"}, {"B", "a"}, {"10", "9"},
		{"z", "é"}, {"a\x7f", "aé"}, {"\uffff", "\U00010000"}, {"a", "a\x00"}, {"\x7f", "\x80"}, {"\x80", "\xff"}, {"\xff", "\xff\x00"}, {"\xfe\xff", "\xff"},
		{strings.Repeat("a", 299), strings.Repeat("a", 300)},
	} {
		a, b := text(x.less), text(x.more)
		for _, y := range []struct {
			v, w api.Value
			want string
		}{{a, b, "nyyn"}, {b, a, "nnnn"}, {a, a, "ynyy"}, {b, b, "ynyy"}} {
			for i, p := range []api.Pred{eq(0, y.w), lt(0, y.w), le(0, y.w), in(0, y.w)} {
				wantEval(t, []api.Pred{p}, api.Row{y.v}, truth(y.want[i] == 'y'))
			}
		}
	}
}

// P18.2: the value first, in the middle, last, twice, and not among them.
func TestEvalIn(t *testing.T) {
	for _, x := range []struct {
		l    []int
		want int
	}{
		{[]int{5}, yes}, {[]int{4}, no}, {[]int{5, 1, 2}, yes}, {[]int{1, 5, 2}, yes}, {[]int{1, 2, 5}, yes},
		{[]int{5, 5}, yes}, {[]int{5, 1, 5}, yes}, {[]int{1, 1}, no}, {[]int{4, 6}, no}, {[]int{6, 4}, no},
		{[]int{9, 8, 7, 6, 5, 4, 3, 2, 1, 0}, yes}, {[]int{-5, math.MinInt, math.MaxInt, 1<<32 + 5, 0}, no},
		{[]int{0, 1, 2, 3, 4, 6, 7, 8, 9, 5}, yes}, {[]int{0, 1, 2, 3, 4, 6, 7, 8, 9, 10}, no},
	} {
		wantEval(t, []api.Pred{in(0, of(x.l...)...)}, api.Row{number(5)}, x.want)
		wantEval(t, []api.Pred{in(0, of(x.l...)...)}, api.Row{nothing}, unknown)
	}
	words := ofTexts("a", "", "abc", "é")
	for _, x := range []struct {
		s    string
		want int
	}{{"a", yes}, {"", yes}, {"abc", yes}, {"é", yes}, {"ab", no}, {"A", no}, {"\x00", no}, {"\xc3", no}} {
		wantEval(t, []api.Pred{in(1, words...)}, api.Row{nothing, text(x.s)}, x.want)
	}
}

// trio are three nodes that come to No, Unknown and Yes of trioRow.
func trio() []api.Pred { return []api.Pred{eq(0, number(9)), eq(1, number(9)), eq(2, number(9))} }

var trioRow = api.Row{{N: 1}, {Null: true}, {N: 9}}

// P18.2: And, Or and Not of each, of each pair, and of each triple, in each order.
func TestEvalOfSome(t *testing.T) {
	nots := [3]int{yes, unknown, no}
	for a := range 3 {
		wantEval(t, append(trio(), not(a)), trioRow, nots[a])
		wantEval(t, append(trio(), and(a)), trioRow, a)
		wantEval(t, append(trio(), or(a)), trioRow, a)
		for b := range 3 {
			wantEval(t, append(trio(), and(a, b)), trioRow, min(a, b))
			wantEval(t, append(trio(), or(a, b)), trioRow, max(a, b))
			for c := range 3 {
				wantEval(t, append(trio(), and(a, b, c)), trioRow, min(a, b, c))
				wantEval(t, append(trio(), or(a, b, c)), trioRow, max(a, b, c))
				wantEval(t, append(trio(), or(a, b), and(3, c)), trioRow, min(max(a, b), c))
				wantEval(t, append(trio(), and(a, b), or(c, 3)), trioRow, max(min(a, b), c))
				wantEval(t, append(trio(), and(a, b, c), not(3)), trioRow, 2-min(a, b, c))
			}
		}
	}
	wantEval(t, append(trio(), and(slices.Repeat([]int{2}, 100)...)), trioRow, yes)
	wantEval(t, append(trio(), and(append(slices.Repeat([]int{2}, 100), 1)...)), trioRow, unknown)
	wantEval(t, append(trio(), or(append(slices.Repeat([]int{0}, 100), 2)...)), trioRow, yes)
}

// P18.2: nodes that several others name, and nodes that nobody names.
func TestEvalOfTheLast(t *testing.T) {
	for at := range 3 {
		shared := append(trio(), not(at), and(at, 3), or(at, 3))
		wantEval(t, shared[:5], trioRow, min(at, 2-at))
		wantEval(t, shared, trioRow, max(at, 2-at))
		wantEval(t, append(shared, not(4), and(5, 6, at)), trioRow, min(max(at, 2-at), at))
		alone := append(trio(), and(0, 1, 2), or(0, 1, 2), trio()[at])
		wantEval(t, alone, trioRow, at)
	}
	wantEval(t, append(trues(39), eq(0, number(1))), api.Row{number(2)}, no)
	wantEval(t, append(slices.Repeat([]api.Pred{eq(0, number(1))}, 39), always), api.Row{nothing}, yes)
	wantEval(t, append(slices.Repeat([]api.Pred{eq(0, number(1))}, 39), not(38)), api.Row{number(2)}, yes)
}

// drawnNode is a node at a place that may be, above others of some depths.
func drawnNode(r *rand.Rand, cols []api.Col, depths []int) (api.Pred, int) {
	var below []int
	for i, d := range depths {
		if d < 6 {
			below = append(below, i)
		}
	}
	if len(below) == 0 || r.Intn(5) < 2 {
		return drawnLeaf(r, cols), 1
	}
	op := r.Intn(3) + 1
	many := 1
	if op != api.Not {
		many += r.Intn(4)
	}
	p, depth := api.Pred{Op: op}, 0
	for range many {
		at := below[r.Intn(len(below))]
		if r.Intn(2) == 0 {
			at = below[len(below)-1]
		}
		p.L = append(p.L, at)
		depth = max(depth, depths[at])
	}
	return p, depth + 1
}

// drawnLeaf is a node that names none.
func drawnLeaf(r *rand.Rand, cols []api.Col) api.Pred {
	op := 4 + r.Intn(6)
	if op == api.True {
		op = 4 + r.Intn(6)
	}
	p := api.Pred{Op: op, Col: r.Intn(len(cols))}
	kind := cols[p.Col].Kind
	switch op {
	case api.Eq, api.Lt, api.Le:
		p.V = drawnSome(r, kind)
	case api.In:
		for range 1 + r.Intn(1+r.Intn(10)) {
			p.Vals = append(p.Vals, drawnSome(r, kind))
		}
	}
	return p
}

// drawnSome is a value of a kind that is something, one of not too many.
func drawnSome(r *rand.Rand, kind int) api.Value {
	if kind != api.Bool && isNumber(kind) && r.Intn(2) == 0 {
		return number(r.Intn(7) - 3)
	}
	l := sample(kind)
	return l[r.Intn(len(l))]
}

// drawnPred is a predicate that may be, and the depth that its last node needs.
func drawnPred(r *rand.Rand, cols []api.Col) ([]api.Pred, int) {
	many := 1 + r.Intn(1+r.Intn(40))
	l, depths := []api.Pred{}, []int{}
	for range many {
		p, d := drawnNode(r, cols, depths)
		l, depths = append(l, p), append(depths, d)
	}
	return l, depths[many-1]
}

// drawnCols are columns of any kinds.
func drawnCols(r *rand.Rand) []api.Col {
	l := make([]int, 1+r.Intn(6))
	for i := range l {
		l[i] = 1 + r.Intn(7)
	}
	return columns(l...)
}

// drawnRow is a row of columns, of which so many of ten values are nothing.
func drawnRow(r *rand.Rand, cols []api.Col, gaps int) api.Row {
	row := make(api.Row, len(cols))
	for i, c := range cols {
		row[i] = drawnSome(r, c.Kind)
		if r.Intn(10) < gaps {
			row[i] = nothing
		}
	}
	return row
}

// P18.1, P18.2: Eval against a slower reckoning, of predicates of every depth.
func TestEvalDrawn(t *testing.T) {
	r := rand.New(rand.NewSource(182))
	deep, told := [7]int{}, [3]int{}
	for range 8000 {
		if t.Failed() {
			return
		}
		cols := drawnCols(r)
		l, depth := drawnPred(r, cols)
		deep[depth]++
		wantMay(t, cols, l, true)
		for range 5 {
			row := drawnRow(r, cols, r.Intn(6))
			want := slowEval(l, len(l)-1, row)
			wantEval(t, l, row, want)
			told[want]++
		}
	}
	if slices.Min(deep[1:]) < 100 || slices.Min(told[:]) < 1000 {
		t.Errorf("%v of the depths and %v of what comes out are too few of some", deep, told)
	}
}

// drawnWrong is a predicate with a thing or two laid wrong, or just otherwise.
func drawnWrong(r *rand.Rand, cols []api.Col) []api.Pred {
	l, _ := drawnPred(r, cols)
	for range 1 + r.Intn(2) {
		p := &l[r.Intn(len(l))]
		switch r.Intn(6) {
		case 0:
			p.Op = r.Intn(12) - 1
		case 1:
			p.Col = r.Intn(len(cols)+2) - 1
		case 2:
			bad := append(wrong(1+r.Intn(7)), nothing)
			p.V = bad[r.Intn(len(bad))]
		case 3:
			p.Vals = append(p.Vals, slices.Repeat([]api.Value{drawnSome(r, 1+r.Intn(7))}, r.Intn(4))...)
		case 4:
			p.L = append(p.L, r.Intn(len(l)+2)-1)
		case 5:
			p.L = p.L[:len(p.L)/2]
		}
	}
	return l
}

// P18.1: May of any nodes against a slower reckoning.
func TestMayDrawn(t *testing.T) {
	r := rand.New(rand.NewSource(181))
	told := [2]int{}
	for range 40000 {
		if t.Failed() {
			return
		}
		cols := drawnCols(r)
		l := drawnWrong(r, cols)
		want := slowMay(cols, l)
		wantMay(t, cols, l, want)
		told[truth(want)/2]++
	}
	if told[0] < 5000 || told[1] < 5000 {
		t.Errorf("%v are too few of either", told)
	}
}

// reach is what is known of numbers from the least to the greatest one.
func reach(least, most int) api.Stats {
	return api.Stats{Count: 2, Min: number(least), Max: number(most), Sum: least + most}
}

// none is what is known of no values.
var none = api.Stats{Min: nothing, Max: nothing}

// gappy is s with some that are nothing.
func gappy(s api.Stats) api.Stats {
	s.HasNull = true
	return s
}

// P18.3: of no values nothing comes out, of values that are nothing Unknown.
func TestOutcomesOfNoValues(t *testing.T) {
	for _, kind := range kinds {
		for _, v := range sample(kind) {
			for _, p := range []api.Pred{eq(0, v), lt(0, v), le(0, v), in(0, v), in(0, sample(kind)[:2]...)} {
				wantOut(t, []api.Pred{p}, []api.Stats{none}, set(""))
				wantOut(t, []api.Pred{p}, []api.Stats{gappy(none)}, set("u"))
				wantOut(t, []api.Pred{p, not(0)}, []api.Stats{none}, set(""))
				wantOut(t, []api.Pred{p, not(0)}, []api.Stats{gappy(none)}, set("u"))
			}
		}
	}
	wantOut(t, []api.Pred{null(0)}, []api.Stats{none}, set(""))
	wantOut(t, []api.Pred{null(0)}, []api.Stats{gappy(none)}, set("y"))
	wantOut(t, []api.Pred{always}, []api.Stats{none}, set("y"))
	wantOut(t, []api.Pred{always}, []api.Stats{gappy(none)}, set("y"))
	wantOut(t, []api.Pred{always}, nil, set("y"))
}

// P18.3: of Null, by whether some are nothing and whether some are not.
func TestOutcomesOfNull(t *testing.T) {
	for _, count := range []int{1, 2, 3, 1024, 409600} {
		s := api.Stats{Count: count, Min: number(0), Max: number(1)}
		wantOut(t, []api.Pred{null(0)}, []api.Stats{s}, set("n"))
		wantOut(t, []api.Pred{null(0)}, []api.Stats{gappy(s)}, set("ny"))
		wantOut(t, []api.Pred{null(1)}, []api.Stats{gappy(none), s}, set("n"))
		wantOut(t, []api.Pred{null(1)}, []api.Stats{s, gappy(none)}, set("y"))
		wantOut(t, []api.Pred{null(0), not(0)}, []api.Stats{s}, set("y"))
		wantOut(t, []api.Pred{always}, []api.Stats{s}, set("y"))
		wantOut(t, []api.Pred{always}, []api.Stats{gappy(s)}, set("y"))
		wantOut(t, []api.Pred{always, not(0)}, []api.Stats{gappy(s)}, set("n"))
	}
}

// ruler are values that rise, those at 1 and at 3 the least and the greatest one.
type ruler struct {
	kind int
	at   [5]api.Value
}

// rulers are of each kind that has so many values, each with ends as far as they
// go, and with values that stand side by side.
var rulers = []ruler{
	{api.Int, [5]api.Value{{N: 1}, {N: 3}, {N: 5}, {N: 7}, {N: 9}}},
	{api.Int, [5]api.Value{{N: -2}, {N: -1}, {N: 0}, {N: 1}, {N: 2}}},
	{api.Decimal, [5]api.Value{{N: math.MinInt}, {N: math.MinInt + 1}, {N: 0}, {N: math.MaxInt - 1}, {N: math.MaxInt}}},
	{api.Date, [5]api.Value{{N: -9}, {N: -8}, {N: -7}, {N: -6}, {N: -5}}},
	{api.Time, [5]api.Value{{N: 1e9}, {N: 2e9}, {N: 2e9 + 1}, {N: 3e9}, {N: 4e9}}},
	{api.Text, [5]api.Value{{S: ""}, {S: "a"}, {S: "ab"}, {S: "abc"}, {S: "b"}}},
	{api.Text, [5]api.Value{{S: "Z"}, {S: "a"}, {S: "z"}, {S: "é"}, {S: "😀"}}},
	{api.Bytes, [5]api.Value{{S: "\x00"}, {S: "\x7f"}, {S: "\x80"}, {S: "\xff"}, {S: "\xff\xff"}}},
}

// wantKnown fails, if not just want may come out of a node, of what is known
// without any that are nothing, and with some.
func wantKnown(t *testing.T, p api.Pred, s api.Stats, want string) {
	t.Helper()
	wantOut(t, []api.Pred{p}, []api.Stats{none, s}, set(want))
	wantOut(t, []api.Pred{p}, []api.Stats{none, gappy(s)}, set(want+"u"))
	if slow := slowOutcomes([]api.Pred{p}, 0, []api.Stats{none, s}); slow != set(want) {
		t.Errorf("the slower Outcomes(%#v, %#v) is %v", p, s, slow)
	}
}

// P18.3: V ahead of Min, at it, between, at Max, and behind it.
func TestOutcomesOfLeaves(t *testing.T) {
	for _, x := range rulers {
		s := stats.Of(x.kind, []api.Value{x.at[3], x.at[1]})
		for i, want := range []string{"n", "ny", "ny", "ny", "n"} {
			wantKnown(t, eq(1, x.at[i]), s, want)
			wantKnown(t, in(1, x.at[i]), s, want)
			wantKnown(t, in(1, x.at[i], x.at[i]), s, want)
		}
		for i, want := range []string{"n", "n", "ny", "ny", "y"} {
			wantKnown(t, lt(1, x.at[i]), s, want)
		}
		for i, want := range []string{"n", "ny", "ny", "y", "y"} {
			wantKnown(t, le(1, x.at[i]), s, want)
		}
	}
}

// P18.3: V ahead of what all are, at it, and behind it.
func TestOutcomesOfOneValue(t *testing.T) {
	for _, x := range rulers {
		for _, many := range []int{1, 2, 8} {
			s := stats.Of(x.kind, slices.Repeat(x.at[2:3], many))
			for i, want := range []string{"n", "n", "y", "n", "n"} {
				wantKnown(t, eq(1, x.at[i]), s, want)
				wantKnown(t, in(1, x.at[i]), s, want)
			}
			for i, want := range []string{"n", "n", "n", "y", "y"} {
				wantKnown(t, lt(1, x.at[i]), s, want)
			}
			for i, want := range []string{"n", "n", "y", "y", "y"} {
				wantKnown(t, le(1, x.at[i]), s, want)
			}
		}
	}
	bools := [][]api.Value{of(0), of(1), of(0, 1)}
	for i, want := range []struct{ eq0, eq1, lt0, lt1, le0, le1 string }{
		{"y", "n", "n", "y", "y", "y"}, {"n", "y", "n", "n", "n", "y"}, {"ny", "ny", "n", "ny", "ny", "y"},
	} {
		s := stats.Of(api.Bool, bools[i])
		wantKnown(t, eq(1, number(0)), s, want.eq0)
		wantKnown(t, eq(1, number(1)), s, want.eq1)
		wantKnown(t, lt(1, number(0)), s, want.lt0)
		wantKnown(t, lt(1, number(1)), s, want.lt1)
		wantKnown(t, le(1, number(0)), s, want.le0)
		wantKnown(t, le(1, number(1)), s, want.le1)
	}
}

// P18.3: each of two and of three Vals in each place.
func TestOutcomesOfIn(t *testing.T) {
	inside := [5]bool{false, true, true, true, false}
	for _, x := range rulers {
		s := stats.Of(x.kind, []api.Value{x.at[1], x.at[3]})
		same := stats.Of(x.kind, []api.Value{x.at[2], x.at[2]})
		for i := range 5 {
			for j := range 5 {
				for k := range 5 {
					want, one := "n", "n"
					if inside[i] || inside[j] || inside[k] {
						want = "ny"
					}
					if i == 2 || j == 2 || k == 2 {
						one = "y"
					}
					wantKnown(t, in(1, x.at[i], x.at[j], x.at[k]), s, want)
					wantKnown(t, in(1, x.at[i], x.at[j], x.at[k]), same, one)
				}
			}
		}
	}
	wantKnown(t, in(1, of(1, 2, 3, 9, 10, 11)...), reach(4, 8), "n")
	wantKnown(t, in(1, of(1, 2, 3, 8, 9, 10, 11)...), reach(4, 8), "ny")
	wantKnown(t, in(1, of(4, 5)...), reach(4, 5), "ny")
	wantKnown(t, in(1, of(5, 4)...), reach(4, 5), "ny")
	wantKnown(t, in(1, of(0, 1, 2, 3, 4, 5, 6, 7, 8, 9)...), reach(4, 5), "ny")
	wantKnown(t, in(1, of(math.MinInt, math.MaxInt)...), reach(math.MinInt+1, math.MaxInt-1), "n")
	wantKnown(t, in(1, of(math.MinInt, math.MaxInt)...), reach(math.MinInt, math.MinInt), "y")
}

// sets are all sets of outcomes.
var sets = []string{"", "n", "u", "nu", "y", "ny", "uy", "nuy"}

// knownOf is what is known of a column, so that eq of 5 comes to just a set.
func knownOf(s string) api.Stats {
	out := none
	switch {
	case strings.Contains(s, "n") && strings.Contains(s, "y"):
		out = reach(4, 6)
	case strings.Contains(s, "n"):
		out = reach(6, 6)
	case strings.Contains(s, "y"):
		out = reach(5, 5)
	}
	out.HasNull = strings.Contains(s, "u")
	return out
}

// outOf is what comes of all choices of two sets.
func outOf(a, b string, both func(x, y int) int) string {
	out := ""
	for _, x := range a {
		for _, y := range b {
			out += "nuy"[both(strings.IndexRune("nuy", x), strings.IndexRune("nuy", y)):][:1]
		}
	}
	return out
}

func least(x, y int) int { return min(x, y) }

func most(x, y int) int { return max(x, y) }

// P18.3: And, Or and Not of each set of outcomes with each set.
func TestOutcomesOfSets(t *testing.T) {
	five := []api.Pred{eq(0, number(5)), eq(1, number(5)), eq(2, number(5))}
	turned := strings.NewReplacer("n", "y", "y", "n")
	for _, a := range sets {
		s := []api.Stats{knownOf(a), none, none}
		wantOut(t, five[:1], s, set(a))
		wantOut(t, []api.Pred{five[0], not(0)}, s, set(turned.Replace(a)))
		wantOut(t, []api.Pred{five[0], not(0), not(1)}, s, set(a))
		wantOut(t, []api.Pred{five[0], and(0)}, s, set(a))
		wantOut(t, []api.Pred{five[0], or(0)}, s, set(a))
		for _, b := range sets {
			s[1] = knownOf(b)
			wantOut(t, []api.Pred{five[0], five[1], and(0, 1)}, s, set(outOf(a, b, least)))
			wantOut(t, []api.Pred{five[0], five[1], and(1, 0)}, s, set(outOf(a, b, least)))
			wantOut(t, []api.Pred{five[0], five[1], or(0, 1)}, s, set(outOf(a, b, most)))
			wantOut(t, []api.Pred{five[0], five[1], or(1, 0)}, s, set(outOf(a, b, most)))
			for _, c := range sets {
				s[2] = knownOf(c)
				l := slices.Clone(five)
				wantOut(t, append(l, and(0, 1, 2)), s, set(outOf(outOf(a, b, least), c, least)))
				wantOut(t, append(l, or(2, 0, 1)), s, set(outOf(outOf(a, b, most), c, most)))
				wantOut(t, append(l, or(0, 1), and(2, 3)), s, set(outOf(outOf(a, b, most), c, least)))
			}
		}
	}
}

// P18.3: by hand, sets of which some outcomes go.
func TestOutcomesByHand(t *testing.T) {
	for _, x := range []struct{ a, b, and, or string }{
		{"nu", "y", "nu", "y"}, {"ny", "u", "nu", "uy"}, {"nuy", "n", "n", "nuy"}, {"nuy", "y", "nuy", "y"},
		{"uy", "uy", "uy", "uy"}, {"ny", "ny", "ny", "ny"}, {"n", "u", "n", "u"}, {"u", "y", "u", "y"}, {"n", "y", "n", "y"},
		{"nuy", "u", "nu", "uy"}, {"", "nuy", "", ""}, {"", "", "", ""},
	} {
		s := []api.Stats{knownOf(x.a), knownOf(x.b)}
		l := []api.Pred{eq(0, number(5)), eq(1, number(5))}
		wantOut(t, append(l, and(0, 1)), s, set(x.and))
		wantOut(t, append(l, or(0, 1)), s, set(x.or))
	}
}

// P18.3: what may come out of a node that is named twice is not tied to itself.
func TestOutcomesNotTied(t *testing.T) {
	five := eq(0, number(5))
	for _, x := range []struct{ a, twice, against string }{
		{"", "", ""}, {"n", "n", "n"}, {"u", "u", "u"}, {"y", "y", "n"},
		{"ny", "ny", "ny"}, {"nu", "nu", "nu"}, {"uy", "uy", "nu"}, {"nuy", "nuy", "nuy"},
	} {
		s := []api.Stats{knownOf(x.a)}
		wantOut(t, []api.Pred{five, and(0, 0)}, s, set(x.twice))
		wantOut(t, []api.Pred{five, or(0, 0, 0)}, s, set(x.twice))
		wantOut(t, []api.Pred{five, not(0), and(0, 1)}, s, set(x.against))
		wantOut(t, []api.Pred{five, not(0), or(1, 0), not(2)}, s, set(x.against))
	}
	// No row comes to Yes of both, but either may come out by itself.
	s := []api.Stats{reach(4, 6)}
	wantOut(t, []api.Pred{lt(0, number(5)), not(0), and(0, 1)}, s, set("ny"))
	wantOut(t, []api.Pred{eq(0, number(4)), eq(0, number(6)), and(0, 1)}, s, set("ny"))
	wantOut(t, []api.Pred{null(0), not(0), or(0, 1)}, []api.Stats{gappy(reach(4, 6))}, set("ny"))
}

// P18.3: the last node alone is what is asked.
func TestOutcomesOfTheLast(t *testing.T) {
	s := []api.Stats{gappy(reach(4, 6))}
	wantOut(t, []api.Pred{eq(0, number(5)), always}, s, set("y"))
	wantOut(t, []api.Pred{always, eq(0, number(7))}, s, set("nu"))
	wantOut(t, append(trues(39), lt(0, number(9))), s, set("uy"))
	wantOut(t, []api.Pred{always, eq(0, number(5)), and(0, 1), not(0)}, s, set("n"))
}

// drawnKnown is what is known of drawn values of each column.
func drawnKnown(r *rand.Rand, cols []api.Col) []api.Stats {
	s := make([]api.Stats, len(cols))
	for i, c := range cols {
		l := make([]api.Value, r.Intn(4))
		gaps := []int{0, 2, 10}[r.Intn(3)]
		for j := range l {
			l[j] = drawnRow(r, []api.Col{c}, gaps)[0]
		}
		s[i] = stats.Of(c.Kind, l)
	}
	return s
}

// P18.3: Outcomes and Match against a slower reckoning.
func TestOutcomesDrawn(t *testing.T) {
	r := rand.New(rand.NewSource(183))
	told := map[[3]bool]int{}
	for range 5000 {
		if t.Failed() {
			return
		}
		cols := drawnCols(r)
		l, _ := drawnPred(r, cols)
		s := drawnKnown(r, cols)
		want := slowOutcomes(l, len(l)-1, s)
		wantOut(t, l, s, want)
		told[want]++
	}
	for _, a := range sets {
		if told[set(a)] < 30 {
			t.Errorf("just %d of the set %q", told[set(a)], a)
		}
	}
}

// knownOfRows is what is known of each column of rows.
func knownOfRows(cols []api.Col, rows []api.Row) []api.Stats {
	s := make([]api.Stats, len(cols))
	for i, c := range cols {
		var l []api.Value
		for _, r := range rows {
			l = append(l, r[i])
		}
		s[i] = stats.Of(c.Kind, l)
	}
	return s
}

// mergedKnown is what is known of both.
func mergedKnown(cols []api.Col, a, b []api.Stats) []api.Stats {
	s := make([]api.Stats, len(cols))
	for i, c := range cols {
		s[i] = stats.Merge(c.Kind, a[i], b[i])
	}
	return s
}

// drawnRows are rows of columns, few or many of them alike.
func drawnRows(r *rand.Rand, cols []api.Col) []api.Row {
	gaps := []int{0, 1, 5, 10}[r.Intn(4)]
	rows := make([]api.Row, r.Intn(9))
	for i := range rows {
		rows[i] = drawnRow(r, cols, gaps)
		if i > 0 && r.Intn(2) == 0 {
			rows[i] = slices.Clone(rows[i-1])
		}
	}
	return rows
}

// wantAmong fails, if what comes out of a row may not come out of what is known.
func wantAmong(t *testing.T, l []api.Pred, row api.Row, s []api.Stats) {
	t.Helper()
	if n := Eval(l, row); !Outcomes(l, s)[n] || n == yes && !Match(l, s) {
		t.Errorf("Eval(%#v, %#v) is %d, which may not come out of %#v", l, row, n, s)
	}
}

// P18.4: what comes out of a row may come out of what is known of rows with it.
func TestRowsAreAmong(t *testing.T) {
	r := rand.New(rand.NewSource(184))
	kept := 0
	for i := range 4000 {
		if t.Failed() {
			return
		}
		cols := drawnCols(r)
		if i%2 == 0 {
			cols = columns(1 + i/2%7)
		}
		l, _ := drawnPred(r, cols)
		rows, others := drawnRows(r, cols), drawnRows(r, cols)
		s, s2 := knownOfRows(cols, rows), knownOfRows(cols, others)
		all := [][]api.Stats{s, mergedKnown(cols, s, s2), mergedKnown(cols, s2, s), mergedKnown(cols, s, drawnKnown(r, cols))}
		for _, row := range rows {
			if value.Row(cols, row) != api.OK {
				t.Fatalf("%#v is no row of %#v", row, cols)
			}
			for _, known := range all {
				wantAmong(t, l, row, known)
			}
		}
		if len(rows) > 0 && Outcomes(l, s) != set("nuy") {
			kept++
		}
	}
	if kept < 1000 {
		t.Errorf("of just %d predicates something may not come out", kept)
	}
}

// P18.4: of each leaf, each kind, and each pair of values.
func TestRowsAreAmongOfLeaves(t *testing.T) {
	for _, kind := range kinds {
		l := append(sample(kind), nothing)
		for _, a := range l {
			for _, b := range l {
				s := []api.Stats{stats.Of(kind, []api.Value{a, b})}
				for _, v := range sample(kind) {
					for _, p := range []api.Pred{eq(0, v), lt(0, v), le(0, v), in(0, v), in(0, v, a, v), null(0), always} {
						wantAmong(t, []api.Pred{p}, api.Row{a}, s)
						wantAmong(t, []api.Pred{p}, api.Row{b}, s)
						wantAmong(t, []api.Pred{p, not(0)}, api.Row{a}, s)
					}
				}
			}
		}
	}
}

// roomy is a copy of a predicate, with room behind the end of each list.
func roomy(l []api.Pred) []api.Pred {
	out := make([]api.Pred, len(l), len(l)+3)
	for i, p := range l {
		out[i] = p
		out[i].L = append(make([]int, 0, len(p.L)+3), p.L...)
		out[i].Vals = append(make([]api.Value, 0, len(p.Vals)+3), p.Vals...)
	}
	return out
}

// spare is the predicate with the room behind each list's end.
func spare(l []api.Pred) []api.Pred {
	out := slices.Clone(l[:cap(l)])
	for i := range out {
		out[i].L = slices.Clone(out[i].L[:cap(out[i].L)])
		out[i].Vals = slices.Clone(out[i].Vals[:cap(out[i].Vals)])
	}
	return out
}

// R7: what is handed in is left as it was, and so is the room behind its end.
func TestInputsStay(t *testing.T) {
	r := rand.New(rand.NewSource(187))
	for range 1000 {
		cols := drawnCols(r)
		p, _ := drawnPred(r, cols)
		l := roomy(p)
		row := append(make(api.Row, 0, len(cols)+2), drawnRow(r, cols, 2)...)
		s := append(make([]api.Stats, 0, len(cols)+2), drawnKnown(r, cols)...)
		cols = append(make([]api.Col, 0, len(cols)+2), cols...)
		lThen, rowThen, sThen, colsThen := spare(l), slices.Clone(row[:cap(row)]), slices.Clone(s[:cap(s)]), slices.Clone(cols[:cap(cols)])
		may, n, out, match := May(cols, l), Eval(l, row), Outcomes(l, s), Match(l, s)
		if !reflect.DeepEqual(spare(l), lThen) {
			t.Fatalf("the predicate %#v was changed", p)
		}
		if !slices.Equal(row[:cap(row)], rowThen) || !slices.Equal(s[:cap(s)], sThen) || !slices.Equal(cols[:cap(cols)], colsThen) {
			t.Fatalf("the row, what is known or the columns were changed by %#v", p)
		}
		clear(l)
		clear(row)
		clear(s)
		if !may || n != slowEval(p, len(p)-1, rowThen) || out != slowOutcomes(p, len(p)-1, sThen) || match != out[yes] {
			t.Fatalf("%#v was answered wrong", p)
		}
	}
}

// R6: each call stands for itself, and hangs on no room behind a list's end.
func TestCallsHangOnArgumentsAlone(t *testing.T) {
	long := append(trio(), and(0, 1, 2), or(0, 1, 2), not(4))
	for range 3 {
		wantEval(t, long, trioRow, no)
		wantEval(t, long[:1], trioRow, no)
		wantEval(t, long[:2], trioRow, unknown)
		wantEval(t, long[:3], trioRow, yes)
		wantMay(t, columns(api.Int, api.Int, api.Int), long, true)
		wantMay(t, columns(api.Int, api.Int, api.Int)[:2], long, false)
		wantMay(t, columns(api.Int), long[:0], false)
		wantOut(t, long[:1], []api.Stats{reach(4, 9)}, set("ny"))
		wantOut(t, long[:1], []api.Stats{reach(4, 8)}, set("n"))
		p := in(0, of(1, 2, 3)...)
		p.Vals = p.Vals[:2]
		wantEval(t, []api.Pred{p}, api.Row{number(3)}, no)
		q := and(2, 1)
		q.L = q.L[:1]
		wantEval(t, append(trio(), q), trioRow, yes)
		wantMay(t, columns(2, 2, 2), append(trio(), api.Pred{Op: api.Not, L: q.L}), true)
		wantMay(t, columns(2, 2, 2), append(trio(), api.Pred{Op: api.And, L: q.L[:0]}), false)
	}
}

// R1: predicates that may not be, rows of other columns, and what may not be
// known are not asked, but the calls end, and tell the same twice.
func TestAnyArguments(t *testing.T) {
	r := rand.New(rand.NewSource(188))
	ends := []int{math.MinInt, -1, 0, 1, 2, 3, 39, 40, 41, math.MaxInt}
	odd := []api.Value{nothing, {}, {Null: true, N: 3}, {N: 3, S: "a"}, {N: math.MinInt}, {S: "\xff"}}
	for range 20000 {
		l := make([]api.Pred, r.Intn(5)*r.Intn(15))
		for i := range l {
			l[i] = api.Pred{Op: r.Intn(12) - 1, Col: ends[r.Intn(len(ends))], V: odd[r.Intn(len(odd))]}
			for range r.Intn(3) {
				l[i].L = append(l[i].L, ends[r.Intn(len(ends))])
				l[i].Vals = append(l[i].Vals, odd[r.Intn(len(odd))])
			}
		}
		row := make(api.Row, r.Intn(4))
		s := make([]api.Stats, r.Intn(4))
		for i := range s {
			s[i] = api.Stats{Count: ends[r.Intn(len(ends))], HasNull: r.Intn(2) == 0, Min: odd[r.Intn(len(odd))], Max: odd[r.Intn(len(odd))]}
		}
		May(columns(ends[:r.Intn(5)]...), l)
		if n := Eval(l, row); n < no || n > yes || n != Eval(l, row) {
			t.Fatalf("Eval(%#v, %#v) is %d", l, row, n)
		}
		if Match(l, s) != Outcomes(l, s)[yes] {
			t.Fatalf("Match(%#v, %#v) is not what Outcomes tells", l, s)
		}
	}
	loop := []api.Pred{not(1), not(0)}
	Eval(loop, nil)
	Outcomes(loop, nil)
	Eval(nil, nil)
	Outcomes(nil, nil)
	Match(nil, nil)
	Eval(trues(41), nil)
	Eval([]api.Pred{and()}, nil)
	Outcomes([]api.Pred{or()}, nil)
	Eval([]api.Pred{not()}, nil)
	Eval(append(trues(1000), not(999)), nil)
}

// nodesOf makes nodes of bytes, with few things wrong.
func nodesOf(b []byte) []api.Pred {
	var l []api.Pred
	next := func() int {
		if len(b) == 0 {
			return 0
		}
		n := int(int8(b[0]))
		b = b[1:]
		return n
	}
	for len(b) > 0 && len(l) < 45 {
		p := api.Pred{Op: next(), Col: next(), V: valueOf(next())}
		lists := next()
		for range lists & 3 {
			p.L = append(p.L, next())
		}
		for range lists >> 2 & 15 {
			p.Vals = append(p.Vals, valueOf(next()))
		}
		l = append(l, p)
	}
	return l
}

// valueOf makes a value of a number: nothing, a number, or a text.
func valueOf(n int) api.Value {
	switch {
	case n == -128:
		return nothing
	case n < -64:
		return text(strings.Repeat("a", n+128)[:(n+128)%4])
	}
	return number(n)
}

func FuzzMay(f *testing.F) {
	f.Add([]byte("\x05\x00\x05\x00\x08\x01\x00\x00\x02\x00\x00\x02\x00\x01"), byte(2), byte(6))
	f.Add([]byte("\x07\x01\x00\x0c\x81\x82\x83\x03\x00\x00\x01\x00"), byte(1), byte(7))
	f.Fuzz(func(t *testing.T, b []byte, x, y byte) {
		l := nodesOf(b)
		cols := columns(int(x), int(y)%8)
		want := slowMay(cols, l)
		wantMay(t, cols, l, want)
		row := api.Row{valueOf(int(int8(x))), valueOf(int(int8(y)))}
		if !want {
			Eval(l, row)
			Outcomes(l, make([]api.Stats, int(x)%3))
			return
		}
		wantEval(t, l, row, slowEval(l, len(l)-1, row))
	})
}

func FuzzOutcomes(f *testing.F) {
	f.Add(int64(1), byte(3), byte(2))
	f.Add(int64(77), byte(0), byte(8))
	f.Fuzz(func(t *testing.T, seed int64, many, gaps byte) {
		r := rand.New(rand.NewSource(seed))
		cols := drawnCols(r)
		l, _ := drawnPred(r, cols)
		rows := make([]api.Row, many%20)
		for i := range rows {
			rows[i] = drawnRow(r, cols, int(gaps)%11)
		}
		s := knownOfRows(cols, rows)
		wantOut(t, l, s, slowOutcomes(l, len(l)-1, s))
		for _, row := range rows {
			wantEval(t, l, row, slowEval(l, len(l)-1, row))
			wantAmong(t, l, row, s)
		}
	})
}
