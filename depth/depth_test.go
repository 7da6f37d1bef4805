package depth

import (
	"math"
	"slices"
	"strconv"
	"strings"
	"testing"

	"copperplate/api"
	"copperplate/kind"
	"copperplate/lex"
	"copperplate/parse"
	"copperplate/rule"
	"copperplate/yield"
)

// Words of the terminals, from number 0 on. END is the end, where it stands within a list.
const words = "END ! $ & ( ) ... : = @ [ ] { | } INT FLOAT STRING NAME query mutation subscription fragment on type interface enum union input scalar implements"

// terms are the terminals of a text in words.
func terms(t *testing.T, text string) []int {
	t.Helper()
	all := strings.Fields(words)
	var l []int
	for word := range strings.FieldsSeq(text) {
		te := slices.Index(all, word)
		if te < 0 {
			t.Fatalf("no word: %q", word)
		}
		l = append(l, te)
	}
	return l
}

// numbers are those of a text.
func numbers(t *testing.T, text string) []int {
	t.Helper()
	var l []int
	for word := range strings.FieldsSeq(text) {
		n, err := strconv.Atoi(word)
		if err != nil {
			t.Fatal(err)
		}
		l = append(l, n)
	}
	return l
}

// The terminals that open, and those that close: numbers by hand, as the document has them.
func opening() []int { return []int{4, 10, 12} }

func closing() []int { return []int{5, 11, 14} }

// neither are terminals, and numbers of none, that neither open nor close.
func neither() []int {
	l := []int{0, 1, 2, 3, 6, 7, 8, 9, 13, 15, 16, 17, 18, 19, 20, 21, 22, 23, 24, 25, 26, 27, 28, 29, 30}
	return append(l, outside()...)
}

// outside are numbers of no terminal.
func outside() []int {
	return []int{31, 32, 99, 256 + 4, 1<<16 + 12, 1<<32 + 10, 1<<32 + 5, math.MaxInt, math.MaxInt - 1, -1, -2, -4, -5, -10, -12, -14, 4 - 256, 12 - 1<<32, math.MinInt, math.MinInt + 12}
}

// count is Ends by the chapter's words: how many open, less how many close.
func count(l []int) int {
	n := 0
	for _, te := range l {
		if slices.Contains(opening(), te) {
			n++
		}
		if slices.Contains(closing(), te) {
			n--
		}
	}
	return n
}

// greatest is Depth by the chapter's words: the greatest count of all beginnings.
func greatest(l []int) int {
	most := count(nil)
	for n := range l {
		most = max(most, count(l[:n+1]))
	}
	return most
}

// least is At by the chapter's words, each place for itself.
func least(l []int, d int) int {
	for i, te := range l {
		if slices.Contains(opening(), te) && count(l[:i+1]) > d {
			return i
		}
	}
	return -1
}

// isTold asks for the depth of l, how many are open in the end, and At for each of 0 to one
// more than the depth and beyond it: places has the At for 0, for 1, and so on.
func isTold(t *testing.T, l []int, depth, ends int, places []int) {
	t.Helper()
	kept := slices.Clone(l)
	if got := Depth(l); got != depth {
		t.Errorf("Depth(%v) = %d, not %d", l, got, depth)
	}
	if got := Ends(l); got != ends {
		t.Errorf("Ends(%v) = %d, not %d", l, got, ends)
	}
	for d, at := range places {
		isAt(t, l, d, at)
	}
	for _, d := range []int{len(places), len(places) + 1, 100, 1 << 31, 1 << 32, math.MaxInt - 1, math.MaxInt} {
		isAt(t, l, d, -1)
	}
	if !slices.Equal(l, kept) {
		t.Errorf("%v was made %v", kept, l)
	}
}

func isAt(t *testing.T, l []int, d, at int) {
	t.Helper()
	if got := At(l, d); got != at {
		t.Errorf("At(%v, %d) = %d, not %d", l, d, got, at)
	}
}

// isAsSaid holds all calls against the chapter's words, and against what follows.
func isAsSaid(t *testing.T, l []int) {
	t.Helper()
	depth := greatest(l)
	if got := Depth(l); got != depth {
		t.Errorf("Depth(%v) = %d, not %d", l, got, depth)
	}
	if got, want := Ends(l), count(l); got != want {
		t.Errorf("Ends(%v) = %d, not %d", l, got, want)
	}
	for d := -len(l) - 2; d <= len(l)+2; d++ {
		isAt(t, l, d, least(l, d))
		isFirst(t, l, d)
	}
}

// isFirst asks whether what is deeper than d is, first, at At: what is ahead of it is not, and
// what ends with it is.
func isFirst(t *testing.T, l []int, d int) {
	t.Helper()
	at := At(l, d)
	if d >= 0 && (at >= 0) != (Depth(l) > d) {
		t.Errorf("At(%v, %d) = %d, of depth %d", l, d, at, Depth(l))
	}
	if at < 0 {
		return
	}
	if !slices.Contains(opening(), l[at]) || Ends(l[:at+1]) <= d || Depth(l[:at+1]) <= d {
		t.Errorf("At(%v, %d) = %d, where it is not deeper", l, d, at)
	}
	if d >= 0 && (Depth(l[:at]) > d || Depth(l[:at+1]) != d+1) {
		t.Errorf("At(%v, %d) = %d, ahead of which it is deeper", l, d, at)
	}
}

// far are numbers so far below 0 that At is just the first one that opens, of lists where at
// most one more closes than opens.
func far() []int { return []int{-2, -3, -100, -1 << 31, -1 << 32, math.MinInt + 1, math.MinInt} }

// told is a list, and what is told of it, worked out by hand.
type told struct {
	words       string
	depth, ends int
	places      string
}

func documents() []told {
	return []told{
		{"{ NAME }", 1, 0, "0"},
		{"{ NAME { NAME } }", 2, 0, "0 2"},
		{"{ NAME { NAME { NAME } } NAME }", 3, 0, "0 2 4"},
		{"{ NAME { NAME } NAME { NAME { NAME } } }", 3, 0, "0 2 8"},
		{"{ NAME ( NAME : INT NAME : STRING ) }", 2, 0, "0 2"},
		{"{ NAME ( NAME : [ ] NAME : { } ) }", 3, 0, "0 2 5"},
		{"{ NAME ( NAME : [ INT [ FLOAT ] { NAME : [ { NAME : STRING } ] } ] ) { NAME } }", 6, 0, "0 2 5 7 13 14"},
		{"{ NAME ( NAME : { NAME : { NAME : { } } } ) }", 5, 0, "0 2 5 8 11"},
		{"query { NAME }", 1, 0, "1"},
		{"query NAME ( $ NAME : [ [ NAME ! ] ! ] = [ ] ) @ NAME ( NAME : $ NAME ) { NAME }", 3, 0, "2 6 7"},
		{"subscription NAME @ NAME { NAME }", 1, 0, "4"},
		{"fragment NAME on NAME { ... on NAME { NAME } ... { NAME { NAME } } }", 3, 0, "4 8 14"},
		{"{ ... NAME ... @ NAME ( NAME : [ INT ] ) { NAME } }", 3, 0, "0 6 9"},
		{"scalar NAME", 0, 0, ""},
		{"STRING scalar NAME @ NAME ( NAME : [ { } ] )", 3, 0, "5 8 9"},
		{"type NAME implements & NAME & NAME { NAME : NAME }", 1, 0, "7"},
		{"type NAME { NAME ( NAME : [ NAME ] = [ INT ] NAME : NAME ) : [ NAME ! ] NAME : NAME }", 3, 0, "2 4 7"},
		{"interface NAME { NAME : [ [ [ NAME ] ] ] }", 4, 0, "2 5 6 7"},
		{"enum NAME { NAME NAME @ NAME ( NAME : INT ) }", 2, 0, "2 7"},
		{"union NAME = | NAME | NAME", 0, 0, ""},
		{"input NAME { NAME : NAME = { NAME : [ { } ] } }", 4, 0, "2 7 10 11"},
		{"scalar NAME { NAME } union NAME = NAME { NAME { NAME } }", 2, 0, "2 11"},
	}
}

func TestP15_1Documents(t *testing.T) {
	for _, x := range documents() {
		l := terms(t, x.words)
		isTold(t, l, x.depth, x.ends, numbers(t, x.places))
		isAsSaid(t, l)
	}
}

func TestP15_1None(t *testing.T) {
	behind := []int{12, 4, 10}
	for _, l := range [][]int{nil, {}, make([]int, 0, 8), behind[:0], behind[3:]} {
		isTold(t, l, 0, 0, nil)
		for _, d := range far() {
			isAt(t, l, d, -1)
		}
		isAt(t, l, -1, -1)
	}
}

// Each terminal alone, and each number of none.
func TestP15_1Alone(t *testing.T) {
	for _, te := range opening() {
		isTold(t, []int{te}, 1, 1, []int{0})
	}
	for _, te := range closing() {
		isTold(t, []int{te}, 0, -1, nil)
	}
	for _, te := range neither() {
		isTold(t, []int{te}, 0, 0, nil)
	}
	if n := len(opening()) + len(closing()) + len(neither()) - len(outside()); n != api.Terminals {
		t.Errorf("%d terminals are asked of", n)
	}
}

// What opens is closed by each that closes, also by what is of another.
func TestP15_1Pairs(t *testing.T) {
	for _, o := range opening() {
		for _, c := range closing() {
			isTold(t, []int{o, c}, 1, 0, []int{0})
			isTold(t, []int{c, o}, 0, 0, nil)
			isAt(t, []int{c, o}, -1, 1)
			isTold(t, []int{o, o, c}, 2, 1, []int{0, 1})
			isTold(t, []int{c, o, o}, 1, 1, []int{2})
			isTold(t, []int{o, c, o}, 1, 1, []int{0})
			isTold(t, []int{o, c, c}, 1, -1, []int{0})
			isTold(t, []int{c, c, o}, 0, -1, nil)
			for _, other := range opening() {
				isTold(t, []int{o, other, c, c}, 2, 0, []int{0, 1})
				isTold(t, []int{o, c, other, c}, 1, 0, []int{0})
			}
		}
	}
}

// What neither opens nor closes changes nothing but the places of what stands behind it.
func TestP15_1Neither(t *testing.T) {
	for _, n := range neither() {
		isTold(t, []int{n, n, n}, 0, 0, nil)
		isTold(t, []int{n, 12, n, 4, n, 10, n, 11, n, 5, n, 14, n}, 3, 0, []int{1, 3, 5})
		isTold(t, []int{14, n, 12, n, 12, n}, 1, 1, []int{4})
		isTold(t, []int{12, n, 5, 14, n}, 1, -1, []int{0})
	}
}

func TestP15_1MoreClose(t *testing.T) {
	for _, x := range []told{
		{"}", 0, -1, ""},
		{") ] }", 0, -3, ""},
		{"NAME ) NAME ]", 0, -2, ""},
		{"( ) )", 1, -1, "0"},
		{"{ { } } } }", 2, -2, "0 1"},
		{"} {", 0, 0, ""},
		{"} } {", 0, -1, ""},
		{"} } { [ ( )", 1, 0, "4"},
		{") ) ) ( ( ( ( (", 2, 2, "6 7"},
		{"} NAME } { NAME { NAME [ NAME ( NAME", 2, 2, "7 9"},
		{"{ } } { {", 1, 1, "0"},
		{"{ ( ) } } } } [ [ [ [ [ [", 3, 3, "0 1 12"},
	} {
		l := terms(t, x.words)
		isTold(t, l, x.depth, x.ends, numbers(t, x.places))
		isAsSaid(t, l)
	}
}

// The greatest Ends is that of a beginning: of none, of some, or of all.
func TestP15_1Greatest(t *testing.T) {
	for _, x := range []told{
		{"( { [ ] } )", 3, 0, "0 1 2"},
		{"{ { { } } } { } { { } }", 3, 0, "0 1 2"},
		{"{ } { { } } { { { } } } { }", 3, 0, "0 3 8"},
		{"{ } { { } } { { { { ", 4, 4, "0 3 8 9"},
		{"{ } { } { }", 1, 0, "0"},
		{"{ { } { } { {", 3, 3, "0 1 6"},
		{"] { ] [ ) ( }", 0, -1, ""},
		{"( ( ( ) ) ) ) ) ) ( (", 3, -1, "0 1 2"},
		{"( [ NAME", 2, 2, "0 1"},
		{"NAME NAME (", 1, 1, "2"},
	} {
		l := terms(t, x.words)
		isTold(t, l, x.depth, x.ends, numbers(t, x.places))
		isAsSaid(t, l)
	}
}

// d at the depth, one less and one more, and about 0.
func TestP15_2Depth(t *testing.T) {
	for _, x := range documents() {
		l, places := terms(t, x.words), numbers(t, x.places)
		isAt(t, l, x.depth, -1)
		isAt(t, l, x.depth+1, -1)
		if x.depth > 0 {
			isAt(t, l, x.depth-1, places[x.depth-1])
			isAt(t, l, 0, places[0])
			isAt(t, l, -1, places[0])
			isAt(t, l, math.MinInt, places[0])
		} else {
			isAt(t, l, x.depth-1, -1)
			isAt(t, l, math.MinInt, -1)
		}
	}
}

// Below 0 the least place where Ends is above d may be one that does not open.
func TestP15_2BelowNought(t *testing.T) {
	for _, x := range []struct {
		words string
		d, at int
	}{
		{"NAME {", -1, 1},
		{"NAME { {", -1, 1},
		{"} {", -1, 1},
		{"} {", 0, -1},
		{"} {", -2, 1},
		{"} } {", -1, -1},
		{"} } {", -2, 2},
		{"} } {", -3, 2},
		{"} } { {", -1, 3},
		{"} } { {", -2, 2},
		{"} } } NAME ( NAME [ NAME { NAME (", -3, 4},
		{"} } } NAME ( NAME [ NAME { NAME (", -2, 6},
		{"} } } NAME ( NAME [ NAME { NAME (", -1, 8},
		{"} } } NAME ( NAME [ NAME { NAME (", 0, 10},
		{"} } } NAME ( NAME [ NAME { NAME (", 1, -1},
		{"( ) ) ) (", -1, 0},
		{"( ) ) ) (", -100, 0},
		{"INT FLOAT STRING", -1, -1},
		{"INT FLOAT STRING", -100, -1},
		{"} ) ]", -100, -1},
	} {
		isAt(t, terms(t, x.words), x.d, x.at)
	}
	for _, d := range far() {
		isAt(t, []int{18, 5, 18, 10, 10}, d, 3)
		isAt(t, []int{99, -1, 0, 14}, d, -1)
		isAt(t, []int{math.MinInt, 12, math.MaxInt}, d, 1)
	}
}

// lists hands on all lists of at most so many of some terminals.
func lists(of []int, most int) func(yield func([]int) bool) {
	return func(yield func([]int) bool) {
		longest := [][]int{nil}
		for n := 0; n <= most; n++ {
			var longer [][]int
			for _, l := range longest {
				if !yield(l) {
					return
				}
				for _, te := range of {
					longer = append(longer, append(slices.Clip(l), te))
				}
			}
			longest = longer
		}
	}
}

func TestP15_3Short(t *testing.T) {
	for l := range lists([]int{4, 5, 10, 11, 12, 14, 18}, 4) {
		isAsSaid(t, l)
	}
	for l := range lists([]int{12, 5, 0}, 8) {
		isAsSaid(t, l)
	}
	for l := range lists(append(neither(), 4, 10, 12, 5, 11, 14), 2) {
		isAsSaid(t, l)
	}
}

// isBalanced asks of what is parsed: as many open as close, none is closed that was not open,
// and a part that ends ahead of the end has as many of each as still stand open.
func isBalanced(t *testing.T, l []int) {
	t.Helper()
	if _, at := parse.Parse(l); at != -1 {
		t.Errorf("%v fails at %d", l, at)
	}
	if n := Ends(l); n != 0 {
		t.Errorf("%v is parsed, with %d open in the end", l, n)
	}
	for n := range l {
		if Ends(l[:n]) < 0 || Ends(l[:n])+Ends(l[n:]) != 0 {
			t.Errorf("%v is parsed, with %d open at %d, and %d behind", l, Ends(l[:n]), n, Ends(l[n:]))
		}
	}
}

func TestP15_3Parsed(t *testing.T) {
	for _, x := range documents() {
		isBalanced(t, terms(t, x.words))
	}
	for l := range lists(terms(t, "( ) [ ] { } NAME : $ ... query"), 5) {
		if _, at := parse.Parse(l); at == -1 {
			isBalanced(t, l)
		}
	}
	parsed := 0
	for l := range lists(terms(t, "{ } NAME"), 8) {
		if _, at := parse.Parse(l); at == -1 {
			parsed++
			isBalanced(t, l)
		}
	}
	if parsed < 10 {
		t.Errorf("only %d are parsed", parsed)
	}
}

// Each rule has as many terminals that open as close: so all that rules derive has.
func TestP15_3Rules(t *testing.T) {
	open := 0
	for i := range rule.Count() {
		r, _ := rule.Get(i)
		var l []int
		for _, s := range rule.Plain(r.Syms) {
			if s.Kind == api.SyTerm {
				l = append(l, s.N)
			}
		}
		open += Depth(l)
		if Ends(l) != 0 || Depth(l) > 1 {
			t.Errorf("rule %d: %v, %d, %d", i, l, Depth(l), Ends(l))
		}
	}
	// ( of 11, 24 and 73; [ of 18 and 33; { of 34, 41, 66, 77 and 87.
	if open != 10 {
		t.Errorf("%d rules open", open)
	}
	for class := range api.Classes {
		for _, te := range append(opening(), closing()...) {
			if kind.In(class, te) {
				t.Errorf("class %d has %d", class, te)
			}
		}
	}
}

// A document with a terminal less, more, or changed is told as the chapter says; if it is
// parsed, as many open as close.
func TestP15_3Changed(t *testing.T) {
	for _, x := range documents() {
		l := terms(t, x.words)
		for at := range l {
			isChanged(t, slices.Delete(slices.Clone(l), at, at+1))
			for _, te := range append(opening(), 5, 11, 14, 18, 0, -1, 31) {
				isChanged(t, slices.Insert(slices.Clone(l), at, te))
				isChanged(t, slices.Replace(slices.Clone(l), at, at+1, te))
			}
		}
	}
}

func isChanged(t *testing.T, l []int) {
	t.Helper()
	if _, at := parse.Parse(l); at == -1 {
		isBalanced(t, l)
	}
	if Depth(l) != greatest(l) || Ends(l) != count(l) {
		t.Errorf("%v: %d, %d", l, Depth(l), Ends(l))
	}
	for d := -3; d <= greatest(l)+1; d++ {
		isAt(t, l, d, least(l, d))
	}
}

// What stands in strings and comments of a source neither opens nor closes.
func TestP15_3Sources(t *testing.T) {
	for _, x := range []struct {
		src    string
		depth  int
		places []int
	}{
		{"{a,b}", 1, []int{0}},
		{"{a{b}}", 2, []int{0, 2}},
		{"{f(a:1 b:[2])}", 3, []int{0, 2, 8}},
		{"{a(b:\"({[\")#((({\n}", 2, []int{0, 2}},
		{"\"\"\"}{\"\"\" type a { b(c: d = {e: [1, {f: 2}]}): [g] }", 5, []int{3, 5, 10, 13, 15}},
	} {
		tokens, e, _ := lex.Lex(x.src)
		if e != api.OK {
			t.Fatal(x.src, e)
		}
		l := kind.All(tokens)
		isTold(t, l, x.depth, 0, x.places)
		isBalanced(t, l)
		rules, _ := parse.Parse(l)
		symbols, _ := yield.Yield(rules)
		for i, s := range symbols {
			if s.Kind != api.SyTerm && (slices.Contains(opening(), l[i]) || slices.Contains(closing(), l[i])) {
				t.Errorf("%q: %v at %d", x.src, s, i)
			}
		}
	}
}

// isLong is isTold for lists that are too long to be shown; at tells the place for each d
// that is from 0 to below the depth, and first the one for what is far below 0.
func isLong(t *testing.T, l []int, depth, ends, first int, at func(d int) int) {
	t.Helper()
	if Depth(l) != depth || Ends(l) != ends {
		t.Errorf("%d terminals: %d, %d, not %d, %d", len(l), Depth(l), Ends(l), depth, ends)
	}
	for _, d := range []int{math.MinInt, -len(l), 0, 1, depth / 2, max(depth-1, 0), depth, depth + 1, len(l), math.MaxInt} {
		want := -1
		switch {
		case d <= -len(l):
			want = first
		case 0 <= d && d < depth:
			want = at(d)
		}
		if got := At(l, d); got != want {
			t.Errorf("%d terminals, at %d: %d, not %d", len(l), d, got, want)
		}
	}
}

func TestLong(t *testing.T) {
	const n = 300000
	self := func(d int) int { return d }
	for _, te := range opening() {
		isLong(t, slices.Repeat([]int{te}, n), n, n, 0, self)
		isLong(t, slices.Repeat([]int{18, te}, n), n, n, 1, func(d int) int { return 2*d + 1 })
		for _, c := range closing() {
			isLong(t, slices.Concat(slices.Repeat([]int{te}, n), slices.Repeat([]int{c}, 2*n)), n, -n, 0, self)
			isLong(t, slices.Concat(slices.Repeat([]int{te, c}, n), []int{te, te}), 2, 2, 0, func(d int) int { return d * (2*n + 1) })
		}
	}
	for _, c := range closing() {
		l := slices.Repeat([]int{c}, n)
		isLong(t, l, 0, -n, -1, nil)
		l = append(l, slices.Repeat([]int{10}, n+2)...)
		isLong(t, l, 2, 2, n, func(d int) int { return 2*n + d })
		for _, x := range [][2]int{{-1, 2*n - 1}, {-2, 2*n - 2}, {-n / 2, n + n/2}, {1 - n, n + 1}, {-n, n}, {-n - 1, n}} {
			if got := At(l, x[0]); got != x[1] {
				t.Errorf("at %d: %d, not %d", x[0], got, x[1])
			}
		}
	}
	isLong(t, make([]int, n), 0, 0, -1, nil)
}

// Lists that are a part of a greater one are read as they are, and left as they were.
func TestPart(t *testing.T) {
	whole := terms(t, "{ ( [ NAME ] ) } } {")
	kept := slices.Clone(whole)
	isTold(t, whole[1:6], 2, 0, []int{0, 1})
	isTold(t, whole[1:6:6], 2, 0, []int{0, 1})
	isTold(t, whole[1:5], 2, 1, []int{0, 1})
	isTold(t, whole[2:4], 1, 1, []int{0})
	isTold(t, whole[3:8], 0, -4, nil)
	isTold(t, whole[:1], 1, 1, []int{0})
	isTold(t, whole[:0], 0, 0, nil)
	isTold(t, whole[len(whole):], 0, 0, nil)
	isAt(t, whole[6:], -2, 2)
	isAt(t, whole[3:3], math.MinInt, -1)
	if !slices.Equal(whole, kept) {
		t.Errorf("%v was made %v", kept, whole)
	}
}

// What was asked before is not kept: a list that is changed is told anew (R3, R5).
func TestNotKept(t *testing.T) {
	l := terms(t, "{ NAME ( ) }")
	for range 3 {
		isTold(t, l, 2, 0, []int{0, 2})
		l[2], l[3] = api.TeName, api.TeName
		isTold(t, l, 1, 0, []int{0})
		l[4] = api.TeBrace
		isTold(t, l, 2, 2, []int{0, 4})
		clear(l)
		isTold(t, l, 0, 0, nil)
		copy(l, terms(t, "{ NAME ( ) }"))
	}
}

func TestExample(t *testing.T) {
	l := []int{api.TeBrace, api.TeOpen, api.TeClose, api.TeEnds}
	isTold(t, l, 2, 0, []int{0, 1})
	isAt(t, l, 1, 1)
	isAt(t, l, 2, -1)
}

// Calls at one time answer as those one behind the other: nothing is shared between them.
func TestAtOnce(t *testing.T) {
	done := make(chan bool)
	for _, x := range documents() {
		l, places := terms(t, x.words), numbers(t, x.places)
		go func() {
			defer func() { done <- true }()
			for range 20 {
				isTold(t, l, x.depth, x.ends, places)
				isTold(t, nil, 0, 0, nil)
			}
		}()
	}
	for range documents() {
		<-done
	}
}
