package pick

import (
	"math"
	"slices"
	"strconv"
	"strings"
	"testing"

	"copperplate/api"
	"copperplate/rule"
)

// What each rule can begin with, worked out by hand from the chapter's table of rules, apart
// from the program's own: the rule, its variable's number, and words of terminals. A rule
// without symbols has (nothing).
const wantedRows = `
0 | 0 | { %oper fragment %type STRING
1 | 1 | (nothing)
2 | 1 | { %oper fragment %type STRING
3 | 2 | {
4 | 2 | %oper
5 | 2 | fragment
6 | 2 | %type
7 | 2 | STRING
8 | 3 | (nothing)
9 | 3 | %name
10 | 4 | (nothing)
11 | 4 | (
12 | 5 | (nothing)
13 | 5 | $
14 | 6 | $
15 | 7 | (nothing)
16 | 7 | =
17 | 8 | %name
18 | 8 | [
19 | 9 | (nothing)
20 | 9 | !
21 | 10 | (nothing)
22 | 10 | @
23 | 11 | (nothing)
24 | 11 | (
25 | 12 | (nothing)
26 | 12 | %name
27 | 13 | %name
28 | 14 | $
29 | 14 | INT
30 | 14 | FLOAT
31 | 14 | STRING
32 | 14 | %name
33 | 14 | [
34 | 14 | {
35 | 15 | (nothing)
36 | 15 | $ INT FLOAT STRING %name [ {
37 | 16 | (nothing)
38 | 16 | $ INT FLOAT STRING %name [ {
39 | 17 | (nothing)
40 | 17 | %name
41 | 18 | {
42 | 19 | (nothing)
43 | 19 | %name ...
44 | 20 | %name
45 | 20 | ...
46 | 21 | (nothing)
47 | 21 | :
48 | 22 | (nothing)
49 | 22 | {
50 | 23 | on
51 | 23 | %free
52 | 23 | @
53 | 23 | {
54 | 24 | scalar
55 | 24 | type
56 | 24 | interface
57 | 24 | enum
58 | 24 | union
59 | 24 | input
60 | 25 | (nothing)
61 | 25 | implements
62 | 26 | (nothing)
63 | 26 | &
64 | 27 | (nothing)
65 | 27 | &
66 | 28 | {
67 | 29 | (nothing)
68 | 29 | STRING %name
69 | 30 | STRING %name
70 | 31 | (nothing)
71 | 31 | STRING
72 | 32 | (nothing)
73 | 32 | (
74 | 33 | (nothing)
75 | 33 | STRING %name
76 | 34 | STRING %name
77 | 35 | {
78 | 36 | (nothing)
79 | 36 | STRING %name
80 | 37 | STRING %name
81 | 38 | (nothing)
82 | 38 | =
83 | 39 | (nothing)
84 | 39 | |
85 | 40 | (nothing)
86 | 40 | |
87 | 41 | {
88 | 42 | (nothing)
89 | 42 | STRING %name
`

// Words of the terminals, from number 0 on; END is a name for the end, which no rule has.
const wantedTerms = "END ! $ & ( ) ... : = @ [ ] { | } INT FLOAT STRING name query mutation subscription fragment on type interface enum union input scalar implements"

// wantedTerminals are the numbers of the terminals of a word, of which a class has several.
func wantedTerminals(t *testing.T, word string) []int {
	t.Helper()
	switch word {
	case "%name":
		return []int{18, 19, 20, 21, 22, 23, 24, 25, 26, 27, 28, 29, 30}
	case "%free":
		return []int{18, 19, 20, 21, 22, 24, 25, 26, 27, 28, 29, 30}
	case "%oper":
		return []int{19, 20, 21}
	case "%type":
		return []int{24, 25, 26, 27, 28, 29}
	}
	te := slices.Index(strings.Fields(wantedTerms), word)
	if te <= 0 {
		t.Fatalf("no word: %q", word)
	}
	return []int{te}
}

// row is a rule: its variable, whether it is without symbols, and what it can begin with.
type row struct {
	v     int
	empty bool
	terms []int
}

func wantedRules(t *testing.T) []row {
	t.Helper()
	var l []row
	for line := range strings.SplitSeq(strings.TrimSpace(wantedRows), "\n") {
		cells := strings.SplitN(line, " | ", 3)
		if len(cells) != 3 || cells[0] != strconv.Itoa(len(l)) {
			t.Fatal(line)
		}
		v, err := strconv.Atoi(cells[1])
		if err != nil {
			t.Fatal(line)
		}
		r := row{v: v, empty: cells[2] == "(nothing)"}
		if !r.empty {
			for word := range strings.FieldsSeq(cells[2]) {
				r.terms = append(r.terms, wantedTerminals(t, word)...)
			}
		}
		l = append(l, r)
	}
	if len(l) != 90 {
		t.Fatalf("%d rows", len(l))
	}
	return l
}

// wantedPick is the least rule of v that can begin with te, else the one without symbols.
func wantedPick(rows []row, v, te int) int {
	if i := slices.IndexFunc(rows, func(r row) bool { return r.v == v && slices.Contains(r.terms, te) }); i >= 0 {
		return i
	}
	return wantedEmpty(rows, v)
}

func wantedEmpty(rows []row, v int) int {
	return slices.IndexFunc(rows, func(r row) bool { return r.v == v && r.empty })
}

func wantedFirst(rows []row, v, te int) bool {
	return slices.ContainsFunc(rows, func(r row) bool { return r.v == v && slices.Contains(r.terms, te) })
}

// outside are numbers below 0, and n and above it, far ones among them. Those that differ
// from a number within by a power of 2 would be within, if they were cut short.
func outside(n int) []int {
	return []int{math.MinInt, math.MinInt + 1, math.MinInt32, -1 << 32, -1<<32 + 2, -256, -254, -128, -n, -2, -1, n, n + 1, 2 * n, 128, 130, 256, 258, 999, 1 << 16, math.MaxInt32, 1 << 32, 1<<32 + 2, 1<<62 + 2, math.MaxInt - 1, math.MaxInt}
}

// anyTerminals are all terminals, and numbers of none.
func anyTerminals() []int {
	l := outside(api.Terminals)
	for te := range api.Terminals {
		l = append(l, te)
	}
	return l
}

func term(n int) api.Sym { return api.Sym{Kind: api.SyTerm, N: n} }

func vari(n int) api.Sym { return api.Sym{Kind: api.SyVar, N: n} }

func class(n int) api.Sym { return api.Sym{Kind: api.SyClass, N: n} }

func mark(n int) api.Sym { return api.Sym{Kind: api.SyMark, N: n} }

func isFits(t *testing.T, s api.Sym, te int, want bool) {
	t.Helper()
	if got := Fits(s, te); got != want {
		t.Errorf("Fits(%v, %d) = %v, not %v", s, te, got, want)
	}
}

func isFirst(t *testing.T, v, te int, want bool) {
	t.Helper()
	if got := First(v, te); got != want {
		t.Errorf("First(%d, %d) = %v, not %v", v, te, got, want)
	}
}

func isBegins(t *testing.T, i, te int, want bool) {
	t.Helper()
	if got := Begins(i, te); got != want {
		t.Errorf("Begins(%d, %d) = %v, not %v", i, te, got, want)
	}
}

func isEmpty(t *testing.T, v, want int) {
	t.Helper()
	if got := Empty(v); got != want {
		t.Errorf("Empty(%d) = %d, not %d", v, got, want)
	}
}

func isPick(t *testing.T, v, te, want int) {
	t.Helper()
	if got := Pick(v, te); got != want {
		t.Errorf("Pick(%d, %d) = %d, not %d", v, te, got, want)
	}
}

// beginsWith holds a rule against the terminals that it can begin with: with all others, and
// with numbers of none, it can't.
func beginsWith(t *testing.T, i int, terms ...int) {
	t.Helper()
	for _, te := range anyTerminals() {
		isBegins(t, i, te, slices.Contains(terms, te))
	}
}

func names() []int {
	return []int{api.TeName, api.TeQuery, api.TeMutation, api.TeSubscription, api.TeFragment, api.TeOn, api.TeType, api.TeInterface, api.TeEnum, api.TeUnion, api.TeInput, api.TeScalar, api.TeImplements}
}

func TestP12_1Terminals(t *testing.T) {
	for n := range api.Terminals {
		for te := range api.Terminals {
			isFits(t, term(n), te, n == te && te != 0)
		}
	}
	isFits(t, term(api.TeBang), api.TeBang, true)
	isFits(t, term(api.TeBang), api.TeAt, false)
	isFits(t, term(api.TeImplements), api.TeImplements, true)
	isFits(t, term(api.TeName), api.TeOn, false)
	isFits(t, term(api.TeOn), api.TeName, false)
}

// With TeEnd no symbol fits, also not that of TeEnd.
func TestP12_1End(t *testing.T) {
	isFits(t, term(api.TeEnd), api.TeEnd, false)
	for kind := -1; kind <= api.SyKinds; kind++ {
		for n := -1; n <= 50; n++ {
			isFits(t, api.Sym{Kind: kind, N: n}, api.TeEnd, false)
		}
	}
	for te := range api.Terminals {
		isFits(t, term(api.TeEnd), te, false)
	}
}

func TestP12_1Classes(t *testing.T) {
	for te := range api.Terminals {
		isFits(t, class(api.ClName), te, te >= 18)
		isFits(t, class(api.ClFree), te, te >= 18 && te != 23)
		isFits(t, class(api.ClOper), te, te == 19 || te == 20 || te == 21)
	}
	isFits(t, class(api.ClName), api.TeOn, true)
	isFits(t, class(api.ClFree), api.TeOn, false)
	isFits(t, class(api.ClFree), api.TeName, true)
	isFits(t, class(api.ClOper), api.TeQuery, true)
	isFits(t, class(api.ClOper), api.TeMutation, true)
	isFits(t, class(api.ClOper), api.TeSubscription, true)
	isFits(t, class(api.ClOper), api.TeName, false)
	isFits(t, class(api.ClOper), api.TeFragment, false)
}

func TestP12_1Variables(t *testing.T) {
	rows := wantedRules(t)
	for v := range 43 {
		for _, te := range anyTerminals() {
			isFits(t, vari(v), te, wantedFirst(rows, v, te))
		}
	}
	isFits(t, vari(30), api.TeString, true)
	isFits(t, vari(30), api.TeName, true)
	isFits(t, vari(30), api.TeInt, false)
	isFits(t, vari(10), api.TeAt, true)
	isFits(t, vari(10), api.TeBrace, false)
	isFits(t, vari(2), api.TeScalar, true)
	isFits(t, vari(2), api.TeOn, false)
}

// A mark fits nothing, also where its number is that of the terminal, or of what fits it.
func TestP12_1Marks(t *testing.T) {
	for _, n := range append(outside(api.Marks), 0, 1, 2, 3, 4, 5, 6, 7, 8, 9, 18, 30) {
		for _, te := range anyTerminals() {
			isFits(t, mark(n), te, false)
		}
		isFits(t, mark(n), n, false)
	}
}

func TestP12_1OtherKinds(t *testing.T) {
	for _, kind := range outside(api.SyKinds) {
		for n := -1; n <= 50; n++ {
			for te := -1; te <= api.Terminals; te++ {
				isFits(t, api.Sym{Kind: kind, N: n}, te, false)
			}
			isFits(t, api.Sym{Kind: kind, N: n}, n, false)
		}
	}
}

// Symbols whose number is no variable's or no class's fit nothing; of a terminal's symbol the
// chapter asks no more than that its number is that, and not TeEnd.
func TestP12_1WrongNumbers(t *testing.T) {
	for _, te := range anyTerminals() {
		for _, n := range outside(43) {
			isFits(t, vari(n), te, false)
		}
		for _, n := range outside(api.Classes) {
			isFits(t, class(n), te, false)
		}
		for _, n := range outside(api.Terminals) {
			isFits(t, term(n), te, n == te)
		}
	}
}

func TestP12_1WrongTerminals(t *testing.T) {
	for _, te := range outside(api.Terminals) {
		for n := range api.Terminals {
			isFits(t, term(n), te, false)
		}
		for v := range 43 {
			isFits(t, vari(v), te, false)
		}
		for n := range api.Classes {
			isFits(t, class(n), te, false)
		}
	}
}

func TestP12_1Empty(t *testing.T) {
	rows := wantedRules(t)
	for v := range 43 {
		isEmpty(t, v, wantedEmpty(rows, v))
	}
	for _, x := range []struct{ v, rule int }{
		{0, -1}, {1, 1}, {2, -1}, {3, 8}, {6, -1}, {8, -1}, {9, 19}, {10, 21}, {14, -1}, {15, 35}, {17, 39}, {18, -1}, {21, 46}, {22, 48}, {30, -1}, {31, 70}, {41, -1}, {42, 88},
	} {
		isEmpty(t, x.v, x.rule)
	}
	for _, v := range outside(43) {
		isEmpty(t, v, -1)
	}
}

func TestP12_2EachRule(t *testing.T) {
	for i, r := range wantedRules(t) {
		beginsWith(t, i, r.terms...)
	}
}

func TestP12_2EachVariable(t *testing.T) {
	rows := wantedRules(t)
	for v := range 43 {
		for _, te := range anyTerminals() {
			isFirst(t, v, te, wantedFirst(rows, v, te))
		}
	}
	isFirst(t, 0, api.TeString, true)
	isFirst(t, 0, api.TeName, false)
	isFirst(t, 1, api.TeBrace, true)
	isFirst(t, 1, api.TeEnd, false)
}

// Marks ahead of a rule's first symbol count for nothing, whatever their numbers are: of rule
// 11 the first one is MkOpen, and TeDots has that number.
func TestP12_2BehindMarks(t *testing.T) {
	beginsWith(t, 11, api.TeOpen)
	beginsWith(t, 24, api.TeOpen)
	beginsWith(t, 33, api.TeLeft)
	beginsWith(t, 34, api.TeBrace)
	beginsWith(t, 36, append(names(), api.TeDollar, api.TeInt, api.TeFloat, api.TeString, api.TeLeft, api.TeBrace)...)
	beginsWith(t, 43, append(names(), api.TeDots)...)
	beginsWith(t, 2, api.TeBrace, api.TeQuery, api.TeMutation, api.TeSubscription, api.TeFragment, api.TeType, api.TeInterface, api.TeEnum, api.TeUnion, api.TeInput, api.TeScalar, api.TeString)
	beginsWith(t, 40, names()...)
}

// Where a variable with a rule without symbols is the first one, the next one counts too,
// and none behind that.
func TestP12_2BehindWhatMayBeNothing(t *testing.T) {
	for _, i := range []int{69, 76, 80} {
		beginsWith(t, i, append(names(), api.TeString)...)
	}
	isBegins(t, 69, api.TeOpen, false)
	isBegins(t, 69, api.TeColon, false)
	isBegins(t, 76, api.TeColon, false)
	isBegins(t, 80, api.TeAt, false)
	for _, v := range []int{29, 30, 33, 34, 36, 37, 42} {
		isFirst(t, v, api.TeString, true)
		isFirst(t, v, api.TeName, true)
		isFirst(t, v, api.TeOn, true)
		isFirst(t, v, api.TeAt, false)
		isFirst(t, v, api.TeEnds, false)
	}
}

// Behind any other first symbol nothing counts, also not behind a variable without such a rule.
func TestP12_2BehindOthers(t *testing.T) {
	beginsWith(t, 0, api.TeBrace, api.TeQuery, api.TeMutation, api.TeSubscription, api.TeFragment, api.TeType, api.TeInterface, api.TeEnum, api.TeUnion, api.TeInput, api.TeScalar, api.TeString)
	beginsWith(t, 3, api.TeBrace)
	beginsWith(t, 4, api.TeQuery, api.TeMutation, api.TeSubscription)
	beginsWith(t, 6, api.TeScalar, api.TeType, api.TeInterface, api.TeEnum, api.TeUnion, api.TeInput)
	beginsWith(t, 7, api.TeString)
	beginsWith(t, 17, names()...)
	beginsWith(t, 18, api.TeLeft)
	beginsWith(t, 44, names()...)
	beginsWith(t, 45, api.TeDots)
	isBegins(t, 5, api.TeOn, false)
	isBegins(t, 13, api.TeName, false)
	isBegins(t, 38, api.TeRight, false)
	isBegins(t, 41, api.TeName, false)
	isBegins(t, 50, api.TeName, false)
	isBegins(t, 51, api.TeOn, false)
}

func TestP12_2WithoutSymbols(t *testing.T) {
	for _, i := range []int{1, 8, 10, 12, 15, 19, 21, 23, 25, 35, 37, 39, 42, 46, 48, 60, 62, 64, 67, 70, 72, 74, 78, 81, 83, 85, 88} {
		beginsWith(t, i)
	}
}

func TestP12_2Wrong(t *testing.T) {
	for _, te := range anyTerminals() {
		for _, v := range outside(43) {
			isFirst(t, v, te, false)
		}
		for _, i := range outside(90) {
			isBegins(t, i, te, false)
		}
	}
	for i := 90; i < 300; i++ {
		beginsWith(t, i)
		beginsWith(t, -i)
	}
}

// First, Begins and Fits tell the same, each by its own arguments.
func TestP12_2Alike(t *testing.T) {
	for v := -1; v <= 43; v++ {
		for _, te := range anyTerminals() {
			one := slices.ContainsFunc(rule.Of(v), func(i int) bool { return Begins(i, te) })
			isFirst(t, v, te, one)
			isFits(t, vari(v), te, one)
		}
	}
}

// The chapter's words by another way: what each rule can begin with grows from nothing, round
// by round, till no round adds anything.
func TestP12_2Grown(t *testing.T) {
	begins := make([][]bool, rule.Count())
	for i := range begins {
		begins[i] = make([]bool, api.Terminals)
	}
	fits := func(s api.Sym, te int) bool {
		if s.Kind != api.SyVar {
			return Fits(s, te)
		}
		return slices.ContainsFunc(rule.Of(s.N), func(i int) bool { return begins[i][te] })
	}
	for grown := true; grown; {
		grown = false
		for i := range begins {
			r, _ := rule.Get(i)
			for _, s := range rule.Plain(r.Syms) {
				for te := range begins[i] {
					if !begins[i][te] && fits(s, te) {
						begins[i][te], grown = true, true
					}
				}
				if s.Kind != api.SyVar || Empty(s.N) == -1 {
					break
				}
			}
		}
	}
	for i := range begins {
		for te := range begins[i] {
			isBegins(t, i, te, begins[i][te])
		}
	}
}

func TestP12_3EachVariable(t *testing.T) {
	rows := wantedRules(t)
	for v := range 43 {
		for _, te := range anyTerminals() {
			isPick(t, v, te, wantedPick(rows, v, te))
		}
	}
}

func TestP12_3Some(t *testing.T) {
	for _, x := range []struct{ v, te, rule int }{
		{0, api.TeBrace, 0}, {0, api.TeName, -1}, {0, api.TeEnd, -1},
		{1, api.TeEnd, 1}, {1, api.TeBrace, 2}, {1, api.TeName, 1},
		{2, api.TeBrace, 3}, {2, api.TeQuery, 4}, {2, api.TeMutation, 4}, {2, api.TeSubscription, 4}, {2, api.TeFragment, 5}, {2, api.TeInput, 6}, {2, api.TeString, 7}, {2, api.TeOn, -1}, {2, api.TeImplements, -1},
		{8, api.TeOn, 17}, {8, api.TeLeft, 18}, {8, api.TeBang, -1},
		{10, api.TeAt, 22}, {10, api.TeBrace, 21}, {10, api.TeEnd, 21},
		{14, api.TeDollar, 28}, {14, api.TeInt, 29}, {14, api.TeFloat, 30}, {14, api.TeString, 31}, {14, api.TeName, 32}, {14, api.TeLeft, 33}, {14, api.TeBrace, 34}, {14, api.TeRight, -1},
		{15, api.TeRight, 35}, {15, api.TeInt, 36}, {17, api.TeEnds, 39}, {17, api.TeName, 40},
		{20, api.TeOn, 44}, {20, api.TeDots, 45}, {20, api.TeEnds, -1},
		{23, api.TeOn, 50}, {23, api.TeName, 51}, {23, api.TeAt, 52}, {23, api.TeBrace, 53}, {23, api.TeEnds, -1},
		{24, api.TeScalar, 54}, {24, api.TeInput, 59}, {24, api.TeName, -1},
		{30, api.TeString, 69}, {30, api.TeOn, 69}, {30, api.TeEnds, -1},
		{31, api.TeString, 71}, {31, api.TeName, 70},
		{42, api.TeString, 89}, {42, api.TeName, 89}, {42, api.TeEnds, 88},
	} {
		isPick(t, x.v, x.te, x.rule)
	}
}

// Where none of its rules can begin with it, a variable's rule without symbols is told, also
// for TeEnd and what is no terminal.
func TestP12_3None(t *testing.T) {
	rows := wantedRules(t)
	for _, te := range append(outside(api.Terminals), api.TeEnd, api.TeClose) {
		for v := range 43 {
			isPick(t, v, te, wantedEmpty(rows, v))
		}
	}
}

func TestP12_3NoVariable(t *testing.T) {
	for _, v := range outside(43) {
		for _, te := range anyTerminals() {
			isPick(t, v, te, -1)
		}
	}
}

func TestP12_4One(t *testing.T) {
	for v := -1; v <= 43; v++ {
		for _, te := range anyTerminals() {
			var can []int
			for _, i := range rule.Of(v) {
				if Begins(i, te) {
					can = append(can, i)
				}
			}
			switch len(can) {
			case 0:
				isPick(t, v, te, Empty(v))
			case 1:
				isPick(t, v, te, can[0])
			default:
				t.Errorf("of variable %d the rules %v can begin with %d", v, can, te)
			}
		}
	}
}

// What is picked is a rule of that variable: one that can begin with the terminal, or the one
// without symbols.
func TestP12_4Picked(t *testing.T) {
	for v := range 43 {
		for te := -1; te <= api.Terminals; te++ {
			i := Pick(v, te)
			if i == -1 {
				if First(v, te) || Empty(v) != -1 {
					t.Errorf("Pick(%d, %d) = -1", v, te)
				}
				continue
			}
			r, is := rule.Get(i)
			if !is || r.Var != v || Begins(i, te) == (len(r.Syms) == 0) {
				t.Errorf("Pick(%d, %d) = %d", v, te, i)
			}
		}
	}
}

func TestExample(t *testing.T) {
	isPick(t, 2, api.TeQuery, 4)
	isPick(t, 10, api.TeBrace, 21)
	isEmpty(t, 10, 21)
}

// TestSameEachTime asks again behind other questions (R5).
func TestSameEachTime(t *testing.T) {
	rows := wantedRules(t)
	for range 3 {
		for v := 43; v >= -1; v-- {
			for te := api.Terminals; te >= -1; te-- {
				isPick(t, v, te, wantedPick(rows, v, te))
				isFirst(t, v, te, wantedFirst(rows, v, te))
			}
			isEmpty(t, v, wantedEmpty(rows, v))
		}
	}
}
