package rule

import (
	"math"
	"slices"
	"strconv"
	"strings"
	"testing"

	"copperplate/api"
)

// The chapter's words once more, apart from the program's own: what a word stands for is
// told by its number, as the document gives it.

const wantedVars = "Doc Defs Def OName OVars Vars Var ODef Ty OBang Dirs OArgs Args Arg Val List Vals Obj Sel Items Item OAlias OSel Spread Type OImpl OAmp Impls Fields FieldMore Field ODesc OParams Params Input EnumSet EnumMore EnumV OMembers OBar Members InputSet InputMore"

const wantedRules = `
0 | Doc | Def Defs
1 | Defs | (nothing)
2 | Defs | HARD HARD Def Defs
3 | Def | Sel
4 | Def | %oper OName OVars Dirs SP Sel
5 | Def | fragment SP %free SP on SP %name Dirs SP Sel
6 | Def | Type
7 | Def | STRING HARD Type
8 | OName | (nothing)
9 | OName | SP %name
10 | OVars | (nothing)
11 | OVars | OPEN ( IN SOFT Var Vars OUT SOFT ) CLOSE
12 | Vars | (nothing)
13 | Vars | COMMA Var Vars
14 | Var | $ %name : SP Ty ODef Dirs
15 | ODef | (nothing)
16 | ODef | SP = SP Val
17 | Ty | %name OBang
18 | Ty | [ Ty ] OBang
19 | OBang | (nothing)
20 | OBang | !
21 | Dirs | (nothing)
22 | Dirs | SP @ %name OArgs Dirs
23 | OArgs | (nothing)
24 | OArgs | OPEN ( IN SOFT Arg Args OUT SOFT ) CLOSE
25 | Args | (nothing)
26 | Args | COMMA Arg Args
27 | Arg | %name : SP Val
28 | Val | $ %name
29 | Val | INT
30 | Val | FLOAT
31 | Val | STRING
32 | Val | %name
33 | Val | OPEN [ List ] CLOSE
34 | Val | OPEN { Obj } CLOSE
35 | List | (nothing)
36 | List | IN SOFT Val Vals OUT SOFT
37 | Vals | (nothing)
38 | Vals | COMMA Val Vals
39 | Obj | (nothing)
40 | Obj | IN LINE Arg Args OUT LINE
41 | Sel | { IN HARD Item Items OUT HARD }
42 | Items | (nothing)
43 | Items | HARD Item Items
44 | Item | %name OAlias OArgs Dirs OSel
45 | Item | ... Spread
46 | OAlias | (nothing)
47 | OAlias | : SP %name
48 | OSel | (nothing)
49 | OSel | SP Sel
50 | Spread | SP on SP %name Dirs SP Sel
51 | Spread | %free Dirs
52 | Spread | SP @ %name OArgs Dirs SP Sel
53 | Spread | SP Sel
54 | Type | scalar SP %name Dirs
55 | Type | type SP %name OImpl Dirs SP Fields
56 | Type | interface SP %name OImpl Dirs SP Fields
57 | Type | enum SP %name Dirs SP EnumSet
58 | Type | union SP %name Dirs OMembers
59 | Type | input SP %name Dirs SP InputSet
60 | OImpl | (nothing)
61 | OImpl | SP implements SP OAmp %name Impls
62 | OAmp | (nothing)
63 | OAmp | & SP
64 | Impls | (nothing)
65 | Impls | SP & SP %name Impls
66 | Fields | { IN HARD Field FieldMore OUT HARD }
67 | FieldMore | (nothing)
68 | FieldMore | HARD Field FieldMore
69 | Field | ODesc %name OParams : SP Ty Dirs
70 | ODesc | (nothing)
71 | ODesc | STRING HARD
72 | OParams | (nothing)
73 | OParams | OPEN ( IN SOFT Input Params OUT SOFT ) CLOSE
74 | Params | (nothing)
75 | Params | COMMA Input Params
76 | Input | ODesc %name : SP Ty ODef Dirs
77 | EnumSet | { IN HARD EnumV EnumMore OUT HARD }
78 | EnumMore | (nothing)
79 | EnumMore | HARD EnumV EnumMore
80 | EnumV | ODesc %name Dirs
81 | OMembers | (nothing)
82 | OMembers | SP = SP OBar %name Members
83 | OBar | (nothing)
84 | OBar | BAR SP
85 | Members | (nothing)
86 | Members | SP BAR SP %name Members
87 | InputSet | { IN HARD Input InputMore OUT HARD }
88 | InputMore | (nothing)
89 | InputMore | HARD Input InputMore
`

// Words of the kinds but variables, from number 0 on; those of a dash are in no rule.
const (
	wantedTerms   = "- ! $ & ( ) ... : = @ [ ] { BAR } INT FLOAT STRING - - - - fragment on type interface enum union input scalar implements"
	wantedClasses = "%name %free %oper"
	wantedMarks   = "- SP LINE SOFT COMMA HARD OPEN CLOSE IN OUT"
)

func term(n int) api.Sym { return api.Sym{Kind: 0, N: n} }

func vari(n int) api.Sym { return api.Sym{Kind: 1, N: n} }

func class(n int) api.Sym { return api.Sym{Kind: 2, N: n} }

func mark(n int) api.Sym { return api.Sym{Kind: 3, N: n} }

// wantedSym is the symbol of a word of the chapter's table.
func wantedSym(t *testing.T, word string) api.Sym {
	t.Helper()
	for kind, words := range []string{wantedTerms, wantedVars, wantedClasses, wantedMarks} {
		if n := slices.Index(strings.Fields(words), word); n >= 0 {
			return api.Sym{Kind: kind, N: n}
		}
	}
	t.Fatalf("no word: %q", word)
	return api.Sym{}
}

// wanted are the rules of the chapter's table.
func wanted(t *testing.T) []api.Rule {
	t.Helper()
	var l []api.Rule
	for row := range strings.SplitSeq(strings.TrimSpace(wantedRules), "\n") {
		cells := strings.Split(row, " | ")
		if len(cells) != 3 || cells[0] != strconv.Itoa(len(l)) {
			t.Fatal(row)
		}
		r := api.Rule{Var: wantedSym(t, cells[1]).N}
		if cells[2] != "(nothing)" {
			for word := range strings.FieldsSeq(cells[2]) {
				r.Syms = append(r.Syms, wantedSym(t, word))
			}
		}
		l = append(l, r)
	}
	if len(l) != 90 {
		t.Fatalf("%d rows", len(l))
	}
	return l
}

func isRule(t *testing.T, i, v int, syms ...api.Sym) {
	t.Helper()
	r, is := Get(i)
	if !is || r.Var != v || !slices.Equal(r.Syms, syms) {
		t.Errorf("Get(%d) = %v, %v, not %d, %v", i, r, is, v, syms)
	}
}

func isNone(t *testing.T, i int) {
	t.Helper()
	r, is := Get(i)
	if is || r.Var != 0 || len(r.Syms) != 0 {
		t.Errorf("Get(%d) = %v, %v", i, r, is)
	}
}

func isOf(t *testing.T, v int, want ...int) {
	t.Helper()
	if got := Of(v); !slices.Equal(got, want) {
		t.Errorf("Of(%d) = %v, not %v", v, got, want)
	}
}

func isPlain(t *testing.T, l []api.Sym, want ...api.Sym) {
	t.Helper()
	kept := slices.Clone(l)
	if got := Plain(l); !slices.Equal(got, want) {
		t.Errorf("Plain(%v) = %v, not %v", l, got, want)
	}
	if !slices.Equal(l, kept) {
		t.Errorf("Plain changed %v to %v", kept, l)
	}
}

// outside are numbers below 0, and n and above it, far ones among them. Those that differ
// from a number within by a power of 2 would be within, if they were cut short.
func outside(n int) []int {
	return []int{math.MinInt, math.MinInt + 1, math.MinInt32, -1 << 32, -256, -128, -n, -2, -1, n, n + 1, 2 * n, 128, 256, 257, 1 << 16, math.MaxInt32, 1 << 32, 1<<32 + 1, 1<<62 + 1, math.MaxInt - 1, math.MaxInt}
}

func TestP11_1Counts(t *testing.T) {
	if n := Count(); n != 90 {
		t.Errorf("Count() = %d", n)
	}
	if n := Vars(); n != 43 {
		t.Errorf("Vars() = %d", n)
	}
}

func TestP11_1EachRule(t *testing.T) {
	for i, r := range wanted(t) {
		isRule(t, i, r.Var, r.Syms...)
	}
}

// Some rules by api's own constants, at each kind of edge: the first and the last one, one of
// a single symbol, the longest ones, and those with a symbol of each kind.
func TestP11_1SomeRules(t *testing.T) {
	isRule(t, 0, 0, vari(2), vari(1))
	isRule(t, 2, 1, mark(api.MkHard), mark(api.MkHard), vari(2), vari(1))
	isRule(t, 4, 2, class(api.ClOper), vari(3), vari(4), vari(10), mark(api.MkSpace), vari(18))
	isRule(t, 5, 2, term(api.TeFragment), mark(api.MkSpace), class(api.ClFree), mark(api.MkSpace), term(api.TeOn), mark(api.MkSpace), class(api.ClName), vari(10), mark(api.MkSpace), vari(18))
	isRule(t, 7, 2, term(api.TeString), mark(api.MkHard), vari(24))
	isRule(t, 11, 4, mark(api.MkOpen), term(api.TeOpen), mark(api.MkIn), mark(api.MkSoft), vari(6), vari(5), mark(api.MkOut), mark(api.MkSoft), term(api.TeClose), mark(api.MkClose))
	isRule(t, 13, 5, mark(api.MkComma), vari(6), vari(5))
	isRule(t, 14, 6, term(api.TeDollar), class(api.ClName), term(api.TeColon), mark(api.MkSpace), vari(8), vari(7), vari(10))
	isRule(t, 18, 8, term(api.TeLeft), vari(8), term(api.TeRight), vari(9))
	isRule(t, 20, 9, term(api.TeBang))
	isRule(t, 29, 14, term(api.TeInt))
	isRule(t, 30, 14, term(api.TeFloat))
	isRule(t, 31, 14, term(api.TeString))
	isRule(t, 40, 17, mark(api.MkIn), mark(api.MkLine), vari(13), vari(12), mark(api.MkOut), mark(api.MkLine))
	isRule(t, 45, 20, term(api.TeDots), vari(23))
	isRule(t, 63, 26, term(api.TeAmp), mark(api.MkSpace))
	isRule(t, 84, 39, term(api.TeBar), mark(api.MkSpace))
	isRule(t, 89, 42, mark(api.MkHard), vari(34), vari(42))
}

func TestP11_1RulesWithoutSymbols(t *testing.T) {
	without := []int{1, 8, 10, 12, 15, 19, 21, 23, 25, 35, 37, 39, 42, 46, 48, 60, 62, 64, 67, 70, 72, 74, 78, 81, 83, 85, 88}
	var got []int
	for i := range 90 {
		if r, is := Get(i); is && len(r.Syms) == 0 {
			got = append(got, i)
		}
	}
	if !slices.Equal(got, without) {
		t.Errorf("%v, not %v", got, without)
	}
	isRule(t, 1, 1)
	isRule(t, 88, 42)
}

func TestP11_1NoRule(t *testing.T) {
	for _, i := range outside(90) {
		isNone(t, i)
	}
	for i := 90; i < 1000; i++ {
		isNone(t, i)
		isNone(t, -i)
	}
}

func TestP11_1EachVariable(t *testing.T) {
	rules := wanted(t)
	for v := range 43 {
		var want []int
		for i, r := range rules {
			if r.Var == v {
				want = append(want, i)
			}
		}
		isOf(t, v, want...)
	}
}

func TestP11_1SomeVariables(t *testing.T) {
	isOf(t, 0, 0)                           // Doc
	isOf(t, 1, 1, 2)                        // Defs
	isOf(t, 2, 3, 4, 5, 6, 7)               // Def
	isOf(t, 6, 14)                          // Var
	isOf(t, 14, 28, 29, 30, 31, 32, 33, 34) // Val
	isOf(t, 18, 41)                         // Sel
	isOf(t, 23, 50, 51, 52, 53)             // Spread
	isOf(t, 24, 54, 55, 56, 57, 58, 59)     // Type
	isOf(t, 41, 87)                         // InputSet
	isOf(t, 42, 88, 89)                     // InputMore
}

func TestP11_1NoVariable(t *testing.T) {
	for _, v := range outside(43) {
		isOf(t, v)
	}
	for v := 43; v < 1000; v++ {
		isOf(t, v)
		isOf(t, -v)
	}
}

// What Get and Of answer is the caller's own (R3).
func TestP11_1OwnLists(t *testing.T) {
	rules := wanted(t)
	for range 2 {
		for i, want := range rules {
			r, _ := Get(i)
			other, _ := Get(i)
			for k := range r.Syms {
				r.Syms[k] = mark(-1)
			}
			_ = append(r.Syms, mark(-2), mark(-3))
			if !slices.Equal(other.Syms, want.Syms) {
				t.Errorf("Get(%d) shares: %v", i, other)
			}
			isRule(t, i, want.Var, want.Syms...)
		}
		for v := range 43 {
			l, other := Of(v), Of(v)
			want := slices.Clone(l)
			for k := range l {
				l[k] = -1
			}
			_ = append(l, -2, -3)
			if !slices.Equal(other, want) {
				t.Errorf("Of(%d) shares: %v", v, other)
			}
			isOf(t, v, want...)
		}
	}
}

func TestP11_2Places(t *testing.T) {
	a, b, c := term(2), vari(3), class(1)
	m := mark(4)
	for _, x := range []struct{ l, want []api.Sym }{
		{nil, nil},
		{[]api.Sym{}, nil},
		{[]api.Sym{a}, []api.Sym{a}},
		{[]api.Sym{m}, nil},
		{[]api.Sym{m, m, m}, nil},
		{[]api.Sym{a, b, c}, []api.Sym{a, b, c}},
		{[]api.Sym{c, b, a}, []api.Sym{c, b, a}},
		{[]api.Sym{a, a, b, a}, []api.Sym{a, a, b, a}},
		{[]api.Sym{m, a, b}, []api.Sym{a, b}},
		{[]api.Sym{a, m, b}, []api.Sym{a, b}},
		{[]api.Sym{a, b, m}, []api.Sym{a, b}},
		{[]api.Sym{m, a, m, b, m}, []api.Sym{a, b}},
		{[]api.Sym{m, m, a, m, m, m, b, c, m, m}, []api.Sym{a, b, c}},
		{[]api.Sym{mark(1), term(2), vari(3), mark(4), class(1)}, []api.Sym{term(2), vari(3), class(1)}},
		{[]api.Sym{class(0), mark(0), term(0), mark(9), vari(0), mark(3), class(0)}, []api.Sym{class(0), term(0), vari(0), class(0)}},
		{[]api.Sym{{}}, []api.Sym{{}}},
	} {
		isPlain(t, x.l, x.want...)
	}
}

// Whatever its number is, a symbol is a mark by its kind alone.
func TestP11_2Kinds(t *testing.T) {
	numbers := append(outside(43), 0, 1, 2, 3, 4, 8, 9, 10, 11, 30, 31, 42)
	kinds := append(outside(4), 0, 1, 2)
	for _, n := range numbers {
		isPlain(t, []api.Sym{mark(n)})
		isPlain(t, []api.Sym{mark(n), term(n), mark(n)}, term(n))
		for _, kind := range kinds {
			s := api.Sym{Kind: kind, N: n}
			isPlain(t, []api.Sym{s}, s)
			isPlain(t, []api.Sym{mark(n), s, mark(-n), s}, s, s)
		}
	}
}

// All lists of up to five symbols, of two marks and two others.
func TestP11_2AllShort(t *testing.T) {
	of := []api.Sym{mark(0), term(3), mark(9), vari(3)}
	for long := range 6 {
		for code := range 1 << (2 * long) {
			var l, want []api.Sym
			for k := range long {
				s := of[code>>(2*k)&3]
				l = append(l, s)
				if s.Kind != 3 {
					want = append(want, s)
				}
			}
			isPlain(t, l, want...)
		}
	}
}

func TestP11_2Rules(t *testing.T) {
	for i, r := range wanted(t) {
		var want []api.Sym
		for _, s := range r.Syms {
			if s.Kind != 3 {
				want = append(want, s)
			}
		}
		got, _ := Get(i)
		isPlain(t, got.Syms, want...)
	}
	r, _ := Get(41)
	isPlain(t, r.Syms, term(api.TeBrace), vari(20), vari(19), term(api.TeEnds))
	r, _ = Get(2)
	isPlain(t, r.Syms, vari(2), vari(1))
	r, _ = Get(36)
	isPlain(t, r.Syms, vari(14), vari(16))
	r, _ = Get(1)
	isPlain(t, r.Syms)
}

func TestP11_2Many(t *testing.T) {
	const n = 1 << 18
	l, want := make([]api.Sym, 0, n), make([]api.Sym, 0, n)
	for i := range n {
		s := api.Sym{Kind: i % 5, N: i}
		l = append(l, s)
		if s.Kind != 3 {
			want = append(want, s)
		}
	}
	if !slices.Equal(Plain(l), want) {
		t.Error("of many")
	}
}

// What Plain answers is the caller's own, with marks in what is handed in or without (R3).
func TestP11_2OwnLists(t *testing.T) {
	for _, l := range [][]api.Sym{
		{term(1), vari(2), class(1)},
		{mark(1), term(1), vari(2), mark(2), class(1), mark(3)},
	} {
		first, second := Plain(l), Plain(l)
		kept := slices.Clone(l)
		for k := range first {
			first[k] = mark(-1)
		}
		_ = append(first, mark(-2), mark(-3), mark(-4))
		if !slices.Equal(l, kept) {
			t.Errorf("%v became %v", kept, l)
		}
		clear(l)
		if want := []api.Sym{term(1), vari(2), class(1)}; !slices.Equal(second, want) {
			t.Errorf("shared: %v", second)
		}
		isPlain(t, kept, term(1), vari(2), class(1))
	}
	// Room behind a list's last element is the caller's own, too.
	all := []api.Sym{term(1), mark(1), vari(2), class(1)}
	isPlain(t, all[:1:4], term(1))
	_ = append(Plain(all[:1:4]), mark(9))
	if all[1] != mark(1) {
		t.Error(all)
	}
}

func TestP11_3EachVariableHasARule(t *testing.T) {
	next := 0
	for v := range Vars() {
		l := Of(v)
		if len(l) == 0 {
			t.Errorf("variable %d has no rule", v)
		}
		for _, i := range l {
			if r, is := Get(i); !is || r.Var != v || i != next {
				t.Errorf("variable %d: rule %d: %v, %v", v, i, r, is)
			}
			next++
		}
	}
	if next != Count() {
		t.Errorf("%d rules are of a variable", next)
	}
}

func TestP11_3AtMostOneWithoutSymbols(t *testing.T) {
	all := 0
	for v := range Vars() {
		without := 0
		for _, i := range Of(v) {
			if r, _ := Get(i); len(r.Syms) == 0 {
				without++
			}
		}
		if without > 1 {
			t.Errorf("variable %d: %d rules without symbols", v, without)
		}
		all += without
	}
	if all != 27 {
		t.Errorf("%d rules without symbols", all)
	}
}

// pairs are how many of the one mark a rule has, each with its other one behind it.
func pairs(t *testing.T, i, begin, end int) int {
	t.Helper()
	r, _ := Get(i)
	open, all := 0, 0
	for _, s := range r.Syms {
		switch s {
		case mark(begin):
			open++
			all++
		case mark(end):
			open--
		}
		if open < 0 {
			t.Errorf("rule %d: mark %d without mark %d ahead", i, end, begin)
		}
	}
	if open != 0 {
		t.Errorf("rule %d: mark %d without mark %d behind", i, begin, end)
	}
	return all
}

func TestP11_3Pairs(t *testing.T) {
	groups, indents := 0, 0
	for i := range Count() {
		groups += pairs(t, i, api.MkOpen, api.MkClose)
		indents += pairs(t, i, api.MkIn, api.MkOut)
	}
	if groups != 5 || indents != 9 {
		t.Errorf("%d groups, %d indents", groups, indents)
	}
}

// All symbols are some: a variable, a terminal but the end, a class, or a mark but a text.
func TestP11_3Symbols(t *testing.T) {
	below := []int{api.Terminals, Vars(), api.Classes, api.Marks}
	for i := range Count() {
		r, _ := Get(i)
		for _, s := range r.Syms {
			if s.Kind < 0 || s.Kind >= api.SyKinds || s.N < 0 || s.N >= below[s.Kind] || s == term(api.TeEnd) || s == mark(api.MkText) {
				t.Errorf("rule %d has %v", i, s)
			}
		}
	}
}

func TestExample(t *testing.T) {
	isRule(t, 3, 2, vari(18))
}

// TestSameEachTime asks again behind other questions (R5).
func TestSameEachTime(t *testing.T) {
	rules := wanted(t)
	for range 3 {
		for i := len(rules) - 1; i >= 0; i-- {
			isRule(t, i, rules[i].Var, rules[i].Syms...)
			isNone(t, i+90)
			isNone(t, i-90)
		}
		isOf(t, 14, 28, 29, 30, 31, 32, 33, 34)
		isOf(t, 43)
		isOf(t, 0, 0)
		TestP11_1Counts(t)
		isPlain(t, []api.Sym{mark(1), term(1)}, term(1))
	}
}
