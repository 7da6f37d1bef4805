package yield

import (
	"math"
	"slices"
	"strconv"
	"strings"
	"testing"

	"copperplate/api"
	"copperplate/parse"
	"copperplate/rule"
)

// Words of the symbols, by their numbers, as the table of rules has them.
const (
	termWords  = "END ! $ & ( ) ... : = @ [ ] { BAR } INT FLOAT STRING NAME query mutation subscription fragment on type interface enum union input scalar implements"
	classWords = "%name %free %oper"
	markWords  = "TEXT SP LINE SOFT COMMA HARD OPEN CLOSE IN OUT"
)

// symbol is that of a word.
func symbol(t *testing.T, word string) api.Sym {
	t.Helper()
	for kind, words := range map[int]string{api.SyTerm: termWords, api.SyClass: classWords, api.SyMark: markWords} {
		if n := slices.Index(strings.Fields(words), word); n >= 0 {
			return api.Sym{Kind: kind, N: n}
		}
	}
	t.Fatalf("no word: %q", word)
	return api.Sym{}
}

func symbols(t *testing.T, words string) []api.Sym {
	t.Helper()
	var l []api.Sym
	for word := range strings.FieldsSeq(words) {
		l = append(l, symbol(t, word))
	}
	return l
}

// terms are the terminals of words, without a look at the marks among them; for a class there
// is one of its terminals.
func terms(t *testing.T, words string) []int {
	t.Helper()
	var l []int
	for _, s := range symbols(t, words) {
		if s.Kind != api.SyMark {
			l = append(l, termsOf(s)[0])
		}
	}
	return l
}

// termsOf are the terminals that a symbol stands for: numbers by hand, as the chapter of kind
// has them.
func termsOf(s api.Sym) []int {
	switch {
	case s.Kind == api.SyTerm:
		return []int{s.N}
	case s.N == api.ClName:
		return []int{18, 19, 20, 21, 22, 23, 24, 25, 26, 27, 28, 29, 30}
	case s.N == api.ClFree:
		return []int{18, 19, 20, 21, 22, 24, 25, 26, 27, 28, 29, 30}
	}
	return []int{19, 20, 21}
}

func numbers(t *testing.T, text string) []int {
	t.Helper()
	var l []int
	for word := range strings.FieldsSeq(text) {
		n, err := strconv.Atoi(word)
		if err != nil {
			t.Fatal(err)
		}
		l = append(l, n)
	}
	return l
}

// derivation are rules, and all that they derive, worked out by hand.
type derivation struct{ rules, full string }

// A selection of one name, as it stands within others.
const (
	selRules = " 41 44 46 23 21 48 42 "
	selFull  = " { IN HARD %name OUT HARD } "
)

func derivations() []derivation {
	return []derivation{
		{"0 3" + selRules + "1", selFull},
		{"0 3 41 44 47 24 27 29 26 27 31 25 22 23 21 49" + selRules + "42 1", "{ IN HARD %name : SP %name OPEN ( IN SOFT %name : SP INT COMMA %name : SP STRING OUT SOFT ) CLOSE SP @ %name SP" + selFull + "OUT HARD }"},
		{"0 3 41 45 51 22 23 21 43 45 50 21" + selRules + "43 45 52 24 27 32 25 21" + selRules + "43 45 53" + selRules + "42 1", "{ IN HARD ... %free SP @ %name HARD ... SP on SP %name SP" + selFull + "HARD ... SP @ %name OPEN ( IN SOFT %name : SP %name OUT SOFT ) CLOSE SP" + selFull + "HARD ... SP" + selFull + "OUT HARD }"},
		{"0 3 41 44 46 24 27 33 35 26 27 34 39 26 27 33 36 29 38 33 36 30 37 37 26 27 34 40 27 31 26 27 32 25 25 21 48 42 1", "{ IN HARD %name OPEN ( IN SOFT %name : SP OPEN [ ] CLOSE COMMA %name : SP OPEN { } CLOSE COMMA %name : SP OPEN [ IN SOFT INT COMMA OPEN [ IN SOFT FLOAT OUT SOFT ] CLOSE OUT SOFT ] CLOSE COMMA %name : SP OPEN { IN LINE %name : SP STRING COMMA %name : SP %name OUT LINE } CLOSE OUT SOFT ) CLOSE OUT HARD }"},
		{"0 4 8 10 21" + selRules + "1", "%oper SP" + selFull},
		{"0 4 9 11 14 17 19 16 29 22 23 21 13 14 18 17 20 20 15 21 12 22 24 27 28 25 21" + selRules + "1", "%oper SP %name OPEN ( IN SOFT $ %name : SP %name SP = SP INT SP @ %name COMMA $ %name : SP [ %name ! ] ! OUT SOFT ) CLOSE SP @ %name OPEN ( IN SOFT %name : SP $ %name OUT SOFT ) CLOSE SP" + selFull},
		{"0 5 22 23 21 41 44 46 23 21 48 43 44 46 23 21 48 42 1", "fragment SP %free SP on SP %name SP @ %name SP { IN HARD %name HARD %name OUT HARD }"},
		{"0 6 54 21 1", "scalar SP %name"},
		{"0 7 54 22 23 22 23 21 1", "STRING HARD scalar SP %name SP @ %name SP @ %name"},
		{"0 6 55 60 22 23 21 66 69 70 72 17 19 21 67 1", "type SP %name SP @ %name SP { IN HARD %name : SP %name OUT HARD }"},
		{"0 7 55 61 63 65 64 21 66 69 71 73 76 71 17 19 16 29 21 75 76 70 17 19 15 21 74 17 20 21 68 69 70 72 18 17 19 19 22 23 21 67 1", "STRING HARD type SP %name SP implements SP & SP %name SP & SP %name SP { IN HARD STRING HARD %name OPEN ( IN SOFT STRING HARD %name : SP %name SP = SP INT COMMA %name : SP %name OUT SOFT ) CLOSE : SP %name ! HARD %name : SP [ %name ] SP @ %name OUT HARD }"},
		{"0 6 56 61 62 64 21 66 69 70 72 17 19 21 67 1", "interface SP %name SP implements SP %name SP { IN HARD %name : SP %name OUT HARD }"},
		{"0 6 57 21 77 80 71 21 79 80 70 22 23 21 78 1", "enum SP %name SP { IN HARD STRING HARD %name HARD %name SP @ %name OUT HARD }"},
		{"0 6 58 21 81 1", "union SP %name"},
		{"0 6 58 21 82 83 85 1", "union SP %name SP = SP %name"},
		{"0 6 58 22 23 21 82 84 86 85 1", "union SP %name SP @ %name SP = SP BAR SP %name SP BAR SP %name"},
		{"0 6 59 21 87 76 70 17 19 16 32 21 89 76 71 17 19 15 21 88 1", "input SP %name SP { IN HARD %name : SP %name SP = SP %name HARD STRING HARD %name : SP %name OUT HARD }"},
		{"0 3" + selRules + "2 6 54 21 2 6 58 21 81 1", selFull + "HARD HARD scalar SP %name HARD HARD union SP %name"},
	}
}

// replaced replaces the first variable, again and again, by the words of the chapter.
func replaced(rules []int) ([]api.Sym, bool) {
	isVar := func(s api.Sym) bool { return s.Kind == api.SyVar }
	l := []api.Sym{{Kind: api.SyVar}}
	for _, i := range rules {
		at := slices.IndexFunc(l, isVar)
		r, is := rule.Get(i)
		if !is || at < 0 || l[at].N != r.Var {
			return nil, false
		}
		l = slices.Replace(l, at, at+1, r.Syms...)
	}
	return l, !slices.ContainsFunc(l, isVar)
}

func plain(l []api.Sym) []api.Sym {
	return slices.DeleteFunc(slices.Clone(l), func(s api.Sym) bool { return s.Kind == api.SyMark })
}

// isAll asks both calls of symbols of one list; nothing is wanted where there is none.
func isAll(t *testing.T, rules []int, full []api.Sym, is bool) {
	t.Helper()
	kept := slices.Clone(rules)
	if got, so := Full(rules); so != is || !slices.Equal(got, full) {
		t.Errorf("Full(%v) = %v, %v, not %v, %v", rules, got, so, full, is)
	}
	if got, so := Yield(rules); so != is || !slices.Equal(got, plain(full)) {
		t.Errorf("Yield(%v) = %v, %v, not %v, %v", rules, got, so, plain(full), is)
	}
	if !slices.Equal(rules, kept) {
		t.Errorf("%v was made %v", kept, rules)
	}
}

func isFull(t *testing.T, rules, full string) {
	t.Helper()
	isAll(t, numbers(t, rules), symbols(t, full), true)
}

// isNone asks all calls of rules that derive nothing: also no terminals.
func isNone(t *testing.T, rules []int) {
	t.Helper()
	isAll(t, rules, nil, false)
	isDerived(t, rules, nil, false)
	isDerived(t, rules, []int{api.TeBrace, api.TeName, api.TeEnds}, false)
}

func isNoneOf(t *testing.T, rules string) {
	t.Helper()
	isNone(t, numbers(t, rules))
}

func isDerived(t *testing.T, rules, l []int, want bool) {
	t.Helper()
	kept, keptTerms := slices.Clone(rules), slices.Clone(l)
	if got := Derives(rules, l); got != want {
		t.Errorf("Derives(%v, %v) = %v, not %v", rules, l, got, want)
	}
	if !slices.Equal(rules, kept) || !slices.Equal(l, keptTerms) {
		t.Errorf("%v, %v were made %v, %v", kept, keptTerms, rules, l)
	}
}

// outside are numbers below 0, and n and above it. Those that differ from a number within by a
// power of 2 would be within, if they were cut short.
func outside(n int) []int {
	return []int{math.MinInt, math.MinInt + 1, math.MinInt32, -1 << 32, -1<<32 + 3, -256, -253, -128, -n, -3, -1, n, n + 1, 2 * n, 128, 131, 256, 259, 999, 1 << 16, math.MaxInt32, 1 << 32, 1<<32 + 3, 1<<62 + 3, math.MaxInt - 1, math.MaxInt}
}

// anyRules are all rules, and numbers of none.
func anyRules() []int {
	l := outside(rule.Count())
	for i := range rule.Count() {
		l = append(l, i)
	}
	return l
}

// anyTerminals are all terminals, TeEnd among them, and numbers of none.
func anyTerminals() []int {
	l := outside(api.Terminals)
	for te := range api.Terminals {
		l = append(l, te)
	}
	return l
}

// changed hands on what comes of a list by one change at one place.
func changed(l, by []int) func(yield func([]int) bool) {
	return func(yield func([]int) bool) {
		for i := range len(l) + 1 {
			if i < len(l) && !yield(slices.Delete(slices.Clone(l), i, i+1)) {
				return
			}
			for _, n := range by {
				if !yield(slices.Insert(slices.Clone(l), i, n)) {
					return
				}
				if i < len(l) && l[i] != n && !yield(slices.Replace(slices.Clone(l), i, i+1, n)) {
					return
				}
			}
		}
	}
}

func TestP14_1Derivations(t *testing.T) {
	used := map[int]bool{}
	for _, d := range derivations() {
		isFull(t, d.rules, d.full)
		for _, i := range numbers(t, d.rules) {
			used[i] = true
		}
	}
	for i := range rule.Count() {
		if !used[i] {
			t.Errorf("rule %d is in no derivation", i)
		}
	}
}

// Several definitions one behind the other are derived with rule 2 ahead of each but the first
// one, and rule 1 behind the last one.
func TestP14_1Several(t *testing.T) {
	for _, a := range derivations() {
		for _, b := range derivations() {
			first, second := numbers(t, a.rules), numbers(t, b.rules)
			rules := slices.Concat(first[:len(first)-1], []int{2}, second[1:])
			isAll(t, rules, symbols(t, a.full+" HARD HARD "+b.full), true)
		}
	}
}

// No rules leave the variable Doc.
func TestP14_1NoRules(t *testing.T) {
	isNone(t, nil)
	isNone(t, []int{})
}

// The symbols ahead of the first variable, and the marks between them, stay in their order:
// rules without symbols take their variables away, and nothing else.
func TestP14_1Order(t *testing.T) {
	full, _ := Full(numbers(t, "0 4 9 11 14 17 19 15 21 12 21 41 44 46 23 21 48 42 1"))
	want := []api.Sym{
		{Kind: api.SyClass, N: api.ClOper}, {Kind: api.SyMark, N: api.MkSpace}, {Kind: api.SyClass, N: api.ClName},
		{Kind: api.SyMark, N: api.MkOpen}, {Kind: api.SyTerm, N: api.TeOpen}, {Kind: api.SyMark, N: api.MkIn}, {Kind: api.SyMark, N: api.MkSoft},
		{Kind: api.SyTerm, N: api.TeDollar}, {Kind: api.SyClass, N: api.ClName}, {Kind: api.SyTerm, N: api.TeColon}, {Kind: api.SyMark, N: api.MkSpace}, {Kind: api.SyClass, N: api.ClName},
		{Kind: api.SyMark, N: api.MkOut}, {Kind: api.SyMark, N: api.MkSoft}, {Kind: api.SyTerm, N: api.TeClose}, {Kind: api.SyMark, N: api.MkClose},
		{Kind: api.SyMark, N: api.MkSpace}, {Kind: api.SyTerm, N: api.TeBrace}, {Kind: api.SyMark, N: api.MkIn}, {Kind: api.SyMark, N: api.MkHard},
		{Kind: api.SyClass, N: api.ClName}, {Kind: api.SyMark, N: api.MkOut}, {Kind: api.SyMark, N: api.MkHard}, {Kind: api.SyTerm, N: api.TeEnds},
	}
	if !slices.Equal(full, want) {
		t.Errorf("%v, not %v", full, want)
	}
	isFull(t, "0 4 8 11 14 17 19 15 21 12 22 23 21"+selRules+"1", "%oper OPEN ( IN SOFT $ %name : SP %name OUT SOFT ) CLOSE SP @ %name SP"+selFull)
	isFull(t, "0 4 9 10 21"+selRules+"1", "%oper SP %name SP"+selFull)
	isFull(t, "0 4 8 10 22 23 21"+selRules+"1", "%oper SP @ %name SP"+selFull)
}

// A rule must be one of the first variable then: at the beginning, in the middle, as the last.
func TestP14_1OtherVariable(t *testing.T) {
	for _, d := range derivations() {
		rules := numbers(t, d.rules)
		for at, i := range rules {
			was, _ := rule.Get(i)
			for j := range rule.Count() {
				if r, _ := rule.Get(j); r.Var != was.Var {
					isNone(t, slices.Replace(slices.Clone(rules), at, at+1, j))
				}
			}
		}
	}
	isNoneOf(t, "1")
	isNoneOf(t, "1 3"+selRules+"0")
	isNoneOf(t, "3"+selRules)
	isNoneOf(t, "0 54 21 1")
	isNoneOf(t, "0 6 54 1 21")
	isNoneOf(t, "0 6 54 21 0")
	isNoneOf(t, "0 6 54 21 67")
}

// A rule of a later variable than the first one does not take that one's place.
func TestP14_1LaterVariable(t *testing.T) {
	isNoneOf(t, "0 1 6 54 21")
	isNoneOf(t, "0 1 3"+selRules)
	isNoneOf(t, "0 6 58 81 21 1")
	isNoneOf(t, "0 6 58 21 1 81")
	isNoneOf(t, "0 4 10 8 21"+selRules+"1")
	isNoneOf(t, "0 4 8 21 10"+selRules+"1")
	isNoneOf(t, "0 3 41 42 44 46 23 21 48 1")
	isNoneOf(t, "0 3 41 44 48 21 23 46 42 1")
	// All variables but the first one are rightly gone: still it is none.
	isNoneOf(t, "0 1")
	isNoneOf(t, "0 2 1")
}

// A rule too few leaves a variable; a rule more finds none, whichever it is.
func TestP14_1TooFewOrMany(t *testing.T) {
	for _, d := range derivations() {
		rules := numbers(t, d.rules)
		for n := range rules {
			isNone(t, rules[:n])
			isNone(t, rules[n+1:])
		}
		for _, i := range anyRules() {
			isNone(t, append(slices.Clone(rules), i))
		}
		isNone(t, slices.Concat(rules, rules))
		isNone(t, append(slices.Clone(rules), 1, 1))
	}
}

func TestP14_1NoRule(t *testing.T) {
	for _, no := range outside(rule.Count()) {
		isNone(t, []int{no})
		isNone(t, []int{no, no})
		for _, d := range derivations() {
			rules := numbers(t, d.rules)
			for at := range rules {
				isNone(t, slices.Replace(slices.Clone(rules), at, at+1, no))
				isNone(t, slices.Insert(slices.Clone(rules), at, no))
			}
		}
	}
}

// One rule changed, more or fewer, at any place: held against what replacing tells.
func TestP14_1Changed(t *testing.T) {
	right := 0
	for _, d := range derivations() {
		for rules := range changed(numbers(t, d.rules), anyRules()) {
			full, is := replaced(rules)
			if !is {
				full = nil
			} else {
				right++
			}
			isAll(t, rules, full, is)
		}
	}
	if right < 100 {
		t.Errorf("only %d of the changed ones derive something", right)
	}
}

// deep is a list of rules in which some stand n deep.
func deep(t *testing.T, ahead, open, inner, closing, behind string, n int) []int {
	t.Helper()
	return slices.Concat(numbers(t, ahead), slices.Repeat(numbers(t, open), n), numbers(t, inner), slices.Repeat(numbers(t, closing), n), numbers(t, behind))
}

func TestP14_1Deep(t *testing.T) {
	for _, n := range []int{0, 1, 2, 30000} {
		rules := deep(t, "0 4 8 11 14", "18", "17 20", "19", "15 21 12 21"+selRules+"1", n)
		left, right := slices.Repeat(symbols(t, "["), n), slices.Repeat(symbols(t, "]"), n)
		full := slices.Concat(symbols(t, "%oper OPEN ( IN SOFT $ %name : SP"), left, symbols(t, "%name !"), right, symbols(t, "OUT SOFT ) CLOSE SP"+selFull))
		isLong(t, rules, full)
		rules = deep(t, "0 3", "41 44 46 23 21 49", selRules, "42", "1", n)
		full = slices.Concat(slices.Repeat(symbols(t, "{ IN HARD %name SP"), n), symbols(t, selFull), slices.Repeat(symbols(t, "OUT HARD }"), n))
		isLong(t, rules, full)
		rules = deep(t, "0 3 41 44 46 24 27", "33 36", "33 35", "37", "25 21 48 42 1", n)
		full = slices.Concat(symbols(t, "{ IN HARD %name OPEN ( IN SOFT %name : SP"), slices.Repeat(symbols(t, "OPEN [ IN SOFT"), n), symbols(t, "OPEN [ ] CLOSE"), slices.Repeat(symbols(t, "OUT SOFT ] CLOSE"), n), symbols(t, "OUT SOFT ) CLOSE OUT HARD }"))
		isLong(t, rules, full)
	}
}

func TestP14_1Long(t *testing.T) {
	const n = 30000
	rules := slices.Concat(numbers(t, "0 6 54 21"), slices.Repeat(numbers(t, "2 6 54 21"), n), []int{1})
	isLong(t, rules, append(slices.Repeat(symbols(t, "scalar SP %name HARD HARD"), n), symbols(t, "scalar SP %name")...))
	rules = slices.Concat(numbers(t, "0 3 41 44 46 23 21 48"), slices.Repeat(numbers(t, "43 44 46 23 21 48"), n), []int{42, 1})
	isLong(t, rules, slices.Concat(symbols(t, "{ IN HARD"), slices.Repeat(symbols(t, "%name HARD"), n), symbols(t, "%name OUT HARD }")))
	rules = slices.Concat(numbers(t, "0 6 54"), slices.Repeat(numbers(t, "22 23"), n), []int{21, 1})
	isLong(t, rules, slices.Concat(symbols(t, "scalar SP %name"), slices.Repeat(symbols(t, "SP @ %name"), n)))
	for _, i := range anyRules() {
		isLong(t, slices.Repeat([]int{i}, n), nil)
	}
	isLong(t, slices.Concat(numbers(t, "0 4 8 11 14"), slices.Repeat([]int{18}, 40*n)), nil)
}

// isLong is isAll for lists that are too long to be shown; without symbols nothing is wanted.
// With symbols it asks also of the terminals, and of a rule and a terminal less and more.
func isLong(t *testing.T, rules []int, full []api.Sym) {
	t.Helper()
	want := len(full) > 0
	got, is := Full(rules)
	if is != want || !slices.Equal(got, full) {
		t.Errorf("Full of %d rules are %d, %v, not %d", len(rules), len(got), is, len(full))
	}
	symbols := plain(full)
	got, is = Yield(rules)
	if is != want || !slices.Equal(got, symbols) {
		t.Errorf("Yield of %d rules are %d, %v, not %d", len(rules), len(got), is, len(symbols))
	}
	if !want {
		return
	}
	var l []int
	for _, s := range symbols {
		l = append(l, termsOf(s)[0])
	}
	if !Derives(rules, l) || Derives(rules, l[1:]) || Derives(rules, append(l, 0)) || Derives(rules[1:], l) || Derives(append(rules, 1), l) {
		t.Errorf("Derives of %d rules and %d terminals is wrong", len(rules), len(l))
	}
	if got, at := parse.Parse(l); at != -1 || !slices.Equal(got, rules) {
		t.Errorf("%d other rules are parsed, at %d", len(got), at)
	}
}

// Each terminal of a class fits its symbol, and no other one does; each terminal fits its own.
func TestP14_2Derives(t *testing.T) {
	for _, d := range derivations() {
		rules, l := numbers(t, d.rules), terms(t, d.full)
		isDerived(t, rules, l, true)
		for at, s := range plain(symbols(t, d.full)) {
			for _, te := range anyTerminals() {
				isDerived(t, rules, slices.Replace(slices.Clone(l), at, at+1, te), slices.Contains(termsOf(s), te))
			}
		}
	}
}

func TestP14_2Numbers(t *testing.T) {
	for _, d := range derivations() {
		rules, l := numbers(t, d.rules), terms(t, d.full)
		isDerived(t, rules, nil, false)
		isDerived(t, rules, []int{}, false)
		for n := range l {
			isDerived(t, rules, l[:n], false)
			isDerived(t, rules, l[n+1:], false)
			isDerived(t, rules, slices.Delete(slices.Clone(l), n, n+1), false)
		}
		for at := range len(l) + 1 {
			for _, te := range anyTerminals() {
				isDerived(t, rules, slices.Insert(slices.Clone(l), at, te), false)
			}
		}
		isDerived(t, rules, slices.Concat(l, l), false)
	}
}

func TestP14_2Classes(t *testing.T) {
	fragment := numbers(t, "0 5 21"+selRules+"1")
	for te := range api.Terminals {
		isName := te >= 18
		isDerived(t, fragment, []int{api.TeFragment, te, api.TeOn, api.TeName, api.TeBrace, api.TeName, api.TeEnds}, isName && te != api.TeOn)
		isDerived(t, fragment, []int{api.TeFragment, api.TeName, api.TeOn, te, api.TeBrace, api.TeName, api.TeEnds}, isName)
		isDerived(t, fragment, []int{api.TeFragment, api.TeName, te, api.TeName, api.TeBrace, api.TeName, api.TeEnds}, te == api.TeOn)
		isDerived(t, numbers(t, "0 4 8 10 21"+selRules+"1"), []int{te, api.TeBrace, api.TeName, api.TeEnds}, te == api.TeQuery || te == api.TeMutation || te == api.TeSubscription)
		isDerived(t, numbers(t, "0 6 54 21 1"), []int{api.TeScalar, te}, isName)
		isDerived(t, numbers(t, "0 6 54 21 1"), []int{te, api.TeName}, te == api.TeScalar)
	}
}

// Where there is no Yield nothing is derived: also not as many terminals as nothing has.
func TestP14_2NoYield(t *testing.T) {
	for _, rules := range []string{"", "0", "0 1", "-1", "90", "0 6 54 21", "0 6 54 21 1 1", "1", "21"} {
		isDerived(t, numbers(t, rules), nil, false)
		isDerived(t, numbers(t, rules), []int{}, false)
		for _, te := range anyTerminals() {
			isDerived(t, numbers(t, rules), []int{te}, false)
			isDerived(t, numbers(t, rules), []int{te, te}, false)
		}
		isDerived(t, numbers(t, rules), terms(t, "scalar %name"), false)
	}
}

// The rules that are parsed derive the terminals, whichever of a class stand there; what was
// derived by other rules is not.
func TestP14_3Parsed(t *testing.T) {
	for _, d := range derivations() {
		want := numbers(t, d.rules)
		for pick := range 13 {
			var l []int
			for i, s := range plain(symbols(t, d.full)) {
				of := termsOf(s)
				l = append(l, of[(pick+i)%len(of)])
			}
			rules, at := parse.Parse(l)
			if at != -1 || !slices.Equal(rules, want) {
				t.Errorf("Parse(%v) = %v, %d, not %v", l, rules, at, want)
			}
			isDerived(t, rules, l, true)
		}
		l := terms(t, d.full)
		for rules := range changed(want, anyRules()) {
			if Derives(rules, l) {
				t.Errorf("%v derive %v, which are parsed by %v", rules, l, want)
			}
		}
	}
}

// Changed terminals are derived by what is parsed of them; those that fail by none.
func TestP14_3Changed(t *testing.T) {
	for _, d := range derivations() {
		first := numbers(t, d.rules)
		for l := range changed(terms(t, d.full), anyTerminals()) {
			rules, at := parse.Parse(l)
			isDerived(t, rules, l, at == -1)
			isDerived(t, first, l, at == -1 && slices.Equal(rules, first))
		}
	}
}

// allOf are all lists of rules that derive at most so many terminals, by trying each rule of
// each first variable.
func allOf(most int) [][]int {
	var all [][]int
	var on func(rules []int, left []api.Sym, room int)
	on = func(rules []int, left []api.Sym, room int) {
		for len(left) > 0 && left[0].Kind != api.SyVar {
			left, room = left[1:], room-1
		}
		switch {
		case room < 0:
			return
		case len(left) == 0:
			all = append(all, rules)
			return
		}
		for _, i := range rule.Of(left[0].N) {
			r, _ := rule.Get(i)
			on(append(slices.Clip(rules), i), slices.Concat(plain(r.Syms), left[1:]), room)
		}
	}
	on(nil, []api.Sym{{Kind: api.SyVar}}, most)
	return all
}

// All rules that derive at most six terminals are those that are parsed of these.
func TestP14_3All(t *testing.T) {
	all := allOf(6)
	if len(all) < 100 {
		t.Errorf("only %d lists of rules", len(all))
	}
	for _, rules := range all {
		full, _ := replaced(rules)
		isAll(t, rules, full, true)
		var l []int
		for _, s := range plain(full) {
			l = append(l, termsOf(s)[0])
		}
		isDerived(t, rules, l, true)
		if got, at := parse.Parse(l); at != -1 || !slices.Equal(got, rules) {
			t.Errorf("Parse(%v) = %v, %d, not %v", l, got, at, rules)
		}
	}
}

// Each list of at most three terminals is derived just by the rules that are parsed of it.
func TestP14_3Short(t *testing.T) {
	all := allOf(3)
	lists := [][]int{nil}
	for n := 0; n <= 3; n++ {
		var longer [][]int
		for _, l := range lists {
			parsed, at := parse.Parse(l)
			if Derives(parsed, l) != (at == -1) {
				t.Errorf("Parse(%v) = %v, %d", l, parsed, at)
			}
			for _, rules := range all {
				if Derives(rules, l) != (at == -1 && slices.Equal(rules, parsed)) {
					t.Errorf("%v and %v, parsed by %v", rules, l, parsed)
				}
			}
			for te := range api.Terminals {
				longer = append(longer, append(slices.Clip(l), te))
			}
		}
		lists = longer
	}
}

// Lists that are a part of a greater one are read as they are, and left as they were.
func TestPart(t *testing.T) {
	whole := numbers(t, "5 0 6 54 21 1 1 0")
	kept := slices.Clone(whole)
	isAll(t, whole[1:6], symbols(t, "scalar SP %name"), true)
	isAll(t, whole[1:6:6], symbols(t, "scalar SP %name"), true)
	isNone(t, whole[1:5])
	isNone(t, whole[1:7])
	isNone(t, whole[0:6])
	isNone(t, whole[1:1])
	isNone(t, whole[len(whole):])
	if !slices.Equal(whole, kept) {
		t.Errorf("%v was made %v", kept, whole)
	}
	terminals := terms(t, "BAR scalar %name ! }")
	keptTerms := slices.Clone(terminals)
	isDerived(t, whole[1:6], terminals[1:3], true)
	isDerived(t, whole[1:6], terminals[1:3:3], true)
	isDerived(t, whole[1:6], terminals[1:2], false)
	isDerived(t, whole[1:6], terminals[1:4], false)
	isDerived(t, whole[1:6], terminals[0:3], false)
	if !slices.Equal(terminals, keptTerms) {
		t.Errorf("%v was made %v", keptTerms, terminals)
	}
}

// What is answered is the caller's own, and what is handed in isn't kept (R3).
func TestOwnLists(t *testing.T) {
	rules := numbers(t, "0 6 58 21 82 84 85 1")
	full, yield := symbols(t, "union SP %name SP = SP BAR SP %name"), symbols(t, "union %name = BAR %name")
	for _, x := range []struct {
		call func([]int) ([]api.Sym, bool)
		want []api.Sym
	}{{Full, full}, {Yield, yield}} {
		first, _ := x.call(rules)
		second, _ := x.call(rules)
		for i := range first {
			first[i] = api.Sym{Kind: -5, N: -7}
		}
		_ = append(first[:1], first...)
		if !slices.Equal(second, x.want) {
			t.Error(second)
		}
		isAll(t, rules, full, true)
		kept := slices.Clone(rules)
		clear(rules)
		if !slices.Equal(second, x.want) {
			t.Error(second)
		}
		copy(rules, kept)
	}
	isFull(t, "0 6 58 21 82 84 85 1", "union SP %name SP = SP BAR SP %name")
	if r, _ := rule.Get(54); !slices.Equal(plain(r.Syms)[:2], symbols(t, "scalar %name")) {
		t.Error(r)
	}
}

func TestExample(t *testing.T) {
	rules := numbers(t, "0 3 41 44 46 23 21 48 42 1")
	isAll(t, rules, symbols(t, "{ IN HARD %name OUT HARD }"), true)
	isDerived(t, rules, []int{api.TeBrace, api.TeName, api.TeEnds}, true)
	isDerived(t, rules, []int{api.TeBrace, api.TeOn, api.TeEnds}, true)
	isDerived(t, rules, []int{api.TeBrace, api.TeEnds, api.TeEnds}, false)
	isDerived(t, rules, []int{api.TeBrace, api.TeEnd, api.TeEnds}, false)
}

// The same is answered behind other questions (R5).
func TestSameEachTime(t *testing.T) {
	for range 3 {
		for _, d := range derivations() {
			isNoneOf(t, "0 6 54 21")
			isFull(t, d.rules, d.full)
			isNone(t, nil)
			isDerived(t, numbers(t, d.rules), terms(t, d.full), true)
		}
	}
}

// Calls at one time answer as those one behind the other: nothing is shared between them.
func TestAtOnce(t *testing.T) {
	done := make(chan bool)
	for _, d := range derivations() {
		go func() {
			defer func() { done <- true }()
			for range 20 {
				isFull(t, d.rules, d.full)
				isNone(t, numbers(t, d.rules)[1:])
			}
		}()
	}
	for range derivations() {
		<-done
	}
}
