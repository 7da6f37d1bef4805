package parse

import (
	"math"
	"slices"
	"strconv"
	"strings"
	"testing"

	"copperplate/api"
	"copperplate/pick"
	"copperplate/rule"
)

// Words of the terminals, from number 0 on. END is the end, where it stands within a list.
const wantedTerminals = "END ! $ & ( ) ... : = @ [ ] { | } INT FLOAT STRING NAME query mutation subscription fragment on type interface enum union input scalar implements"

// terms are the terminals of words.
func terms(t *testing.T, words string) []int {
	t.Helper()
	all := strings.Fields(wantedTerminals)
	var l []int
	for word := range strings.FieldsSeq(words) {
		te := slices.Index(all, word)
		if te < 0 {
			t.Fatalf("no word: %q", word)
		}
		l = append(l, te)
	}
	return l
}

// numbers are those of a text.
func numbers(t *testing.T, text string) []int {
	t.Helper()
	var l []int
	for word := range strings.FieldsSeq(text) {
		n, err := strconv.Atoi(word)
		if err != nil {
			t.Fatal(err)
		}
		l = append(l, n)
	}
	return l
}

// document is one in words, and the rules that it is parsed by, worked out by hand.
type document struct{ words, rules string }

func documents() []document {
	return []document{
		{"{ NAME }", "0 3 41 44 46 23 21 48 42 1"},
		{"{ NAME NAME }", "0 3 41 44 46 23 21 48 43 44 46 23 21 48 42 1"},
		{"{ NAME { NAME { NAME } } NAME }", "0 3 41 44 46 23 21 49 41 44 46 23 21 49 41 44 46 23 21 48 42 42 43 44 46 23 21 48 42 1"},
		{"query { NAME }", "0 4 8 10 21 41 44 46 23 21 48 42 1"},
		{"query NAME ( $ NAME : NAME ) @ NAME ( NAME : INT ) { NAME }", "0 4 9 11 14 17 19 15 21 12 22 24 27 29 25 21 41 44 46 23 21 48 42 1"},
		{"mutation ( $ NAME : [ NAME ! ] ! = [ INT FLOAT ] @ NAME $ NAME : NAME ) { NAME }", "0 4 8 11 14 18 17 20 20 16 33 36 29 38 30 37 22 23 21 13 14 17 19 15 21 12 21 41 44 46 23 21 48 42 1"},
		{"subscription NAME @ NAME @ NAME { NAME }", "0 4 9 10 22 23 22 23 21 41 44 46 23 21 48 42 1"},
		{"fragment NAME on NAME @ NAME { NAME }", "0 5 22 23 21 41 44 46 23 21 48 42 1"},
		{"{ ... NAME @ NAME ... on NAME { NAME } ... @ NAME { NAME } ... { NAME } }", "0 3 41 45 51 22 23 21 43 45 50 21 41 44 46 23 21 48 42 43 45 52 23 21 41 44 46 23 21 48 42 43 45 53 41 44 46 23 21 48 42 42 1"},
		{"{ NAME : NAME ( NAME : $ NAME NAME : INT NAME : FLOAT NAME : STRING NAME : NAME NAME : [ ] NAME : { } NAME : { NAME : INT NAME : INT } ) { NAME } }", "0 3 41 44 47 24 27 28 26 27 29 26 27 30 26 27 31 26 27 32 26 27 33 35 26 27 34 39 26 27 34 40 27 29 26 27 29 25 25 21 49 41 44 46 23 21 48 42 42 1"},
		{"{ NAME ( NAME : [ [ ] [ INT [ { NAME : [ ] } ] ] ] ) }", "0 3 41 44 46 24 27 33 36 33 35 38 33 36 29 38 33 36 34 40 27 33 35 25 37 37 37 25 21 48 42 1"},
		{"scalar NAME", "0 6 54 21 1"},
		{"scalar NAME @ NAME", "0 6 54 22 23 21 1"},
		{"STRING scalar NAME", "0 7 54 21 1"},
		{"type NAME { NAME : NAME }", "0 6 55 60 21 66 69 70 72 17 19 21 67 1"},
		{"type NAME implements & NAME & NAME @ NAME { NAME : NAME }", "0 6 55 61 63 65 64 22 23 21 66 69 70 72 17 19 21 67 1"},
		{"type NAME implements NAME { STRING NAME ( STRING NAME : NAME = INT @ NAME NAME : NAME ) : [ NAME ] @ NAME NAME : NAME ! }", "0 6 55 61 62 64 21 66 69 71 73 76 71 17 19 16 29 22 23 21 75 76 70 17 19 15 21 74 18 17 19 19 22 23 21 68 69 70 72 17 20 21 67 1"},
		{"interface NAME implements NAME & NAME { NAME : NAME }", "0 6 56 61 62 65 64 21 66 69 70 72 17 19 21 67 1"},
		{"enum NAME { NAME STRING NAME @ NAME }", "0 6 57 21 77 80 70 21 79 80 71 22 23 21 78 1"},
		{"union NAME", "0 6 58 21 81 1"},
		{"union NAME = NAME | NAME", "0 6 58 21 82 83 86 85 1"},
		{"union NAME @ NAME = | NAME", "0 6 58 22 23 21 82 84 85 1"},
		{"input NAME { NAME : NAME = NAME STRING NAME : NAME }", "0 6 59 21 87 76 70 17 19 16 32 21 89 76 71 17 19 15 21 88 1"},
		{"{ NAME } query { NAME } scalar NAME STRING union NAME fragment NAME on NAME { NAME }", "0 3 41 44 46 23 21 48 42 2 4 8 10 21 41 44 46 23 21 48 42 2 6 54 21 2 7 58 21 81 2 5 21 41 44 46 23 21 48 42 1"},
	}
}

// readOn goes through l from a place on by a symbol, asking itself for what stands for it:
// the rules told, the place then, and whether it did not fail.
func readOn(l []int, at int, s api.Sym) ([]int, int, bool) {
	te := api.TeEnd
	if at < len(l) {
		te = l[at]
	}
	if s.Kind != api.SyVar {
		if pick.Fits(s, te) {
			return nil, at + 1, true
		}
		return nil, at, false
	}
	i := pick.Pick(s.N, te)
	r, is := rule.Get(i)
	if !is {
		return nil, at, false
	}
	rules := []int{i}
	for _, s := range rule.Plain(r.Syms) {
		more, then, ok := readOn(l, at, s)
		rules, at = append(rules, more...), then
		if !ok {
			return rules, at, false
		}
	}
	return rules, at, true
}

// isAll asks all three calls of one list.
func isAll(t *testing.T, l, rules []int, at, steps int) {
	t.Helper()
	kept := slices.Clone(l)
	got, where := Parse(l)
	if !slices.Equal(got, rules) || where != at {
		t.Errorf("Parse(%v) = %v, %d, not %v, %d", l, got, where, rules, at)
	}
	viable := at
	if at == -1 {
		viable = len(l)
	}
	if got := Viable(l); got != viable {
		t.Errorf("Viable(%v) = %d, not %d", l, got, viable)
	}
	if got := Steps(l); got != steps {
		t.Errorf("Steps(%v) = %d, not %d", l, got, steps)
	}
	if !slices.Equal(l, kept) {
		t.Errorf("%v was made %v", kept, l)
	}
	if steps > 12*len(l)+12 {
		t.Errorf("%d steps of %v", steps, l)
	}
}

// isRead holds one list against what reading it by recursion tells.
func isRead(t *testing.T, l []int) {
	t.Helper()
	rules, at, ok := readOn(l, 0, api.Sym{Kind: api.SyVar})
	if !ok || at < len(l) {
		isAll(t, l, nil, at, len(rules)+at)
		return
	}
	isAll(t, l, rules, -1, len(rules)+at)
}

// whole tells whether a list is a document.
func whole(l []int) bool {
	_, at, ok := readOn(l, 0, api.Sym{Kind: api.SyVar})
	return ok && at == len(l)
}

func isParsed(t *testing.T, words, rules string) {
	t.Helper()
	l, want := terms(t, words), numbers(t, rules)
	isAll(t, l, want, -1, len(want)+len(l))
}

func isFailing(t *testing.T, words string, at, steps int) {
	t.Helper()
	isAll(t, terms(t, words), nil, at, steps)
}

// outside are numbers of no terminal. Those that differ from a terminal by a power of 2
// would be one, if they were cut short.
func outside() []int {
	return []int{math.MinInt, math.MinInt32, -1 << 32, -1<<32 + 12, -256 + 18, -128 + 18, -api.Terminals, -18, -1, api.Terminals, api.Terminals + 1, 2 * api.Terminals, 128 + 18, 256, 256 + 18, 1<<16 + 18, math.MaxInt32, 1 << 32, 1<<32 + 18, math.MaxInt}
}

// anyTerminals are all terminals, TeEnd among them, and two numbers of none.
func anyTerminals() []int {
	l := []int{-1}
	for te := range api.Terminals + 1 {
		l = append(l, te)
	}
	return l
}

// fail tells whether a list fails at a place, whatever steps it took.
func fail(t *testing.T, l []int, at int) {
	t.Helper()
	rules, where := Parse(l)
	if len(rules) > 0 || where != at {
		t.Errorf("Parse(%v) = %v, %d, not none, %d", l, rules, where, at)
	}
	if got := Viable(l); got != at {
		t.Errorf("Viable(%v) = %d, not %d", l, got, at)
	}
}

func TestP13_1Documents(t *testing.T) {
	for _, d := range documents() {
		isParsed(t, d.words, d.rules)
		isRead(t, terms(t, d.words))
	}
}

// Several definitions one behind the other are parsed by the rules of each, with rule 2 ahead
// of each but the first one, and rule 1 behind the last one.
func TestP13_1Several(t *testing.T) {
	for _, a := range documents() {
		for _, b := range documents() {
			first, second := numbers(t, a.rules), numbers(t, b.rules)
			rules := slices.Concat(first[:len(first)-1], []int{2}, second[1:])
			l := terms(t, a.words+" "+b.words)
			isAll(t, l, rules, -1, len(rules)+len(l))
		}
	}
}

func TestP13_1Nothing(t *testing.T) {
	isAll(t, nil, nil, 0, 0)
	isAll(t, []int{}, nil, 0, 0)
}

func TestP13_1Failing(t *testing.T) {
	isFailing(t, "{ }", 1, 4)
	isFailing(t, "NAME", 0, 0)
	isFailing(t, "}", 0, 0)
	isFailing(t, "{ NAME } }", 3, 13)
	isFailing(t, "{ NAME : }", 3, 8)
	isFailing(t, "{ NAME ( ) }", 3, 9)
	isFailing(t, "{ NAME ( NAME : ) }", 5, 12)
	isFailing(t, "query query query { NAME }", 2, 7)
	isFailing(t, "query NAME ( ) { NAME }", 3, 7)
	isFailing(t, "scalar NAME NAME", 2, 7)
	isFailing(t, "scalar", 1, 4)
	isFailing(t, "type NAME { }", 3, 9)
	isFailing(t, "type NAME @ NAME NAME", 4, 11)
	isFailing(t, "union NAME = NAME |", 5, 12)
	isFailing(t, "STRING { NAME }", 1, 3)
	isFailing(t, "STRING STRING scalar NAME", 1, 3)
	isFailing(t, "enum NAME { NAME : NAME }", 4, 13)
	isFailing(t, "on { NAME }", 0, 0)
	isFailing(t, "implements NAME", 0, 0)
}

// A list that is too short fails at its end, wherever it was cut, unless what is left is whole.
func TestP13_1TooShort(t *testing.T) {
	isFailing(t, "{ NAME", 2, 11)
	isFailing(t, "{", 1, 4)
	isFailing(t, "fragment NAME on NAME", 4, 7)
	isFailing(t, "{ NAME ( NAME : [ INT", 7, 18)
	for _, d := range documents() {
		l := terms(t, d.words)
		for i := range l {
			isRead(t, l[:i])
			if !whole(l[:i]) {
				fail(t, l[:i], i)
			}
		}
	}
}

// What goes on behind a whole document fails there, unless it is a definition.
func TestP13_1TooLong(t *testing.T) {
	isFailing(t, "{ NAME } NAME", 3, 13)
	isFailing(t, "{ NAME } { NAME } on", 6, 25)
	isFailing(t, "{ NAME } :", 3, 13)
	isFailing(t, "union NAME = NAME STRING", 5, 14)
	isFailing(t, "{ NAME } {", 4, 16)
	for _, words := range []string{"{ NAME }", "query { NAME }", "fragment NAME on NAME { NAME }", "enum NAME { NAME }"} {
		l := terms(t, words)
		begins := terms(t, "{ query mutation subscription fragment STRING type interface enum union input scalar")
		for _, te := range anyTerminals() {
			at := len(l)
			if slices.Contains(begins, te) {
				at++
			}
			fail(t, slices.Concat(l, []int{te}), at)
		}
	}
}

// A TeEnd within the list is not the end, wherever it stands, and what is behind it isn't read.
func TestP13_1EndWithin(t *testing.T) {
	isFailing(t, "END", 0, 0)
	isFailing(t, "END { NAME }", 0, 0)
	isFailing(t, "{ END NAME }", 1, 4)
	isFailing(t, "{ NAME END }", 2, 11)
	isFailing(t, "{ NAME } END", 3, 13)
	isFailing(t, "{ NAME } END END", 3, 13)
	isFailing(t, "scalar NAME END", 2, 7)
	isFailing(t, "scalar NAME END scalar NAME", 2, 7)
	isFailing(t, "union NAME END", 2, 8)
	isFailing(t, "END END", 0, 0)
	isFailing(t, "scalar END", 1, 4)
	for _, d := range documents() {
		l := terms(t, d.words)
		for i := range len(l) + 1 {
			fail(t, slices.Insert(slices.Clone(l), i, api.TeEnd), i)
		}
	}
}

// A rule without symbols is told, and takes no terminal: also where only the end is at hand.
func TestP13_1Empty(t *testing.T) {
	isParsed(t, "union NAME", "0 6 58 21 81 1")
	isParsed(t, "union NAME = NAME", "0 6 58 21 82 83 85 1")
	isParsed(t, "STRING union NAME @ NAME", "0 7 58 22 23 21 81 1")
	isParsed(t, "query { NAME }", "0 4 8 10 21 41 44 46 23 21 48 42 1")
	isParsed(t, "{ NAME ( NAME : [ ] NAME : { } ) }", "0 3 41 44 46 24 27 33 35 26 27 34 39 25 21 48 42 1")
}

func names() []int {
	return []int{api.TeName, api.TeQuery, api.TeMutation, api.TeSubscription, api.TeFragment, api.TeOn, api.TeType, api.TeInterface, api.TeEnum, api.TeUnion, api.TeInput, api.TeScalar, api.TeImplements}
}

// Words of the grammar are names wherever any name may stand; behind fragment, on is none, and
// behind three dots it stands for itself.
func TestP13_1WordsAsNames(t *testing.T) {
	for _, d := range documents() {
		l, rules := terms(t, d.words), numbers(t, d.rules)
		for _, name := range names() {
			words := slices.Clone(l)
			for i, te := range l {
				if te == api.TeName && (name != api.TeOn || i == 0 || l[i-1] != api.TeFragment && l[i-1] != api.TeDots) {
					words[i] = name
				}
			}
			isAll(t, words, rules, -1, len(rules)+len(words))
		}
	}
	isParsed(t, "query query ( $ on : type ) @ scalar ( enum : input ) { fragment : mutation }", "0 4 9 11 14 17 19 15 21 12 22 24 27 32 25 21 41 44 47 23 21 48 42 1")
	isParsed(t, "type implements implements implements { implements : implements }", "0 6 55 61 62 64 21 66 69 70 72 17 19 21 67 1")
	isParsed(t, "fragment fragment on on { on }", "0 5 21 41 44 46 23 21 48 42 1")
	isParsed(t, "scalar scalar scalar scalar", "0 6 54 21 2 6 54 21 1")
}

func TestP13_1On(t *testing.T) {
	isFailing(t, "fragment on on NAME { NAME }", 1, 3)
	isFailing(t, "fragment on NAME { NAME }", 1, 3)
	isFailing(t, "fragment NAME NAME NAME { NAME }", 2, 4)
	isFailing(t, "{ ... on }", 3, 8)
	isFailing(t, "{ ... on { NAME } }", 3, 8)
	isParsed(t, "{ ... on on { on } }", "0 3 41 45 50 21 41 44 46 23 21 48 42 42 1")
	isParsed(t, "{ ... fragment on }", "0 3 41 45 51 21 43 44 46 23 21 48 42 1")
	isParsed(t, "query on { on : on }", "0 4 9 10 21 41 44 47 23 21 48 42 1")
}

// nested is a document in which something stands n deep: words, and the rules told for them.
type nested struct{ ahead, open, inner, closing, behind document }

func (x nested) deep(t *testing.T, n int, of func(d document) []int) []int {
	t.Helper()
	return slices.Concat(of(x.ahead), slices.Repeat(of(x.open), n), of(x.inner), slices.Repeat(of(x.closing), n), of(x.behind))
}

func TestP13_1Deep(t *testing.T) {
	inField := document{"{ NAME ( NAME :", "0 3 41 44 46 24 27"}
	behindField := document{") }", "25 21 48 42 1"}
	inItems, oneItem, behindItems := document{"{", "0 3 41"}, document{"NAME", "44 46 23 21 48"}, document{"}", "42 1"}
	for _, x := range []nested{
		{document{"", "0 3"}, document{"{ NAME", "41 44 46 23 21 49"}, document{"{ NAME }", "41 44 46 23 21 48 42"}, document{"}", "42"}, document{"", "1"}},
		{inField, document{"[", "33 36"}, document{"INT", "29"}, document{"]", "37"}, behindField},
		{inField, document{"[ INT", "33 36 29 38"}, document{"[ ]", "33 35"}, document{"]", "37"}, behindField},
		{inField, document{"{ NAME :", "34 40 27"}, document{"STRING", "31"}, document{"}", "25"}, behindField},
		{document{"query ( $ NAME :", "0 4 8 11 14"}, document{"[", "18"}, document{"NAME", "17 19"}, document{"] !", "20"}, document{") { NAME }", "15 21 12 21 41 44 46 23 21 48 42 1"}},
		{inItems, document{"... {", "45 53 41"}, oneItem, document{"}", "42"}, behindItems},
		{inItems, document{"... on NAME {", "45 50 21 41"}, oneItem, document{"}", "42"}, behindItems},
		{inItems, document{"... @ NAME {", "45 52 23 21 41"}, oneItem, document{"}", "42"}, behindItems},
	} {
		for _, n := range []int{0, 1, 2, 10, 3000} {
			l := x.deep(t, n, func(d document) []int { return terms(t, d.words) })
			rules := x.deep(t, n, func(d document) []int { return numbers(t, d.rules) })
			isAll(t, l, rules, -1, len(rules)+len(l))
			fail(t, l[:len(l)-1], len(l)-1)
			fail(t, append(slices.Clone(l), api.TeEnds), len(l))
		}
	}
}

// What is no terminal fits nothing, at each place, and its number's low bits don't count.
func TestP13_1NoTerminal(t *testing.T) {
	for _, te := range outside() {
		isAll(t, []int{te}, nil, 0, 0)
		isAll(t, []int{api.TeScalar, te}, nil, 1, 4)
		isAll(t, []int{api.TeScalar, api.TeName, te}, nil, 2, 7)
		for _, d := range documents() {
			l := terms(t, d.words)
			for i := range l {
				instead := slices.Clone(l)
				instead[i] = te
				fail(t, instead, i)
				fail(t, slices.Insert(slices.Clone(l), i, te), i)
			}
			fail(t, append(l, te), len(l))
		}
	}
}

func TestP13_1Long(t *testing.T) {
	const n = 20000
	l := slices.Repeat(terms(t, "scalar NAME"), n)
	rules := slices.Concat([]int{0, 6, 54, 21}, slices.Repeat([]int{2, 6, 54, 21}, n-1), []int{1})
	isAll(t, l, rules, -1, len(rules)+len(l))
	fail(t, append(slices.Clone(l), api.TeName), len(l))
	fail(t, append(slices.Clone(l), api.TeScalar), len(l)+1)
	l = slices.Concat(terms(t, "{"), slices.Repeat(terms(t, "NAME"), n), terms(t, "}"))
	rules = slices.Concat([]int{0, 3, 41, 44, 46, 23, 21, 48}, slices.Repeat([]int{43, 44, 46, 23, 21, 48}, n-1), []int{42, 1})
	isAll(t, l, rules, -1, len(rules)+len(l))
	fail(t, l[:n], n)
	fail(t, slices.Repeat([]int{api.TeBrace}, n), 1)
	fail(t, slices.Repeat([]int{-1}, n), 0)
	fail(t, make([]int, n), 0)
}

// A list that is a part of a greater one is read as it is: nothing behind it counts, and
// nothing of the greater one is changed.
func TestP13_1Part(t *testing.T) {
	whole := terms(t, "NAME { NAME } scalar NAME : : }")
	kept := slices.Clone(whole)
	isAll(t, whole[1:4], []int{0, 3, 41, 44, 46, 23, 21, 48, 42, 1}, -1, 13)
	isAll(t, whole[1:4:4], []int{0, 3, 41, 44, 46, 23, 21, 48, 42, 1}, -1, 13)
	isAll(t, whole[1:3], nil, 2, 11)
	isAll(t, whole[4:6], []int{0, 6, 54, 21, 1}, -1, 7)
	isAll(t, whole[4:5], nil, 1, 4)
	isAll(t, whole[4:7], nil, 2, 7)
	isAll(t, whole[1:1], nil, 0, 0)
	isAll(t, whole[len(whole):], nil, 0, 0)
	if !slices.Equal(whole, kept) {
		t.Errorf("%v was made %v", kept, whole)
	}
}

// What is answered is the caller's own, and what is handed in isn't kept (R3).
func TestP13_1OwnLists(t *testing.T) {
	l := terms(t, "{ NAME }")
	want := []int{0, 3, 41, 44, 46, 23, 21, 48, 42, 1}
	first, _ := Parse(l)
	second, _ := Parse(l)
	for i := range first {
		first[i] = -7
	}
	_ = append(first[:1], 5, 5, 5, 5, 5)
	if !slices.Equal(second, want) || !slices.Equal(l, terms(t, "{ NAME }")) {
		t.Error(second, l)
	}
	clear(l)
	if !slices.Equal(second, want) {
		t.Error(second)
	}
	isParsed(t, "{ NAME }", "0 3 41 44 46 23 21 48 42 1")
}

// Viable is the place where it fails, and how many there are where it does not: the same
// number tells either for a list that fails at its end.
func TestP13_2Viable(t *testing.T) {
	for _, x := range []struct {
		words string
		at    int
	}{
		{"", 0}, {"{", 1}, {"{ NAME", 2}, {"{ NAME }", 3}, {"{ NAME } {", 4}, {"{ }", 1}, {"NAME NAME NAME", 0},
		{"scalar NAME scalar NAME", 4}, {"scalar NAME scalar", 3}, {"scalar NAME END scalar", 2}, {"{ NAME ( NAME : [ INT ) }", 7},
	} {
		if got := Viable(terms(t, x.words)); got != x.at {
			t.Errorf("Viable of %q is %d, not %d", x.words, got, x.at)
		}
	}
}

// Steps are rules and terminals together: the rules told ahead of a failure count as well.
func TestP13_2Steps(t *testing.T) {
	for _, x := range []struct {
		words string
		steps int
	}{
		{"", 0}, {"NAME", 0}, {"{", 3 + 1}, {"{ }", 3 + 1}, {"{ NAME", 9 + 2}, {"{ NAME }", 10 + 3}, {"{ NAME } }", 10 + 3}, {"{ NAME } NAME", 10 + 3},
		{"query", 5 + 1}, {"query )", 5 + 1}, {"query NAME )", 5 + 2}, {"{ ... NAME", 7 + 3},
		{"union NAME", 6 + 2}, {"union NAME END", 6 + 2}, {"union NAME NAME", 6 + 2}, {"type NAME implements NAME", 7 + 4},
	} {
		if got := Steps(terms(t, x.words)); got != x.steps {
			t.Errorf("Steps of %q are %d, not %d", x.words, got, x.steps)
		}
	}
}

// mutants are what comes of a document by one change at one place.
func mutants(l []int) [][]int {
	var all [][]int
	for i := range len(l) + 1 {
		for _, te := range anyTerminals() {
			all = append(all, slices.Insert(slices.Clone(l), i, te))
			if i < len(l) {
				all = append(all, slices.Replace(slices.Clone(l), i, i+1, te))
			}
		}
		if i < len(l) {
			all = append(all, slices.Delete(slices.Clone(l), i, i+1))
		}
	}
	return all
}

func TestP13_2Mutants(t *testing.T) {
	for _, d := range documents() {
		for _, l := range mutants(terms(t, d.words)) {
			isRead(t, l)
		}
	}
}

// way is one of the ways in which rules can go on behind some terminals, whichever rules are
// picked: what must still be derived, the first symbol first, and the rules so far.
type way struct {
	symbols []api.Sym
	rules   []int
}

// ways are those that lead to a terminal that fits te, which is then done with; without any
// look at what a rule can begin with.
func (w way) ways(te int) []way {
	if len(w.symbols) == 0 {
		return nil
	}
	s := w.symbols[0]
	if s.Kind != api.SyVar {
		if !isOf(s, te) {
			return nil
		}
		return []way{{w.symbols[1:], w.rules}}
	}
	var all []way
	for _, i := range rule.Of(s.N) {
		all = append(all, w.by(i).ways(te)...)
	}
	return all
}

// by is what w comes to by rule i.
func (w way) by(i int) way {
	r, _ := rule.Get(i)
	return way{slices.Concat(rule.Plain(r.Syms), w.symbols[1:]), slices.Concat(w.rules, []int{i})}
}

// isOf tells whether te is a terminal that a symbol stands for.
func isOf(s api.Sym, te int) bool {
	switch {
	case te <= 0 || te >= api.Terminals:
		return false
	case s.Kind == api.SyTerm:
		return s.N == te
	case s.N == api.ClOper:
		return te >= api.TeQuery && te <= api.TeSubscription
	}
	return te >= api.TeName && (s.N == api.ClName || te != api.TeOn)
}

// finish are terminals that go on to a document, and all rules of it: for each variable its
// first rule is taken, which has no symbols, or comes to none that asks for it again.
func (w way) finish() ([]int, []int) {
	var l []int
	for len(w.symbols) > 0 {
		s := w.symbols[0]
		switch s.Kind {
		case api.SyVar:
			w = w.by(rule.Of(s.N)[0])
			continue
		case api.SyTerm:
			l = append(l, s.N)
		default:
			l = append(l, map[int]int{api.ClName: api.TeName, api.ClFree: api.TeQuery, api.ClOper: api.TeMutation}[s.N])
		}
		w.symbols = w.symbols[1:]
	}
	return l, w.rules
}

// goesOn holds a list that can be gone on with in just one way against that, and each terminal
// behind it; those that can go on are told.
func goesOn(t *testing.T, l []int, w way) map[int]way {
	t.Helper()
	rest, rules := w.finish()
	isAll(t, slices.Concat(l, rest), rules, -1, len(rules)+len(l)+len(rest))
	if got := Viable(l); got != len(l) {
		t.Errorf("Viable(%v) = %d", l, got)
	}
	more := map[int]way{}
	for _, te := range anyTerminals() {
		on := slices.Concat(l, []int{te})
		all := w.ways(te)
		switch len(all) {
		case 0:
			fail(t, on, len(l))
			fail(t, slices.Concat(on, rest), len(l))
			fail(t, slices.Concat(on, on), len(l))
			fail(t, slices.Concat(on, []int{api.TeBrace, api.TeName, api.TeEnds}), len(l))
		case 1:
			more[te] = all[0]
			isRead(t, on)
		default:
			t.Errorf("%v goes on in %d ways", on, len(all))
		}
	}
	return more
}

// Lists of at most four terminals that can be gone on with, and each terminal behind them: it
// fails there, and nothing can go on, or it can be gone on with to a document. Behind the first
// terminal, most words of the grammar are left to the one that stands for them as names.
func TestP13_3Short(t *testing.T) {
	var all func(l []int, w way)
	all = func(l []int, w way) {
		more := goesOn(t, l, w)
		if len(l) == 4 {
			return
		}
		for te, w := range more {
			if len(l) > 0 && te > api.TeName && te != api.TeOn && te != api.TeImplements {
				continue
			}
			all(slices.Concat(l, []int{te}), w)
		}
	}
	all(nil, way{symbols: []api.Sym{{Kind: api.SyVar}}})
}

func TestP13_3Documents(t *testing.T) {
	for _, d := range documents() {
		l := terms(t, d.words)
		w := way{symbols: []api.Sym{{Kind: api.SyVar}}}
		for i, te := range l {
			more := goesOn(t, l[:i], w)
			if _, is := more[te]; !is {
				t.Fatalf("%v doesn't go on with %d at %d", l, te, i)
			}
			w = more[te]
		}
		goesOn(t, l, w)
	}
}

// Steps are bounded also where many rules without symbols are told one behind the other.
func TestP13_3Steps(t *testing.T) {
	for _, words := range []string{"", "query", "type", "union NAME", "mutation NAME", "{ NAME", "{ NAME : NAME", "type NAME", "{ NAME }", "type NAME { NAME :", "query ( $ NAME : NAME", "{ NAME ( NAME : [ [ [ INT"} {
		for _, te := range anyTerminals() {
			l := append(terms(t, words), te)
			if got := Steps(l); got > 12*len(l)+12 || got < Viable(l) {
				t.Errorf("Steps(%v) = %d", l, got)
			}
		}
	}
	for _, unit := range []string{"{ NAME }", "union NAME", "scalar NAME", "{ NAME { NAME } }", "query { NAME }", "STRING union NAME"} {
		l := slices.Repeat(terms(t, unit), 300)
		if got := Steps(l); Viable(l) != len(l) || got > 12*len(l)+12 || got <= 2*len(l) {
			t.Errorf("Steps of %q, 300 times, are %d", unit, got)
		}
	}
}

func TestExample(t *testing.T) {
	isAll(t, []int{api.TeBrace, api.TeName, api.TeEnds}, []int{0, 3, 41, 44, 46, 23, 21, 48, 42, 1}, -1, 13)
	isAll(t, []int{api.TeBrace, api.TeName}, nil, 2, 11)
}

// TestSameEachTime asks again behind other questions (R5).
func TestSameEachTime(t *testing.T) {
	for range 3 {
		for _, d := range documents() {
			isFailing(t, "{ NAME", 2, 11)
			isParsed(t, d.words, d.rules)
			isAll(t, nil, nil, 0, 0)
		}
	}
}

// Calls at one time answer as those one behind the other: nothing is shared between them.
func TestAtOnce(t *testing.T) {
	done := make(chan bool)
	for _, d := range documents() {
		go func() {
			defer func() { done <- true }()
			for range 20 {
				isParsed(t, d.words, d.rules)
			}
		}()
	}
	for range documents() {
		<-done
	}
}
