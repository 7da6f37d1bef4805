package mark

import (
	"math"
	"slices"
	"strconv"
	"strings"
	"testing"

	"copperplate/api"
	"copperplate/kind"
	"copperplate/lex"
	"copperplate/parse"
	"copperplate/quote"
	"copperplate/rule"
	"copperplate/yield"
)

// Words of the marks, from number 1 on, as the table of rules has them.
const markWords = "SP LINE SOFT COMMA HARD OPEN CLOSE IN OUT"

func text(s string) api.Bit { return api.Bit{Mark: api.MkText, Text: s} }

func of(mark int) api.Bit { return api.Bit{Mark: mark} }

// bits are those of words: of a word that is none of a mark it is the text.
func bits(words string) []api.Bit {
	var l []api.Bit
	for word := range strings.FieldsSeq(words) {
		if n := slices.Index(strings.Fields(markWords), word); n >= 0 {
			l = append(l, of(n+1))
		} else {
			l = append(l, text(word))
		}
	}
	return l
}

func numbers(t *testing.T, text string) []int {
	t.Helper()
	var l []int
	for word := range strings.FieldsSeq(text) {
		n, err := strconv.Atoi(word)
		if err != nil {
			t.Fatal(err)
		}
		l = append(l, n)
	}
	return l
}

// tokens are those of a source.
func tokens(t *testing.T, src string) []api.Tok {
	t.Helper()
	l, e, at := lex.Lex(src)
	if e != api.OK {
		t.Fatalf("%q: error %d at %d", src, e, at)
	}
	return l
}

// parsed are the tokens of a source, and the rules that are parsed of them.
func parsed(t *testing.T, src string) ([]int, []api.Tok) {
	t.Helper()
	l := tokens(t, src)
	rules, at := parse.Parse(kind.All(l))
	if at != -1 {
		t.Fatalf("%q fails at %d", src, at)
	}
	return rules, l
}

// document is a source, and the bits of its tokens, worked out by hand.
type document struct{ src, bits string }

func documents() []document {
	return []document{
		{"{a}", "{ IN HARD a OUT HARD }"},
		{"{a{b c}d}", "{ IN HARD a SP { IN HARD b HARD c OUT HARD } HARD d OUT HARD }"},
		{"{a{b{c}}}", "{ IN HARD a SP { IN HARD b SP { IN HARD c OUT HARD } OUT HARD } OUT HARD }"},
		{"{x:a(b:1 c:-2.5e3)@d{e}}", "{ IN HARD x : SP a OPEN ( IN SOFT b : SP 1 COMMA c : SP -2.5e3 OUT SOFT ) CLOSE SP @ d SP { IN HARD e OUT HARD } OUT HARD }"},
		{"{a(b:\"c\",d:\"\"\"e\"\"\"f:$g)}", `{ IN HARD a OPEN ( IN SOFT b : SP "c" COMMA d : SP "e" COMMA f : SP $ g OUT SOFT ) CLOSE OUT HARD }`},
		{"{a(b:\"\"\"\n  c\n  d\n\"\"\")}", `{ IN HARD a OPEN ( IN SOFT b : SP "c\nd" OUT SOFT ) CLOSE OUT HARD }`},
		{"{a(b:\"\"\"c\"\td\\e\"\"\")}", `{ IN HARD a OPEN ( IN SOFT b : SP "c\"\td\\e" OUT SOFT ) CLOSE OUT HARD }`},
		{`{a(b:"\u00e9\/\u0000\u001f"c:"é")}`, `{ IN HARD a OPEN ( IN SOFT b : SP "é/\u0000\u001f" COMMA c : SP "é" OUT SOFT ) CLOSE OUT HARD }`},
		{`{a(b:[],c:{},d:[1[2.0]],e:{f:"" g:h})}`, `{ IN HARD a OPEN ( IN SOFT b : SP OPEN [ ] CLOSE COMMA c : SP OPEN { } CLOSE COMMA d : SP OPEN [ IN SOFT 1 COMMA OPEN [ IN SOFT 2.0 OUT SOFT ] CLOSE OUT SOFT ] CLOSE COMMA e : SP OPEN { IN LINE f : SP "" COMMA g : SP h OUT LINE } CLOSE OUT SOFT ) CLOSE OUT HARD }`},
		{"{...a@b...on c{d}...@e(f:g){h}...{i}}", "{ IN HARD ... a SP @ b HARD ... SP on SP c SP { IN HARD d OUT HARD } HARD ... SP @ e OPEN ( IN SOFT f : SP g OUT SOFT ) CLOSE SP { IN HARD h OUT HARD } HARD ... SP { IN HARD i OUT HARD } OUT HARD }"},
		{"query{a}", "query SP { IN HARD a OUT HARD }"},
		{"subscription a{b}", "subscription SP a SP { IN HARD b OUT HARD }"},
		{"mutation a($b:[c!]!=1@d $e:f)@g(h:$b){i}", "mutation SP a OPEN ( IN SOFT $ b : SP [ c ! ] ! SP = SP 1 SP @ d COMMA $ e : SP f OUT SOFT ) CLOSE SP @ g OPEN ( IN SOFT h : SP $ b OUT SOFT ) CLOSE SP { IN HARD i OUT HARD }"},
		{"fragment a on b@c{on query type}", "fragment SP a SP on SP b SP @ c SP { IN HARD on HARD query HARD type OUT HARD }"},
		{"scalar on", "scalar SP on"},
		{"\"d\" scalar a@b@c", `"d" HARD scalar SP a SP @ b SP @ c`},
		{"\"\"\"t\"\"\" type a implements&b&c@d{\"e\"f(\"g\"h:i=2 j:k):l! m:[n]@o}", `"t" HARD type SP a SP implements SP & SP b SP & SP c SP @ d SP { IN HARD "e" HARD f OPEN ( IN SOFT "g" HARD h : SP i SP = SP 2 COMMA j : SP k OUT SOFT ) CLOSE : SP l ! HARD m : SP [ n ] SP @ o OUT HARD }`},
		{"type a{b:c}", "type SP a SP { IN HARD b : SP c OUT HARD }"},
		{"interface a implements b{c:d}", "interface SP a SP implements SP b SP { IN HARD c : SP d OUT HARD }"},
		{"enum a{\"b\"c d@e}", `enum SP a SP { IN HARD "b" HARD c HARD d SP @ e OUT HARD }`},
		{"union a", "union SP a"},
		{"union a=b", "union SP a SP = SP b"},
		{"union a@b=|c|d", "union SP a SP @ b SP = SP | SP c SP | SP d"},
		{"input a{b:c={d:[]}\"e\"f:g}", `input SP a SP { IN HARD b : SP c SP = SP OPEN { IN LINE d : SP OPEN [ ] CLOSE OUT LINE } CLOSE HARD "e" HARD f : SP g OUT HARD }`},
		{"{a}scalar b union c#d", "{ IN HARD a OUT HARD } HARD HARD scalar SP b HARD HARD union SP c"},
	}
}

// outside are numbers below 0, and n and above it. Those that differ from a number within by a
// power of 2 would be within, if they were cut short.
func outside(n int) []int {
	return []int{math.MinInt, math.MinInt + 1, math.MinInt + 5, math.MinInt32, -1 << 32, -1<<32 + 5, -256, -251, -128, -n, -5, -2, -1, n, n + 1, 2 * n, 128, 133, 256, 261, 999, 1 << 16, math.MaxInt32, 1 << 32, 1<<32 + 5, 1<<62 + 5, math.MaxInt - 1, math.MaxInt}
}

// quoteless are texts that have no quotes: they have what is no source character, nor a byte
// below 32.
func quoteless() []string {
	return []string{"\xff", "\x80", "a\xffb", "a\xc3", "\xc3(", "\xe9", "\xed\xa0\x80", "\xed\xbf\xbf", "\xf4\x90\x80\x80", "\xc0\x80", "\xe2\x82", "\n\xfe", "\xf0\x9f\x98"}
}

func isBits(t *testing.T, rules []int, l []api.Tok, want []api.Bit, is bool) {
	t.Helper()
	kept, keptTokens := slices.Clone(rules), slices.Clone(l)
	if got, so := Bits(rules, l); so != is || !slices.Equal(got, want) {
		t.Errorf("Bits(%v, %v) = %v, %v, not %v, %v", rules, l, got, so, want, is)
	}
	if !slices.Equal(rules, kept) || !slices.Equal(l, keptTokens) {
		t.Errorf("%v, %v were made %v, %v", kept, keptTokens, rules, l)
	}
}

func isNone(t *testing.T, rules []int, l []api.Tok) {
	t.Helper()
	isBits(t, rules, l, nil, false)
}

func isShown(t *testing.T, kind int, s, want string, is bool) {
	t.Helper()
	for _, x := range []api.Tok{{Kind: kind, Text: s}, {Kind: kind, Text: s, At: 7, End: -3}} {
		if got, so := Show(x); got != want || so != is {
			t.Errorf("Show(%v) = %q, %v, not %q, %v", x, got, so, want, is)
		}
	}
}

func isTexts(t *testing.T, l []api.Bit, want ...string) {
	t.Helper()
	kept := slices.Clone(l)
	if got := Texts(l); !slices.Equal(got, want) {
		t.Errorf("Texts(%v) = %q, not %q", l, got, want)
	}
	if !slices.Equal(l, kept) {
		t.Errorf("%v was made %v", kept, l)
	}
}

func isMay(t *testing.T, l []api.Bit, want bool) {
	t.Helper()
	kept := slices.Clone(l)
	if got := May(l); got != want {
		t.Errorf("May(%v) = %v", l, got)
	}
	if !slices.Equal(l, kept) {
		t.Errorf("%v was made %v", kept, l)
	}
}

// said are the bits of rules and tokens by the chapter's words.
func said(rules []int, l []api.Tok) ([]api.Bit, bool) {
	full, is := yield.Full(rules)
	if !is || !yield.Derives(rules, kind.All(l)) {
		return nil, false
	}
	var want []api.Bit
	at := 0
	for _, s := range full {
		if s.Kind == api.SyMark {
			want = append(want, api.Bit{Mark: s.N})
			continue
		}
		x := text(l[at].Text)
		if l[at].Kind == api.TkString {
			if x.Text, is = quote.Quote(x.Text); !is {
				return nil, false
			}
		}
		want, at = append(want, x), at+1
	}
	return want, true
}

// mayBe tells whether bits may be printed, by the chapter's words: of each beginning.
func mayBe(l []api.Bit) bool {
	for _, b := range l {
		if b.Mark < 0 || b.Mark >= 10 || b.Mark != 0 && b.Text != "" {
			return false
		}
	}
	less := func(l []api.Bit, mark, by int) int {
		n := 0
		for _, b := range l {
			if b.Mark == mark {
				n++
			}
			if b.Mark == by {
				n--
			}
		}
		return n
	}
	for n := range len(l) + 1 {
		if less(l[:n], api.MkOpen, api.MkClose) < 0 || less(l[:n], api.MkIn, api.MkOut) < 0 {
			return false
		}
	}
	return len(l) <= 4000 && less(l, api.MkOpen, api.MkClose) == 0 && less(l, api.MkIn, api.MkOut) == 0
}

func TestP16_1Strings(t *testing.T) {
	for s, want := range map[string]string{
		"":                     `""`,
		"a":                    `"a"`,
		"on":                   `"on"`,
		" ":                    `" "`,
		"a b":                  `"a b"`,
		"\"":                   `"\""`,
		"\\":                   `"\\"`,
		"a\n\"":                `"a\n\""`,
		"\b\f\n\r\t":           `"\b\f\n\r\t"`,
		"\x00\x01\x0b\x1a\x1f": `"\u0000\u0001\u000b\u001a\u001f"`,
		"\x7f/'":               "\"\x7f/'\"",
		"é\u2028\U0001f600":    "\"é\u2028\U0001f600\"",
		"\ufffd":               "\"\ufffd\"",
		`\n`:                   `"\\n"`,
		`"a"`:                  `"\"a\""`,
	} {
		isShown(t, api.TkString, s, want, true)
	}
	long := strings.Repeat("\n", 100000)
	isShown(t, api.TkString, long, `"`+strings.Repeat(`\n`, 100000)+`"`, true)
}

func TestP16_1NoQuotes(t *testing.T) {
	for _, s := range quoteless() {
		isShown(t, api.TkString, s, "", false)
		isShown(t, api.TkString, "a\""+s, "", false)
		isShown(t, api.TkString, strings.Repeat("b", 1000)+s, "", false)
	}
}

// Of each other token its text stands as it is, whatever the kind and the text are.
func TestP16_1Others(t *testing.T) {
	kinds := append(outside(api.TkKinds), 0, 1, 2, 3, 4)
	texts := append(quoteless(), "", "a", "on", "{", "...", "12", "-0.5E+3", " ", "a b", "\n", "\"", "\\", `"a"`, "\x00", "é", strings.Repeat("\xff\n", 1000))
	for _, k := range kinds {
		for _, s := range texts {
			isShown(t, k, s, s, true)
		}
	}
}

func TestP16_2Documents(t *testing.T) {
	used := map[int]bool{}
	for _, d := range documents() {
		rules, l := parsed(t, d.src)
		isBits(t, rules, l, bits(d.bits), true)
		for _, i := range rules {
			used[i] = true
		}
	}
	for i := range rule.Count() {
		if !used[i] {
			t.Errorf("rule %d is in no document", i)
		}
	}
}

// Rules that are no parser's answer here, and tokens that are no source's: numbers and kinds by
// hand. It's the terminals that must be derived, so names, numbers and strings have any texts.
func TestP16_2ByHand(t *testing.T) {
	scalar := api.Tok{Kind: api.TkName, Text: "scalar"}
	for _, s := range append(quoteless(), "", "a", "on", "{", "a b", "\n", "\"") {
		name := api.Tok{Kind: api.TkName, Text: s, At: -4, End: -9}
		isBits(t, numbers(t, "0 6 54 21 1"), []api.Tok{scalar, name}, []api.Bit{text("scalar"), of(api.MkSpace), text(s)}, true)
		ahead := []api.Tok{{Kind: api.TkPunct, Text: "{"}, {Kind: api.TkName, Text: "f"}, {Kind: api.TkPunct, Text: "("}, {Kind: api.TkName, Text: "a"}, {Kind: api.TkPunct, Text: ":"}}
		behind := []api.Tok{{Kind: api.TkPunct, Text: ")"}, {Kind: api.TkPunct, Text: "}"}}
		for kind, rules := range map[int]string{api.TkInt: "0 3 41 44 46 24 27 29 25 21 48 42 1", api.TkFloat: "0 3 41 44 46 24 27 30 25 21 48 42 1", api.TkName: "0 3 41 44 46 24 27 32 25 21 48 42 1"} {
			l := slices.Concat(ahead, []api.Tok{{Kind: kind, Text: s}}, behind)
			want := slices.Concat(bits("{ IN HARD f OPEN ( IN SOFT a : SP"), []api.Bit{text(s)}, bits("OUT SOFT ) CLOSE OUT HARD }"))
			isBits(t, numbers(t, rules), l, want, true)
		}
	}
}

// Strings are quoted wherever they stand, with blanks too.
func TestP16_2Strings(t *testing.T) {
	rules, l := parsed(t, "\"a\" scalar b")
	for _, s := range []string{"", " ", "a b", "\n", "a\"b", "\\", "é", "\x00", "scalar", "{"} {
		l[0].Text = s
		want, _ := quote.Quote(s)
		isBits(t, rules, l, append([]api.Bit{text(want)}, bits("HARD scalar SP b")...), true)
	}
	rules, l = parsed(t, "{a(b:\"c d\" e:[\"f\\tg\" \"\"])}")
	want := slices.Concat(bits("{ IN HARD a OPEN ( IN SOFT b : SP"), []api.Bit{text("\"c d\"")}, bits(`COMMA e : SP OPEN [ IN SOFT "f\tg" COMMA "" OUT SOFT ] CLOSE OUT SOFT ) CLOSE OUT HARD }`))
	isBits(t, rules, l, want, true)
}

// One string among the tokens that has no quotes: first, in the middle, last among several.
func TestP16_2NoShow(t *testing.T) {
	some := 0
	for _, d := range append(documents(), document{src: "\"a\" type b{\"c\"d(\"e\"f:g=[\"h\" \"i\"]):j}\"k\" scalar l@m(n:\"o\")"}) {
		rules, l := parsed(t, d.src)
		for at, x := range l {
			for _, s := range quoteless() {
				changed := slices.Clone(l)
				changed[at].Text = s
				if x.Kind == api.TkString {
					isNone(t, rules, changed)
					some++
				}
				// The terminals may be others then, or not: names stay names.
				want, is := said(rules, changed)
				isBits(t, rules, changed, want, is)
			}
		}
	}
	if some < 100 {
		t.Errorf("only %d strings", some)
	}
}

func TestP16_2NoRules(t *testing.T) {
	for _, rules := range [][]int{nil, {}, {0}, {0, 1}, {1}, {54}, {90}, {-1}} {
		isNone(t, rules, nil)
		isNone(t, rules, []api.Tok{})
		for _, d := range documents() {
			isNone(t, rules, tokens(t, d.src))
		}
	}
	for _, d := range documents() {
		rules, _ := parsed(t, d.src)
		isNone(t, rules, nil)
		isNone(t, rules, []api.Tok{})
	}
}

func TestP16_2NoRule(t *testing.T) {
	for _, no := range outside(rule.Count()) {
		isNone(t, []int{no}, nil)
		isNone(t, []int{no}, tokens(t, "{a}"))
		for _, d := range documents() {
			rules, l := parsed(t, d.src)
			for at := range rules {
				isNone(t, slices.Replace(slices.Clone(rules), at, at+1, no), l)
				isNone(t, slices.Insert(slices.Clone(rules), at, no), l)
			}
			isNone(t, append(slices.Clone(rules), no), l)
		}
	}
}

// Rules that derive fewer terminals than there are tokens, more, and as many that are others.
func TestP16_2OtherDocuments(t *testing.T) {
	fewer, more, others := 0, 0, 0
	for _, a := range documents() {
		rules, of := parsed(t, a.src)
		for _, b := range documents() {
			_, l := parsed(t, b.src)
			if slices.Equal(kind.All(of), kind.All(l)) {
				continue
			}
			isNone(t, rules, l)
			switch {
			case len(of) < len(l):
				fewer++
			case len(of) > len(l):
				more++
			default:
				others++
			}
		}
	}
	if fewer < 10 || more < 10 || others < 10 {
		t.Error(fewer, more, others)
	}
	rules, _ := parsed(t, "scalar a")
	isNone(t, rules, tokens(t, "union a"))
	isNone(t, rules, tokens(t, "scalar {"))
	isNone(t, rules, tokens(t, "scalar \"a\""))
	isNone(t, rules, tokens(t, "scalar 1"))
	isNone(t, rules, tokens(t, "a scalar"))
	isNone(t, rules, tokens(t, "scalar"))
	isNone(t, rules, tokens(t, "scalar a b"))
	isNone(t, rules, tokens(t, "scalar a scalar a"))
}

// Each terminal of a class is of the same rules: each one is shown as its own token's text.
func TestP16_2Classes(t *testing.T) {
	words := strings.Fields("a query mutation subscription fragment on type interface enum union input scalar implements")
	for i, w := range words {
		x := words[(i+5)%len(words)]
		rules, _ := parsed(t, "{a:b}")
		isBits(t, rules, tokens(t, "{"+w+":"+x+"}"), bits("{ IN HARD "+w+" : SP "+x+" OUT HARD }"), true)
		rules, _ = parsed(t, "fragment a on b{c}")
		if w == "on" {
			isNone(t, rules, tokens(t, "fragment on on b{c}"))
		} else {
			isBits(t, rules, tokens(t, "fragment "+w+" on "+x+"{c}"), bits("fragment SP "+w+" SP on SP "+x+" SP { IN HARD c OUT HARD }"), true)
		}
		rules, _ = parsed(t, "query a{b}")
		l := tokens(t, w+" a{b}")
		if w == "query" || w == "mutation" || w == "subscription" {
			isBits(t, rules, l, bits(w+" SP a SP { IN HARD b OUT HARD }"), true)
		} else {
			isNone(t, rules, l)
		}
	}
}

// Tokens of a kind that there is not, and punctuations of a text that is none, are TeEnd: no
// rules derive it.
func TestP16_2NoToken(t *testing.T) {
	odd := []api.Tok{{Kind: api.TkEnd}, {Kind: api.TkEnd, Text: "a"}, {Kind: api.TkPunct}, {Kind: api.TkPunct, Text: "a"}, {Kind: api.TkPunct, Text: "{{"}, {Kind: api.TkPunct, Text: "\xff"}}
	for _, k := range outside(api.TkKinds) {
		odd = append(odd, api.Tok{Kind: k}, api.Tok{Kind: k, Text: "a"}, api.Tok{Kind: k, Text: "{"}, api.Tok{Kind: k, Text: "\xff"})
	}
	for _, x := range odd {
		isNone(t, nil, []api.Tok{x})
		for _, d := range documents() {
			rules, l := parsed(t, d.src)
			for at := range l {
				isNone(t, rules, slices.Replace(slices.Clone(l), at, at+1, x))
				isNone(t, rules, slices.Insert(slices.Clone(l), at, x))
			}
			isNone(t, rules, append(slices.Clone(l), x))
		}
	}
}

// anyTokens are tokens of all terminals, with some texts; those of strings may have no quotes.
func anyTokens(t *testing.T) []api.Tok {
	t.Helper()
	l := tokens(t, "! $ & ( ) ... : = @ [ ] { | } 1 -2.5 \"\" \"a\\n\" b query mutation subscription fragment on type interface enum union input scalar implements")
	return append(l, api.Tok{Kind: api.TkString, Text: "\xff"}, api.Tok{Kind: api.TkName, Text: "\xff"}, api.Tok{Kind: api.TkEnd}, api.Tok{Kind: 99, Text: "{"})
}

// changed hands on what comes of a list by one change at one place.
func changed[T comparable](l, by []T) func(yield func([]T) bool) {
	return func(yield func([]T) bool) {
		for i := range len(l) + 1 {
			if i < len(l) && !yield(slices.Delete(slices.Clone(l), i, i+1)) {
				return
			}
			for _, n := range by {
				if !yield(slices.Insert(slices.Clone(l), i, n)) {
					return
				}
				if i < len(l) && l[i] != n && !yield(slices.Replace(slices.Clone(l), i, i+1, n)) {
					return
				}
			}
		}
	}
}

// One rule or one token changed, more or fewer, at any place: held against what the words say.
func TestP16_2Changed(t *testing.T) {
	var anyRules []int
	for i := range rule.Count() {
		anyRules = append(anyRules, i)
	}
	right := 0
	for _, d := range documents() {
		rules, l := parsed(t, d.src)
		for other := range changed(rules, anyRules) {
			isNone(t, other, l)
		}
		for other := range changed(l, anyTokens(t)) {
			want, is := said(rules, other)
			isBits(t, rules, other, want, is)
			if is {
				right++
			}
		}
	}
	if right < 100 {
		t.Errorf("only %d of the changed ones have bits", right)
	}
}

// Bits are told also of more than may be printed.
func TestP16_2Long(t *testing.T) {
	const n = 20000
	rules, l := parsed(t, strings.Repeat("scalar a ", n)+"scalar b")
	got, is := Bits(rules, l)
	want := append(slices.Repeat(bits("scalar SP a HARD HARD"), n), bits("scalar SP b")...)
	if !is || !slices.Equal(got, want) {
		t.Errorf("%v, %d bits", is, len(got))
	}
	if May(got) {
		t.Errorf("%d bits may be printed", len(got))
	}
	if texts := Texts(got); len(texts) != 2*n+2 || texts[1] != "a" || texts[2*n+1] != "b" {
		t.Errorf("%d texts", len(texts))
	}
	for _, other := range [][]api.Tok{l[1:], l[:len(l)-1], l[2:]} {
		if got, is := Bits(rules, other); is || len(got) != 0 {
			t.Errorf("%d bits of %d tokens", len(got), len(other))
		}
	}
	rules, l = parsed(t, strings.Repeat("{a", n)+strings.Repeat("}", n))
	got, is = Bits(rules, l)
	want = slices.Concat(slices.Repeat(bits("{ IN HARD a SP"), n-1), bits("{ IN HARD a"), slices.Repeat(bits("OUT HARD }"), n))
	if !is || !slices.Equal(got, want) {
		t.Errorf("%v, %d bits", is, len(got))
	}
	for _, i := range []int{-1, 0, 1, 22, 54, 90} {
		if got, is := Bits(slices.Repeat([]int{i}, n), l); is || len(got) != 0 {
			t.Errorf("%d bits of rules %d", len(got), i)
		}
	}
}

func TestP16_3Texts(t *testing.T) {
	isTexts(t, nil)
	isTexts(t, []api.Bit{})
	isTexts(t, bits(markWords))
	isTexts(t, bits("SP"))
	isTexts(t, bits("a"), "a")
	isTexts(t, bits("a b a"), "a", "b", "a")
	isTexts(t, bits("OPEN a SP b CLOSE HARD c"), "a", "b", "c")
	isTexts(t, []api.Bit{text("")}, "")
	isTexts(t, []api.Bit{text(""), of(api.MkHard), text(""), text("a"), text("")}, "", "", "a", "")
	isTexts(t, []api.Bit{text("a b"), text("\xff\n"), text("\x00")}, "a b", "\xff\n", "\x00")
}

// Bits that may not be printed have texts, too: just those that are MkText.
func TestP16_3TextsOfAny(t *testing.T) {
	for mark := 1; mark < api.Marks; mark++ {
		isTexts(t, []api.Bit{{Mark: mark, Text: "a"}})
		isTexts(t, []api.Bit{text("a"), {Mark: mark, Text: "b"}, text("c")}, "a", "c")
	}
	for _, mark := range outside(api.Marks) {
		isTexts(t, []api.Bit{{Mark: mark, Text: "a"}})
		isTexts(t, []api.Bit{{Mark: mark}, text("a"), {Mark: mark, Text: "b"}}, "a")
	}
	isTexts(t, bits("CLOSE a OUT b"), "a", "b")
	isTexts(t, slices.Repeat(bits("a SP"), 5000), slices.Repeat([]string{"a"}, 5000)...)
}

func TestP16_3MayNumber(t *testing.T) {
	isMay(t, nil, true)
	isMay(t, []api.Bit{}, true)
	for _, x := range []struct {
		n   int
		may bool
	}{{1, true}, {2, true}, {3999, true}, {4000, true}, {4001, false}, {4002, false}, {8000, false}, {65536, false}, {65537, false}, {300000, false}} {
		for mark := range 6 {
			if l := slices.Repeat([]api.Bit{of(mark)}, x.n); May(l) != x.may {
				t.Errorf("%d times mark %d", x.n, mark)
			}
		}
		if l := slices.Repeat([]api.Bit{text("a")}, x.n); May(l) != x.may {
			t.Errorf("%d texts", x.n)
		}
	}
	for _, pair := range []string{"OPEN CLOSE", "IN OUT"} {
		all := bits(pair)
		one, other := all[:1], all[1:]
		for n, may := range map[int]bool{1: true, 127: true, 128: true, 256: true, 1000: true, 2000: true, 2001: false, 65536: false} {
			if l := slices.Concat(slices.Repeat(one, n), slices.Repeat(other, n)); May(l) != may {
				t.Errorf("%s, %d times each: %v", pair, n, May(l))
			}
			if l := slices.Repeat(all, n); May(l) != may {
				t.Errorf("%s, %d times: %v", pair, n, May(l))
			}
			if l := slices.Repeat(one, n); May(l) {
				t.Errorf("%d of the first one of %s", n, pair)
			}
			if l := slices.Repeat(other, n); May(l) {
				t.Errorf("%d of the second one of %s", n, pair)
			}
		}
	}
}

// Each place of a list that may be else is where a bit is that may not.
func isBadAnywhere(t *testing.T, bad api.Bit) {
	t.Helper()
	isMay(t, []api.Bit{bad}, false)
	good := bits("OPEN IN a SP CLOSE OUT")
	for at := range len(good) + 1 {
		isMay(t, slices.Insert(slices.Clone(good), at, bad), false)
	}
}

func TestP16_3MayMark(t *testing.T) {
	for _, mark := range outside(api.Marks) {
		isBadAnywhere(t, api.Bit{Mark: mark})
		isBadAnywhere(t, api.Bit{Mark: mark, Text: "a"})
	}
	for mark := 1; mark < api.Marks; mark++ {
		for _, s := range []string{"a", " ", "\n", ", ", "\x00", "\xff"} {
			isBadAnywhere(t, api.Bit{Mark: mark, Text: s})
		}
	}
	// What goes by two does not make up for a text.
	isMay(t, []api.Bit{{Mark: api.MkOpen, Text: "a"}, of(api.MkClose)}, false)
	isMay(t, []api.Bit{of(api.MkIn), {Mark: api.MkOut, Text: "a"}}, false)
}

func TestP16_3MayText(t *testing.T) {
	for _, s := range append(quoteless(), "", "a", "{", " ", "a b", "\n", "\x00", "\"", strings.Repeat("a", 100000)) {
		if !May([]api.Bit{text(s)}) || !May([]api.Bit{text(s), of(api.MkHard), text(s)}) {
			t.Errorf("%.20q", s)
		}
	}
	for mark := range 6 {
		isMay(t, []api.Bit{of(mark)}, true)
		isMay(t, []api.Bit{of(mark), of(mark)}, true)
	}
}

func TestP16_3MayTwo(t *testing.T) {
	for words, may := range map[string]bool{
		"OPEN":                             false,
		"CLOSE":                            false,
		"IN":                               false,
		"OUT":                              false,
		"OPEN CLOSE":                       true,
		"IN OUT":                           true,
		"CLOSE OPEN":                       false,
		"OUT IN":                           false,
		"OPEN OUT":                         false,
		"IN CLOSE":                         false,
		"OPEN OPEN":                        false,
		"OPEN OPEN CLOSE":                  false,
		"OPEN CLOSE CLOSE":                 false,
		"CLOSE OPEN CLOSE":                 false,
		"OPEN CLOSE CLOSE OPEN":            false,
		"OPEN CLOSE OPEN CLOSE":            true,
		"OPEN OPEN CLOSE CLOSE":            true,
		"IN IN OUT":                        false,
		"IN OUT OUT":                       false,
		"OUT IN OUT":                       false,
		"IN OUT OUT IN":                    false,
		"IN OUT IN OUT":                    true,
		"IN IN OUT OUT":                    true,
		"OPEN IN OUT CLOSE":                true,
		"IN OPEN CLOSE OUT":                true,
		"OPEN IN CLOSE OUT":                true,
		"IN OPEN OUT CLOSE":                true,
		"OPEN IN OUT OUT CLOSE":            false,
		"OPEN IN CLOSE CLOSE OUT":          false,
		"OPEN IN IN CLOSE OUT":             false,
		"OPEN OPEN IN OUT CLOSE":           false,
		"OPEN OUT IN CLOSE":                false,
		"IN CLOSE OPEN OUT":                false,
		"OPEN CLOSE OUT IN":                false,
		"a OPEN b IN SOFT c OUT CLOSE d":   true,
		"a OPEN b IN SOFT c OUT CLOSE OUT": false,
		"CLOSE a OPEN b IN c OUT CLOSE":    false,
		"SP LINE SOFT COMMA HARD":          true,
	} {
		isMay(t, bits(words), may)
		if mayBe(bits(words)) != may {
			t.Errorf("%s: the words have it otherwise", words)
		}
	}
}

// All lists of at most six bits of these kinds, held against what the words say.
func TestP16_3MayShort(t *testing.T) {
	kinds := []api.Bit{text("a"), of(api.MkOpen), of(api.MkClose), of(api.MkIn), of(api.MkOut)}
	lists, some := [][]api.Bit{nil}, 0
	for range 7 {
		var longer [][]api.Bit
		for _, l := range lists {
			may := mayBe(l)
			isMay(t, l, may)
			if may {
				some++
			}
			for _, b := range kinds {
				longer = append(longer, append(slices.Clip(l), b))
			}
		}
		lists = longer
	}
	if some < 100 {
		t.Errorf("only %d may be", some)
	}
}

// One bit too many or too few at any place of what may be printed.
func TestP16_3MayChanged(t *testing.T) {
	all := []api.Bit{text(""), {Mark: -1}, {Mark: 10}, {Mark: api.MkSpace, Text: "a"}}
	for mark := range api.Marks {
		all = append(all, of(mark))
	}
	for _, d := range documents() {
		isMay(t, bits(d.bits), true)
		for l := range changed(bits(d.bits), all) {
			isMay(t, l, mayBe(l))
		}
	}
}

// isFollowing asks what follows of tokens that are parsed.
func isFollowing(t *testing.T, rules []int, l []api.Tok) {
	t.Helper()
	got, is := Bits(rules, l)
	var texts []string
	for _, x := range l {
		s, so := Show(x)
		if !so {
			isNone(t, rules, l)
			return
		}
		texts = append(texts, s)
	}
	if !is || len(got) <= api.MaxBits && !May(got) || len(got) > api.MaxBits && May(got) {
		t.Errorf("%v: %v, %d bits", l, is, len(got))
	}
	if x := Texts(got); !slices.Equal(x, texts) {
		t.Errorf("texts %q, not %q", x, texts)
	}
}

func TestP16_4Documents(t *testing.T) {
	for _, a := range documents() {
		rules, l := parsed(t, a.src)
		isFollowing(t, rules, l)
		for _, b := range documents() {
			rules, l := parsed(t, a.src+"\n"+b.src)
			isFollowing(t, rules, l)
		}
	}
	x, l := parsed(t, "{a:b(c:{d:\"1\"})}")
	got, _ := Bits(x, l)
	isTexts(t, got, "{", "a", ":", "b", "(", "c", ":", "{", "d", ":", `"1"`, "}", ")", "}")
}

// Of changed tokens those that are parsed have bits that may be printed, with their texts.
func TestP16_4Changed(t *testing.T) {
	some := 0
	for _, d := range documents() {
		_, first := parsed(t, d.src)
		for l := range changed(first, anyTokens(t)) {
			if rules, at := parse.Parse(kind.All(l)); at == -1 {
				isFollowing(t, rules, l)
				some++
			}
		}
	}
	if some < 200 {
		t.Errorf("only %d are parsed", some)
	}
}

// tokenOf is a token that fits a symbol.
func tokenOf(s api.Sym) api.Tok {
	if s.Kind == api.SyClass {
		return api.Tok{Kind: api.TkName, Text: "query"}
	}
	switch s.N {
	case api.TeInt:
		return api.Tok{Kind: api.TkInt, Text: "0"}
	case api.TeFloat:
		return api.Tok{Kind: api.TkFloat, Text: "0.5"}
	case api.TeString:
		return api.Tok{Kind: api.TkString, Text: "\""}
	}
	text, _ := kind.Text(s.N)
	if s.N >= api.TeQuery {
		return api.Tok{Kind: api.TkName, Text: text}
	}
	return api.Tok{Kind: api.TkPunct, Text: text}
}

// All rules that derive at most eight terminals, by trying each rule of each first variable.
func TestP16_4All(t *testing.T) {
	all := 0
	var on func(rules []int, l []api.Tok, left []api.Sym)
	on = func(rules []int, l []api.Tok, left []api.Sym) {
		for len(left) > 0 && left[0].Kind != api.SyVar {
			l, left = append(slices.Clip(l), tokenOf(left[0])), left[1:]
		}
		switch {
		case len(l) > 8:
			return
		case len(left) == 0:
			all++
			isFollowing(t, rules, l)
			return
		}
		for _, i := range rule.Of(left[0].N) {
			r, _ := rule.Get(i)
			on(append(slices.Clip(rules), i), l, slices.Concat(rule.Plain(r.Syms), left[1:]))
		}
	}
	on(nil, nil, []api.Sym{{Kind: api.SyVar}})
	if all < 500 {
		t.Errorf("only %d", all)
	}
}

// At 4000 bits they may be printed, at one more they may not: of each definition there are
// three, two more ahead of each but the first one, and three of each directive.
func TestP16_4Most(t *testing.T) {
	source := func(definitions, directives int) string {
		return strings.Repeat("scalar a ", definitions) + strings.Repeat("@b", directives)
	}
	for _, x := range []struct {
		definitions, directives, bits int
		may                           bool
	}{{800, 0, 3998, true}, {798, 3, 3997, true}, {798, 4, 4000, true}, {800, 1, 4001, false}, {801, 0, 4003, false}, {9, 1319, 4000, true}} {
		rules, l := parsed(t, source(x.definitions, x.directives))
		got, is := Bits(rules, l)
		if !is || len(got) != x.bits || May(got) != x.may {
			t.Errorf("%d definitions, %d directives: %v, %d bits, %v", x.definitions, x.directives, is, len(got), May(got))
		}
		isFollowing(t, rules, l)
	}
	for _, n := range []int{100, 499, 500, 501, 1000} {
		rules, l := parsed(t, strings.Repeat("{a", n)+strings.Repeat("}", n))
		isFollowing(t, rules, l)
		rules, l = parsed(t, "{a(b:"+strings.Repeat("[", n)+strings.Repeat("]", n)+")}")
		isFollowing(t, rules, l)
	}
}

// Lists that are a part of a greater one are read as they are, and left as they were.
func TestPart(t *testing.T) {
	rules := numbers(t, "5 0 6 54 21 1 1 0")
	l := tokens(t, "{ scalar a }")
	kept, keptTokens := slices.Clone(rules), slices.Clone(l)
	want := bits("scalar SP a")
	isBits(t, rules[1:6], l[1:3], want, true)
	isBits(t, rules[1:6:6], l[1:3:3], want, true)
	isNone(t, rules[1:5], l[1:3])
	isNone(t, rules[1:7], l[1:3])
	isNone(t, rules[1:6], l[1:2])
	isNone(t, rules[1:6], l[1:4])
	isNone(t, rules[1:6], l[0:2])
	isNone(t, rules[1:6], l[1:1])
	if !slices.Equal(rules, kept) || !slices.Equal(l, keptTokens) {
		t.Errorf("made %v, %v", rules, l)
	}
	all := bits("CLOSE a OPEN b CLOSE c OPEN")
	keptBits := slices.Clone(all)
	isTexts(t, all[1:4], "a", "b")
	isTexts(t, all[2:3])
	isTexts(t, all[3:3])
	isMay(t, all[1:6], true)
	isMay(t, all[1:4], false)
	isMay(t, all[0:6], false)
	isMay(t, all[1:], false)
	isMay(t, all[0:0], true)
	isMay(t, make([]api.Bit, 5000)[500:4500], true)
	isMay(t, make([]api.Bit, 5000)[499:4500], false)
	if !slices.Equal(all, keptBits) {
		t.Errorf("made %v", all)
	}
}

// What is answered is the caller's own, and what is handed in isn't kept (R3).
func TestOwnLists(t *testing.T) {
	rules, l := parsed(t, "\"a\" scalar b")
	want := bits(`"a" HARD scalar SP b`)
	first, _ := Bits(rules, l)
	second, _ := Bits(rules, l)
	clear(first)
	_ = append(first[:1], text("c"), text("d"))
	if !slices.Equal(second, want) {
		t.Error(second)
	}
	isBits(t, rules, l, want, true)
	clear(rules)
	clear(l)
	if !slices.Equal(second, want) {
		t.Error(second)
	}
	some, other := Texts(second), Texts(second)
	clear(some)
	_ = append(some[:1], "x", "y")
	if !slices.Equal(other, []string{`"a"`, "scalar", "b"}) || !slices.Equal(second, want) {
		t.Error(other, second)
	}
	clear(second)
	if !slices.Equal(other, []string{`"a"`, "scalar", "b"}) {
		t.Error(other)
	}
}

func TestExample(t *testing.T) {
	rules, l := parsed(t, "{a}")
	want := []api.Bit{{Mark: 0, Text: "{"}, {Mark: 8}, {Mark: 5}, {Mark: 0, Text: "a"}, {Mark: 9}, {Mark: 5}, {Mark: 0, Text: "}"}}
	isBits(t, rules, l, want, true)
	isMay(t, want, true)
	isTexts(t, want, "{", "a", "}")
}

// The same is answered behind other questions (R5).
func TestSameEachTime(t *testing.T) {
	for range 3 {
		for _, d := range documents() {
			rules, l := parsed(t, d.src)
			isNone(t, rules[1:], l)
			isNone(t, rules, l[1:])
			isMay(t, bits("OPEN IN"), false)
			isBits(t, rules, l, bits(d.bits), true)
			isMay(t, bits(d.bits), true)
			isMay(t, bits("CLOSE OUT"), false)
		}
	}
}

// Calls at one time answer as those one behind the other: nothing is shared between them.
func TestAtOnce(t *testing.T) {
	done := make(chan bool)
	for _, d := range documents() {
		rules, l := parsed(t, d.src)
		go func() {
			defer func() { done <- true }()
			for range 20 {
				isBits(t, rules, l, bits(d.bits), true)
				isNone(t, rules, l[1:])
				isMay(t, bits(d.bits), true)
				isFollowing(t, rules, l)
			}
		}()
	}
	for range documents() {
		<-done
	}
}
