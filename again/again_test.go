package again

import (
	"regexp"
	"slices"
	"strconv"
	"strings"
	"sync"
	"testing"
	"unicode/utf8"

	"copperplate/api"
	"copperplate/fold"
	"copperplate/num"
	"copperplate/pick"
	"copperplate/rule"
	"copperplate/text"
)

const (
	q = "\"\"\""
	// bom counts for nothing, wherever it stands between tokens.
	bom = "\xef\xbb\xbf"
)

// document is one in words, one for each token, and the rules that it is parsed by, worked out
// by hand.
type document struct{ words, rules string }

// documents have each kind of definition, and each rule of the grammar.
func documents() []document {
	return []document{
		{"{ a }", "0 3 41 44 46 23 21 48 42 1"},
		{"{ a b }", "0 3 41 44 46 23 21 48 43 44 46 23 21 48 42 1"},
		{"{ a { b { c } } d }", "0 3 41 44 46 23 21 49 41 44 46 23 21 49 41 44 46 23 21 48 42 42 43 44 46 23 21 48 42 1"},
		{"query { a }", "0 4 8 10 21 41 44 46 23 21 48 42 1"},
		{"query q ( $ v : T ) @ d ( x : 1 ) { a }", "0 4 9 11 14 17 19 15 21 12 22 24 27 29 25 21 41 44 46 23 21 48 42 1"},
		{"mutation ( $ v : [ T ! ] ! = [ -1 2.5e3 ] @ d $ w : U ) { a }", "0 4 8 11 14 18 17 20 20 16 33 36 29 38 30 37 22 23 21 13 14 17 19 15 21 12 21 41 44 46 23 21 48 42 1"},
		{"subscription s @ d @ e { a }", "0 4 9 10 22 23 22 23 21 41 44 46 23 21 48 42 1"},
		{"fragment f on T @ d { a }", "0 5 22 23 21 41 44 46 23 21 48 42 1"},
		{"{ ... f @ d ... on T { a } ... @ e { b } ... { c } }", "0 3 41 45 51 22 23 21 43 45 50 21 41 44 46 23 21 48 42 43 45 52 23 21 41 44 46 23 21 48 42 43 45 53 41 44 46 23 21 48 42 42 1"},
		{"{ a : b ( c : $ v d : 0 e : 1.5 f : \"s\" g : true h : [ ] i : { } j : { k : 1 l : 2 } ) { m } }", "0 3 41 44 47 24 27 28 26 27 29 26 27 30 26 27 31 26 27 32 26 27 33 35 26 27 34 39 26 27 34 40 27 29 26 27 29 25 25 21 49 41 44 46 23 21 48 42 42 1"},
		{"{ a ( b : [ [ ] [ 1 [ { c : [ ] } ] ] ] ) }", "0 3 41 44 46 24 27 33 36 33 35 38 33 36 29 38 33 36 34 40 27 33 35 25 37 37 37 25 21 48 42 1"},
		{"scalar S", "0 6 54 21 1"},
		{"scalar S @ d", "0 6 54 22 23 21 1"},
		{"\"s\" scalar S", "0 7 54 21 1"},
		{"type T { a : U }", "0 6 55 60 21 66 69 70 72 17 19 21 67 1"},
		{"type T implements & U & V @ d { a : W }", "0 6 55 61 63 65 64 22 23 21 66 69 70 72 17 19 21 67 1"},
		{"type T implements U { \"s\" a ( \"t\" b : V = 1 @ d c : W ) : [ X ] @ e f : Y ! }", "0 6 55 61 62 64 21 66 69 71 73 76 71 17 19 16 29 22 23 21 75 76 70 17 19 15 21 74 18 17 19 19 22 23 21 68 69 70 72 17 20 21 67 1"},
		{"interface I implements U & V { a : W }", "0 6 56 61 62 65 64 21 66 69 70 72 17 19 21 67 1"},
		{"enum E { A \"s\" B @ d }", "0 6 57 21 77 80 70 21 79 80 71 22 23 21 78 1"},
		{"union U", "0 6 58 21 81 1"},
		{"union U = V | W", "0 6 58 21 82 83 86 85 1"},
		{"union U @ d = | V", "0 6 58 22 23 21 82 84 85 1"},
		{"input I { a : T = A \"s\" b : U }", "0 6 59 21 87 76 70 17 19 16 32 21 89 76 71 17 19 15 21 88 1"},
		{"{ a } query { b } scalar S \"s\" union U fragment f on T { c }", "0 3 41 44 46 23 21 48 42 2 4 8 10 21 41 44 46 23 21 48 42 2 6 54 21 2 7 58 21 81 2 5 21 41 44 46 23 21 48 42 1"},
	}
}

func (d document) told() []int { return numbers(d.rules) }

// values are the words, those of strings without their quotes.
func (d document) values() []string {
	return strings.Fields(strings.ReplaceAll(d.words, "\"", ""))
}

// by is the document with a text between its tokens.
func (d document) by(between string) string {
	return strings.Join(strings.Fields(d.words), between)
}

// tight is the document with a blank where without it two tokens would be one, or none.
func (d document) tight() string {
	s := ""
	for word := range strings.FieldsSeq(d.words) {
		if s != "" && isWordy(s[len(s)-1]) && isWordy(word[0]) {
			s += " "
		}
		s += word
	}
	return s
}

func isWordy(c byte) bool {
	return strings.IndexByte("-.\"_", c) >= 0 || '0' <= c && c <= '9' || 'A' <= c && c <= 'Z' || 'a' <= c && c <= 'z'
}

func numbers(words string) []int {
	var l []int
	for word := range strings.FieldsSeq(words) {
		n, err := strconv.Atoi(word)
		if err != nil {
			panic(err)
		}
		l = append(l, n)
	}
	return l
}

// The words of the document once more, apart from the program's own.

// Words of the terminals, from number 0 on; those in parentheses are of no one text.
const wantedTerminals = "(end) ! $ & ( ) ... : = @ [ ] { | } (int) (float) (string) (name) query mutation subscription fragment on type interface enum union input scalar implements"

var (
	wantedSign  = regexp.MustCompile(`^(?:[!$&():=@{|}]|\[|\]|\.{3})`)
	wantedName  = regexp.MustCompile(`^[_A-Za-z][_0-9A-Za-z]*`)
	wantedBlank = regexp.MustCompile(`^(?:[\t\n\r ,]|\x{feff}|#[^\n\r]*)*`)
)

// said is what a source tells: the terminals and texts of its tokens, and the rules.
type said struct {
	is     bool
	terms  []int
	values []string
	rules  []int
}

func saidOf(s string) said {
	terms, values, is := tokensSaid(s)
	if !is {
		return said{}
	}
	rules, at, is := readOn(terms, 0, api.Sym{Kind: api.SyVar})
	if !is || at < len(terms) {
		return said{}
	}
	return said{true, terms, values, rules}
}

func badSaid(s string) bool {
	for i, c := range s {
		if c == utf8.RuneError && !strings.HasPrefix(s[i:], "\xef\xbf\xbd") || c < 32 && c != 9 && c != 10 && c != 13 {
			return true
		}
	}
	return false
}

func tokensSaid(s string) (terms []int, values []string, is bool) {
	if badSaid(s) {
		return nil, nil, false
	}
	for {
		s = s[len(wantedBlank.FindString(s)):]
		if s == "" {
			return terms, values, true
		}
		term, value, end := tokenSaid(s)
		if end == 0 {
			return nil, nil, false
		}
		terms, values, s = append(terms, term), append(values, value), s[end:]
	}
}

// tokenSaid is the first token of s, and where it ends: 0, if there is none.
func tokenSaid(s string) (term int, value string, end int) {
	all := strings.Fields(wantedTerminals)
	sign, name := wantedSign.FindString(s), wantedName.FindString(s)
	switch {
	case sign != "":
		return slices.Index(all, sign), sign, len(sign)
	case slices.Contains(all, name):
		return slices.Index(all, name), name, len(name)
	case name != "":
		return 18, name, len(name)
	case strings.HasPrefix(s, q):
		raw, end, ok := fold.Raw(s, 0)
		if !ok {
			return 0, "", 0
		}
		return 17, fold.Fold(raw), end
	case s[0] == '"':
		value, end, ok := text.String(s, 0)
		if !ok {
			return 0, "", 0
		}
		return 17, value, end
	}
	kind, end, ok := num.Number(s, 0)
	if !ok {
		return 0, "", 0
	}
	return map[int]int{3: 15, 4: 16}[kind], s[:end], end
}

// readOn goes through l from a place on by a symbol: the rules told, the place then, and
// whether it did not fail.
func readOn(l []int, at int, s api.Sym) ([]int, int, bool) {
	te := 0
	if at < len(l) {
		te = l[at]
	}
	if s.Kind != api.SyVar {
		return nil, at + 1, pick.Fits(s, te)
	}
	i := pick.Pick(s.N, te)
	r, is := rule.Get(i)
	if !is {
		return nil, at, false
	}
	rules := []int{i}
	for _, s := range rule.Plain(r.Syms) {
		more, then, ok := readOn(l, at, s)
		if !ok {
			return nil, at, false
		}
		rules, at = append(rules, more...), then
	}
	return rules, at, true
}

func brief(s string) string {
	if len(s) > 60 {
		return strconv.Quote(s[:60]) + " .. of " + strconv.Itoa(len(s))
	}
	return strconv.Quote(s)
}

// isTold asks all calls of a source that tells a document.
func isTold(t *testing.T, s string, rules []int, values ...string) {
	t.Helper()
	if !Doc(s) {
		t.Errorf("%s tells no document", brief(s))
	}
	if got, is := Rules(s); !is || !slices.Equal(got, rules) {
		t.Errorf("Rules(%s) = %v, %t, not %v", brief(s), got, is, rules)
	}
	if got := Values(s); !slices.Equal(got, values) {
		t.Errorf("Values(%s) = %q, not %q", brief(s), got, values)
	}
	if !Same(s, s) {
		t.Errorf("%s is not the same as itself", brief(s))
	}
}

// isNone asks all calls of a source that tells no document: it is the same as none, nor as itself.
func isNone(t *testing.T, s string) {
	t.Helper()
	if Doc(s) {
		t.Errorf("%s tells a document", brief(s))
	}
	if got, is := Rules(s); is || len(got) != 0 {
		t.Errorf("Rules(%s) = %v, %t", brief(s), got, is)
	}
	if got := Values(s); len(got) != 0 {
		t.Errorf("Values(%s) = %q", brief(s), got)
	}
	for _, other := range []string{s, "{a}", ""} {
		if Same(s, other) || Same(other, s) {
			t.Errorf("%s and %s are the same", brief(s), brief(other))
		}
	}
}

// isAsSaid holds all calls of one source against the document's words.
func isAsSaid(t *testing.T, s string) {
	t.Helper()
	if want := saidOf(s); want.is {
		isTold(t, s, want.rules, want.values...)
	} else {
		isNone(t, s)
	}
}

// areSame wants all of them to be documents, each the same as each, with the same rules and values.
func areSame(t *testing.T, all ...string) {
	t.Helper()
	rules, _ := Rules(all[0])
	values := Values(all[0])
	for _, s := range all {
		isTold(t, s, rules, values...)
		for _, other := range all {
			if !Same(s, other) {
				t.Errorf("%s and %s are not the same", brief(s), brief(other))
			}
		}
	}
}

// areOthers wants all of them to be documents, none the same as another one.
func areOthers(t *testing.T, all ...string) {
	t.Helper()
	for i, s := range all {
		if !Doc(s) {
			t.Errorf("%s tells no document", brief(s))
		}
		for j, other := range all {
			if Same(s, other) != (i == j) {
				t.Errorf("Same(%s, %s) = %t", brief(s), brief(other), i != j)
			}
		}
	}
}

// texts hands on every text of up to n pieces.
func texts(pieces []string, n int, tell func(s string)) {
	var grow func(s string, n int)
	grow = func(s string, n int) {
		tell(s)
		if n == 0 {
			return
		}
		for _, p := range pieces {
			grow(s+p, n-1)
		}
	}
	grow("", n)
}

// between are texts that count for nothing, and may stand between any two tokens.
func between() []string {
	return []string{" ", "\t", "\n", "\r", "\r\n", ",", bom, "  ", ",,", "\n\n\n", " \t,\r\n" + bom, "#\n", "#\r", "#\r\n", "#c\n", "#{a} \"b\" 01 %\r", "\n#\xc3\xa9" + bom + "\n,#,\n", "###\n \n"}
}

// behind count for nothing as well, where no token stands behind them.
func behind() []string { return []string{"", "#", "#c", ",#{a}", "\n#\"", "#\t" + bom, "\r\n#" + q} }

func TestExample(t *testing.T) {
	areSame(t, "{a,b}", "{ a b }")
	areOthers(t, "{a}", "{b}")
	isTold(t, "{a,b}", numbers("0 3 41 44 46 23 21 48 43 44 46 23 21 48 42 1"), "{", "a", "b", "}")
	isTold(t, "{b}", numbers("0 3 41 44 46 23 21 48 42 1"), "{", "b", "}")
}

func TestP20_1Documents(t *testing.T) {
	for _, d := range documents() {
		isTold(t, d.words, d.told(), d.values()...)
		isTold(t, d.tight(), d.told(), d.values()...)
		isAsSaid(t, d.words)
	}
}

// Several documents one behind the other are one, by the rules of each, with rule 2 ahead of
// each but the first one, and rule 1 behind the last one.
func TestP20_1Several(t *testing.T) {
	for _, a := range documents() {
		for _, b := range documents() {
			first, second := a.told(), b.told()
			rules := slices.Concat(first[:len(first)-1], []int{2}, second[1:])
			isTold(t, a.words+"\n"+b.words, rules, slices.Concat(a.values(), b.values())...)
		}
	}
}

func TestP20_1Names(t *testing.T) {
	words := strings.Fields("query mutation subscription fragment on type interface enum union input scalar implements true false null Query _on on1 queryq")
	for _, w := range words {
		isTold(t, "{"+w+"}", numbers("0 3 41 44 46 23 21 48 42 1"), "{", w, "}")
		isTold(t, "scalar "+w, numbers("0 6 54 21 1"), "scalar", w)
		isTold(t, "{"+w+":"+w+"("+w+":$"+w+","+w+":"+w+")}", numbers("0 3 41 44 47 24 27 28 26 27 32 25 21 48 42 1"), strings.Fields(strings.ReplaceAll("{ w : w ( w : $ w w : w ) }", "w", w))...)
		isTold(t, "query "+w+"{a}", numbers("0 4 9 10 21 41 44 46 23 21 48 42 1"), "query", w, "{", "a", "}")
		isTold(t, "enum "+w+"{"+w+"}", numbers("0 6 57 21 77 80 70 21 78 1"), "enum", w, "{", w, "}")
		isTold(t, "type "+w+" implements "+w+"@"+w+"{"+w+":"+w+"}", numbers("0 6 55 61 62 64 22 23 21 66 69 70 72 17 19 21 67 1"), strings.Fields(strings.ReplaceAll("type w implements w @ w { w : w }", "w", w))...)
	}
	areOthers(t, "{query}", "query{query}", "{on}", "{ON}", "query query{query}", "{query query}", "{type}")
	isTold(t, "query on{...on on{on}...onn}", numbers("0 4 9 10 21 41 45 50 21 41 44 46 23 21 48 42 43 45 51 21 42 1"), strings.Fields("query on { ... on on { on } ... onn }")...)
	isNone(t, "fragment on on T{a}")
	isNone(t, "{...on}")
	isNone(t, "{...on{a}}")
	isNone(t, "true{a}")
	isNone(t, "implements{a}")
}

// TestP20_1Values wants the texts that strings tell, not those that stand there.
func TestP20_1Values(t *testing.T) {
	rules := numbers("0 3 41 44 46 24 27 31 25 21 48 42 1")
	for s, value := range map[string]string{
		"\"\"": "", "\" \"": " ", "\"a,b#c\"": "a,b#c", "\"{a}\"": "{a}", "\"\t\"": "\t", "\"" + bom + "\"": bom,
		"\"\\\"\\\\\\/\"": "\"\\/", "\"\\b\\f\\n\\r\\t\"": "\b\f\n\r\t", "\"\\u0000\\u001F\"": "\x00\x1f", "\"\\u00e9\xe2\x82\xac\"": "\xc3\xa9\xe2\x82\xac", "\"\\uD83D\\uDE00\"": "\xf0\x9f\x98\x80",
		q + q: "", q + "\n \t\r\n" + q: "", q + "a" + q: "a", q + " a " + q: " a ", q + "\n  a\n    b\n  " + q: "a\n  b", q + "a\r\n  b\r  c" + q: "a\nb\nc", q + "\n\n\ta\n\n\tb\n\n" + q: "a\n\nb",
		q + "\\n\\u0041\\\\." + q: "\\n\\u0041\\\\.", q + "\\" + q + q: q, q + "\"\"a" + q: "\"\"a", q + "#,{}" + q: "#,{}", q + "  a\n b" + q: "  a\nb",
	} {
		isTold(t, "{a(b:"+s+")}", rules, "{", "a", "(", "b", ":", value, ")", "}")
		isTold(t, s+"scalar S", numbers("0 7 54 21 1"), value, "scalar", "S")
		areSame(t, "{a(b:"+s+")}", " { a ( b : "+s+" ) } ")
	}
	isTold(t, "{a(b:[\"\",\"\" \"\"])}", numbers("0 3 41 44 46 24 27 33 36 31 38 31 38 31 37 25 21 48 42 1"), "{", "a", "(", "b", ":", "[", "", "", "", "]", ")", "}")
	isTold(t, "{a(b:[\"\"\"\"\"\" \"\"])}", numbers("0 3 41 44 46 24 27 33 36 31 38 31 37 25 21 48 42 1"), "{", "a", "(", "b", ":", "[", "", "", "]", ")", "}")
	isNone(t, "{a(b:\"\"\"\"\")}")
}

func TestP20_1Nothing(t *testing.T) {
	isNone(t, "")
	for _, a := range between() {
		isNone(t, a)
		for _, b := range behind() {
			isNone(t, a+b)
			isNone(t, b)
		}
	}
	isNone(t, "#{a}")
	isNone(t, bom+"#{a}")
	isNone(t, "#{a}\n#{b}\r")
}

// wrong are texts that are no tokens, and make none with what stands around them.
func wrong() []string {
	return []string{
		"%", "\\", "'a'", ".", "..", "....", ". . .", "?", "~", ";", "*", "+1", "<", "/", "^", "`", "\x7f",
		"01", "-", "--1", "-a", "1.", "1.a", "1e", "1e+", "1E-x", "1a", "0_", "1.2.3", "1.5e3e", "0x1", ".5", "-01", "1..",
		"\"", "\"a", "\"\\q\"", "\"\\\"", "\"\\u12\"", "\"\\u00zz\"", "\"\\ud800\"", "\"\\udc00\"", "\"\\ud83d\\u0041\"", "\"a\nb\"", "\"a\rb\"", "\"\\", q, q + "a", q + "a\"\"", q + "a\\" + q, q + "\\",
		"\x00", "\x01", "\x08", "\x0b", "\x0c", "\x0e", "\x1b", "\x1f", "\"\x00\"", "#\x00\n", q + "\x1f" + q,
		"\x80", "\xbf", "\xff", "\xfe", "\xc3", "\xc3(", "\xe2\x82", "\xf0\x9f\x98", "\xc0\x80", "\xc1\xbf", "\xe0\x80\x80", "\xe0\x9f\xbf", "\xf0\x80\x80\x80", "\xf0\x8f\xbf\xbf", "\xed\xa0\x80", "\xed\xbf\xbf", "\xf4\x90\x80\x80", "\xf5\x80\x80\x80", "\xef\xbb", "\xbb\xbf", "#\xff", "#\xed\xa0\x80\n", "\"\xff\"", "\"\xe2\x82\"", q + "\xc0\x80" + q,
		"\xc3\xa9", "\xe2\x80\xa8", "\xc2\xa0", "\xe2\x80\x8b", "\xf0\x9f\x98\x80", "\xef\xbb\xbe",
	}
}

// A source tells nothing, wherever among its tokens one of it goes wrong.
func TestP20_1NoTokens(t *testing.T) {
	for _, x := range wrong() {
		isNone(t, x)
		for _, d := range documents() {
			words := strings.Fields(d.words)
			for _, i := range []int{0, 1, len(words) / 2, len(words) - 1, len(words)} {
				isNone(t, strings.Join(slices.Insert(slices.Clone(words), i, x), " "))
			}
		}
		isNone(t, "{a(b:"+x+")}")
		isNone(t, "{a "+x+"}")
	}
	isNone(t, "{a}\x00")
	isNone(t, "\x00{a}")
	isNone(t, "{a}#\x00")
	isNone(t, "{a(b:\"c)}")
	isNone(t, "{a(b:"+q+"c)}")
	isNone(t, "{a}\"")
	isNone(t, "{a}"+q)
}

// A comment ends with its line, or with the source; not where something closes.
func TestP20_1Comments(t *testing.T) {
	isNone(t, "{a #}")
	isNone(t, "{a #}\\n}")
	isNone(t, "#c {a}")
	areSame(t, "{a}", "{a #}\n}", "{a #}\r}", "#{b}\r{a}", "{a}#", "{a}#}", "{#\n#\na}")
}

func TestP20_1Failing(t *testing.T) {
	for _, s := range []string{
		"a", "}", ")", "on{a}", "1", "1.5", "$a", "...", "@a", "[a]", "(a)", "!", "&", "|", "=", ":", "implements A", "null", // the first one
		"{}", "{a}}", "{a:}", "{a()}", "{a(b)}", "{a(b:)}", "{a(b c)}", "{1}", "{\"a\"}", "{a{}}", "{a@}", "{a@1}", "{...}", "{...on}", "{....a}", "{a!}", // within
		"query(){a}", "query($){a}", "query($a){a}", "query($a:){a}", "query($a:1){a}", "query($a:[A){a}", "query($a:A!!){a}", "query($a:A=){a}", "query a b{c}", "query{a}}", "query a@{b}", "\"d\"{a}", "\"d\"query{a}", "\"d\"\"e\"scalar A",
		"fragment{a}", "fragment a{b}", "fragment a on{b}", "fragment a in b{c}", "fragment on on a{b}", "fragment a on b c{d}",
		"scalar 1", "scalar A B", "type A{}", "type A{a}", "type A{a:}", "type A{a():B}", "type A{a(b):C}", "type A implements{a:B}", "type A implements B C{a:D}", "type A implements B&{a:C}", "type A implements&&B{a:C}", "type A{\"d\"}", "type A{a:B=1}",
		"enum E{}", "enum E{1}", "enum E{a:b}", "enum E", "union U=", "union U=|", "union U=A|", "union U=||A", "union U(A)", "union U=A B", "input I{}", "input I{a}", "input I{a(b:C):D}", "input I{a:B=}", "interface I", "interface{a:B}", "type{a:B}", // at the last one
		"{a(b:$)}", "{a(b:[)}", "{a(b:])}", "{a(b:{)}", "{a(b:{c})}", "{a(b:{c:})}", "{a(b:{1:2})}", "{a(b:[1)]}", "{a(b:(c))}", "{a(b:...)}", "{a(b:!)}", "{a:b:c}", "{a(b:1)(c:2)}", "{a@b{c}{d}}",
	} {
		isNone(t, s)
		isNone(t, "{a} "+s)
		isNone(t, s+" {a")
	}
}

// A document that is cut off tells nothing, but where what is left is one.
func TestP20_1CutOff(t *testing.T) {
	whole := map[string]bool{"scalar S": true, "union U": true, "union U @ d": true, "union U = V": true, "{ a }": true, "{ a } query { b }": true, "{ a } query { b } scalar S": true, "{ a } query { b } scalar S \"s\" union U": true}
	found := 0
	for _, d := range documents() {
		words := strings.Fields(d.words)
		for i := range words {
			s := strings.Join(words[:i], " ")
			isAsSaid(t, s)
			if whole[s] {
				found++
				areOthers(t, s, d.words)
				continue
			}
			isNone(t, s)
			if Same(s, d.words) || Same(d.words, s) {
				t.Errorf("%q is the same as %q", s, d.words)
			}
		}
	}
	if found != 9 {
		t.Errorf("%d documents are the beginnings of others", found)
	}
}

// One token behind a document is one too many, whatever it is.
func TestP20_1OneTooMany(t *testing.T) {
	more := strings.Fields(wantedTerminals + " a 1 -1.5 \"s\"")
	more = slices.DeleteFunc(more, func(s string) bool { return len(s) > 1 && s[0] == '(' })
	for _, d := range documents() {
		for _, x := range more {
			s := d.words + " " + x
			isNone(t, s)
			if Same(s, d.words) || Same(d.words, s) {
				t.Errorf("%q is the same as %q", s, d.words)
			}
		}
	}
	areOthers(t, "scalar A", "scalar A scalar B", "scalar A scalar B scalar A", "scalar A@b", "union A", "union A=B", "union A=B|C", "{a}", "{a}{a}", "{a}{b}", "{a b}", "{a{b}}")
}

// Whatever stands in a document: the calls tell of it as the words say, and so do they of it
// without a token, with one twice, and with another one in its place.
func TestP20_2OneToken(t *testing.T) {
	t.Parallel()
	others := strings.Fields("$ ... : [ } 7 \"z\" on scalar")
	for _, d := range documents() {
		words := strings.Fields(d.words)
		for i := range words {
			isOther(t, d, slices.Delete(slices.Clone(words), i, i+1))
			isOther(t, d, slices.Insert(slices.Clone(words), i, words[i]))
			if i > 0 {
				isOther(t, d, slices.Concat(words[:i-1], []string{words[i], words[i-1]}, words[i+1:]))
			}
			for _, x := range others {
				isOther(t, d, slices.Concat(words[:i], []string{x}, words[i+1:]))
			}
		}
	}
}

// isOther wants words to be as is said, and to be the same as the document only if they are its words.
func isOther(t *testing.T, d document, words []string) {
	t.Helper()
	s := strings.Join(words, " ")
	isAsSaid(t, s)
	if want := s == d.words; Same(s, d.words) != want || Same(d.words, s) != want {
		t.Errorf("Same(%q, %q) = %t", s, d.words, !want)
	}
}

func TestP20_2Documents(t *testing.T) {
	var all []string
	for _, d := range documents() {
		all = append(all, d.tight())
	}
	areOthers(t, all...)
	for i, d := range documents() {
		areSame(t, all[i], d.words, d.by("\n"), d.by(" ,"))
	}
}

// TestP20_2Kinds wants tokens of the same texts, but of other kinds, to be others.
func TestP20_2Kinds(t *testing.T) {
	for _, l := range [][]string{{"1", "\"1\""}, {"-1", "\"-1\""}, {"1.5", "\"1.5\""}, {"1e3", "\"1e3\"", q + "1e3" + q}, {"c", "\"c\""}, {"true", "\"true\""}, {"on", q + "on" + q}, {"null", "\"null\""}, {"query", "\"query\""}} {
		a, b := "{a(b:"+l[0]+")}", "{a(b:"+l[1]+")}"
		areOthers(t, a, b)
		if !slices.Equal(Values(a), Values(b)) {
			t.Errorf("the values of %q and %q are others", a, b)
		}
	}
	areSame(t, "{a(b:\"1e3\")}", "{a(b:"+q+"1e3"+q+")}")
}

// TestP20_2Texts wants tokens of the same kinds, but of other texts, to be others.
func TestP20_2Texts(t *testing.T) {
	areOthers(t, "{a(b:c)}", "{a(b:d)}", "{a(c:c)}", "{b(b:c)}", "{A(b:c)}", "{a(b:cc)}", "{a(b:C)}", "{a(b:_c)}")
	areOthers(t, "query{a}", "mutation{a}", "subscription{a}", "{a}")
	areOthers(t, "type A{a:B}", "interface A{a:B}", "type B{a:A}")
	areOthers(t, "{a b}", "{b a}", "{ab}", "{a a}", "{b b}", "{a b a}", "{a,_b}")
	areOthers(t, "scalar A scalar B", "scalar B scalar A")
	areOthers(t, "\"d\"scalar A", "\"e\"scalar A", "scalar A", "\"\"scalar A", "\" d\"scalar A", "\"d \"scalar A")
}

// Numbers are held against each other as they are written, whatever they are worth.
func TestP20_2Numbers(t *testing.T) {
	var all []string
	for _, x := range strings.Fields("0 -0 0.0 -0.0 0e0 0E0 0.00 1 1.0 1.00 1e0 1E0 1e+0 1e-0 10e-1 0.1e1 100 1e2 1e02 1E2 1e+2 -1 -1.0 12 21 1.5 15e-1 9007199254740993 9007199254740992 1e999 1e9999") {
		all = append(all, "{a(b:"+x+")}")
	}
	areOthers(t, all...)
	areOthers(t, "{a(b:[12])}", "{a(b:[1 2])}", "{a(b:[2 1])}", "{a(b:[1 -2])}", "{a(b:[1])}", "{a(b:1)}")
}

// Strings are held against each other by what they tell, however they are written.
func TestP20_2Strings(t *testing.T) {
	t.Parallel()
	all := [][]string{
		{"\"\"", q + q, q + "\n" + q, q + " \t \r\n  " + q},
		{"\"a\"", "\"\\u0061\"", q + "a" + q, q + "\n   a\n" + q, q + "\r\n\ta\r\n\t" + q, q + "\n\n a\n\n \n" + q},
		{"\"A\"", "\"\\u0041\""},
		{"\"\\u00e9\"", "\"\\u00E9\"", "\"\xc3\xa9\"", q + "\xc3\xa9" + q},
		{"\"e\\u0301\"", "\"e\xcc\x81\"", q + "e\xcc\x81" + q},
		{"\"\\ud83d\\ude00\"", "\"\\uD83D\\uDE00\"", "\"\xf0\x9f\x98\x80\"", q + "\n\xf0\x9f\x98\x80" + q},
		{"\"\\n\"", "\"\\u000a\"", "\"\\u000A\""},
		{"\"\\r\"", "\"\\u000d\""},
		{"\"\\r\\n\""},
		{"\"\\\\n\"", "\"\\u005cn\"", q + "\\n" + q, q + "\n \\n\n" + q},
		{"\"/\"", "\"\\/\"", "\"\\u002f\"", q + "/" + q},
		{"\"\\\"\"", "\"\\u0022\"", q + "\n\"\n" + q},
		{"\"\\\"\\\"\\\"\"", q + "\\" + q + q},
		{"\"\\t\"", "\"\t\"", "\"\\u0009\""},
		{"\"\\u0000\""},
		{"\"\\u0020\"", "\" \""},
		{"\"a\\n  b\"", q + "\n  a\n    b\n" + q, q + "\ra\r  b" + q, q + "\r\n\ta\r\n\t  b\r\n" + q},
		{"\"a\\nb\"", q + "a\n  b" + q, q + "a\r\nb" + q, q + "\n  a\n  b\n  " + q},
		{"\"a b\"", q + "a b" + q},
		{"\" a\"", q + " a" + q},
		{"\"a \"", q + "a " + q, q + "\n a \n" + q},
		{"\"a,b\"", q + "a,b" + q},
		{"\"a#b\"", q + "a#b" + q},
		{"\"" + bom + "\"", "\"\\ufeff\"", q + bom + q},
		{"\"\xef\xbf\xbd\"", "\"\\ufffd\""},
	}
	var first, second []string
	for _, l := range all {
		var same, also []string
		for _, x := range l {
			same = append(same, "{a(b:["+x+","+x+"])}")
			also = append(also, x+" type A{"+x+"a("+x+"b:C="+x+"):D}")
		}
		areSame(t, same...)
		areSame(t, also...)
		first, second = append(first, same...), append(second, also[0])
	}
	areOthers(t, second...)
	for i, a := range first {
		for _, b := range first[i:] {
			va, vb := Values(a)[6], Values(b)[6]
			if Same(a, b) != (va == vb) || Same(b, a) != (va == vb) {
				t.Errorf("Same(%q, %q) = %t", a, b, va != vb)
			}
		}
	}
}

// Two of the same that tell nothing are not the same; nor is one of these the same as what tells.
func TestP20_2None(t *testing.T) {
	none := []string{"", " ", "#", "a", "{", "{a", "{a}}", "{}", "%", "\"", "{a}%", "01", "query", "\xff", "\x00", bom, "{a}\"", q, "scalar", "}"}
	for _, a := range none {
		isNone(t, a)
		for _, b := range none {
			if Same(a, b) {
				t.Errorf("%q and %q are the same", a, b)
			}
		}
		for _, d := range documents() {
			if Same(a, d.words) || Same(d.words, a) {
				t.Errorf("%q and %q are the same", a, d.words)
			}
		}
	}
}

// Blanks, commas and comments between do not matter, of whatever kind, and wherever they stand.
func TestP20_3Between(t *testing.T) {
	t.Parallel()
	for _, d := range documents() {
		all := []string{d.words, d.tight()}
		for _, x := range between() {
			all = append(all, d.by(x), x+d.words, d.words+x, x+x+d.by(x+x)+x)
		}
		for _, x := range behind() {
			all = append(all, d.tight()+x)
		}
		rules, values := d.told(), d.values()
		for _, s := range all {
			isTold(t, s, rules, values...)
			if !Same(s, d.words) || !Same(d.words, s) {
				t.Errorf("%q and %q are not the same", s, d.words)
			}
		}
	}
	areSame(t, "{a b}", "{a,b}", "{a\tb}", "{a\rb}", "{a\nb}", "{a"+bom+"b}", "{a#c\nb}", "{a#\rb}", ",{,a,b,},", bom+"{a b}"+bom, "\r\n{\r\na\r\nb\r\n}\r\n")
}

// What is between matters where it parts what would be one token, or none.
func TestP20_3Parting(t *testing.T) {
	areOthers(t, "{a b}", "{ab}")
	areOthers(t, "query q{a}", "{a}")
	isNone(t, "queryq{a}")
	isNone(t, "{. ..a}")
	isNone(t, "{..,.a}")
	isNone(t, "{a(b:- 1)}")
	isNone(t, "{a(b:1 .5)}")
	isNone(t, "{a(b:1e 5)}")
	areOthers(t, "{a(b:\"c,d\")}", "{a(b:\"c d\")}", "{a(b:\"c\td\")}", "{a(b:\"cd\")}", "{a(b:[\"c\" \"d\"])}", "{a(b:\"c#d\")}", "{a(b:\"c"+bom+"d\")}")
}

// What is the same is so both ways, and as what is the same as it, and has the same rules and values.
func TestP20_3Both(t *testing.T) {
	all := []string{"", "{a", "a}", "%", "{a,}", "{b}", "{\"a\"}", "{b b}"}
	for i, d := range documents() {
		if i%3 == 0 || i < 3 {
			all = append(all, d.words, d.by("\n,"), bom+strings.ReplaceAll(d.tight(), "\"", q)+"#c")
		}
	}
	same := make([][]bool, len(all))
	for i, a := range all {
		for _, b := range all {
			same[i] = append(same[i], Same(a, b))
		}
	}
	for i, a := range all {
		rules, isA := Rules(a)
		values := Values(a)
		for j, b := range all {
			others, isB := Rules(b)
			alike := isA && isB && slices.Equal(rules, others) && slices.Equal(values, Values(b))
			if same[i][j] != same[j][i] || same[i][j] != alike {
				t.Errorf("Same of %q and %q is %t, %t, but alike %t", a, b, same[i][j], same[j][i], alike)
			}
			if same[i][j] && !slices.Equal(same[i], same[j]) {
				t.Errorf("%q and %q are the same, but not as the same ones", a, b)
			}
		}
	}
}

// TestAllShort holds all texts of a few pieces against the words, and those that tell against
// each other.
func TestAllShort(t *testing.T) {
	t.Parallel()
	var told []string
	var said []said
	for _, x := range []struct {
		pieces string
		n      int
	}{
		{"{|}|a| |\"a\"|scalar|#|\n", 4},
		{"{|}|a |...|on |@a", 5},
		{"union |scalar |a |=|\"a\"", 5},
		{"\"|\\|a|\n|{|}", 5},
	} {
		texts(strings.Split(x.pieces, "|"), x.n, func(s string) {
			if want := saidOf(s); want.is {
				isTold(t, s, want.rules, want.values...)
				told, said = append(told, s), append(said, want)
			} else if Doc(s) || Same(s, s) || len(Values(s)) != 0 {
				t.Errorf("%q tells a document", s)
			}
		})
	}
	if len(told) < 100 {
		t.Errorf("only %d tell a document", len(told))
	}
	for i, a := range told {
		for j := i % 7; j < len(told); j += 7 {
			same := slices.Equal(said[i].terms, said[j].terms) && slices.Equal(said[i].values, said[j].values)
			if Same(a, told[j]) != same {
				t.Errorf("Same(%q, %q) = %t", a, told[j], !same)
			}
		}
	}
}

// isLong wants a source of many of one piece to be the same as itself, but not with one more or
// one fewer, and to tell nothing with one token that goes wrong.
func isLong(t *testing.T, n int, ahead, piece, behind, more string) {
	t.Helper()
	s := ahead + strings.Repeat(piece, n) + behind
	rules, is := Rules(s)
	if !is || len(rules) < n || len(Values(s)) < n || !Same(s, bom+strings.ReplaceAll(s, " ", ",\n")+"#c") {
		t.Errorf("%d of %q: %d rules, or not the same", n, piece, len(rules))
	}
	for _, other := range []string{ahead + strings.Repeat(piece, n-1) + behind, s + more} {
		if !Doc(other) || Same(s, other) || Same(other, s) {
			t.Errorf("%d of %q are the same as more or fewer", n, piece)
		}
	}
	for _, cut := range []string{s + "}", s + "%", s + "\"", "}" + s, s[:len(s)-1] + "\x00"} {
		if Doc(cut) || Same(s, cut) || len(Values(cut)) != 0 {
			t.Errorf("%d of %q, and one that goes wrong, tell a document", n, piece)
		}
	}
}

// Long sources are gone through once: were they gone through again and again, this would not end in time.
func TestLong(t *testing.T) {
	t.Parallel()
	isLong(t, 1<<12, "{", "a ", "}", "{b}")
	isLong(t, 120, "", "{a}", "", "{b}")
	isLong(t, 120, "", "scalar A ", "scalar B", "{b}")
	isLong(t, 120, "{a(b:[", "1,", "])}", "{b}")
	isLong(t, 120, "{a(b:[", "\"\\n\",", "])}", "{b}")
	isLong(t, 120, "{a(b:{", "c:\"d\" ", "c:1})}", "{b}")
	isLong(t, 120, "union U=", "A|", "B", " scalar B")
	isLong(t, 120, "enum E{", "\"d\"A@b ", "}", "scalar B")
	isLong(t, 120, "type T{", "a(b:C=1):[D!]! ", "}", "scalar B")
	isLong(t, 120, "{a", "@b(c:1)", "}", "{b}")
}

func TestLongTexts(t *testing.T) {
	t.Parallel()
	const n = 1 << 17
	a := strings.Repeat("a", n)
	areSame(t, "{"+a+"}", ",{"+a+" }")
	areOthers(t, "{"+a+"}", "{"+a+"a}", "{"+a[1:]+"b}")
	isTold(t, "\""+a+"\"scalar S", numbers("0 7 54 21 1"), a, "scalar", "S")
	areSame(t, "\""+a+"\\n"+a+"\"scalar S", q+"\n  "+a+"\n  "+a+"\n"+q+"scalar S")
	areSame(t, "{a}", "#"+a+"\n{a}", strings.Repeat(" ", n)+"{a"+strings.Repeat(",", n)+"}", strings.Repeat("#\n", n)+"{"+strings.Repeat(bom, n)+"a}#"+a)
	isNone(t, strings.Repeat(" ", n))
	isNone(t, strings.Repeat("#\r", n))
	isNone(t, "\""+a)
	isNone(t, q+a)
	isNone(t, "{"+a)
	isNone(t, strings.Repeat("0", n))
	isNone(t, strings.Repeat("9", n))
	isNone(t, strings.Repeat("\"", n))
	isNone(t, strings.Repeat(".", n))
	isNone(t, strings.Repeat("\xff", n))
}

// isDeep wants groups within each other to be a document, and none with one end more or fewer.
func isDeep(t *testing.T, n int, ahead, opens, middle, closes, behind string) {
	t.Helper()
	deep := func(n, m int) string {
		return ahead + strings.Repeat(opens, n) + middle + strings.Repeat(closes, m) + behind
	}
	s := deep(n, n)
	rules, is := Rules(s)
	if !is || len(rules) < n || len(Values(s)) < 2*n || !Same(s+"\n", ","+s) {
		t.Errorf("%d of %q: %d rules, or not the same", n, opens, len(rules))
	}
	if less := deep(n-1, n-1); !Doc(less) || Same(s, less) || Same(less, s) {
		t.Errorf("%d of %q are the same as one fewer", n, opens)
	}
	for _, cut := range []string{deep(n, n-1), deep(n, n+1), deep(n, 0), deep(0, n), s[:len(s)-1]} {
		if Doc(cut) || Same(s, cut) || Same(cut, cut) {
			t.Errorf("%d of %q, with other ends, tell a document", n, opens)
		}
	}
}

// Groups deep within each other are no harder than those side by side.
func TestDeep(t *testing.T) {
	t.Parallel()
	isDeep(t, 1<<11, "", "{a", "", "}", "")
	isDeep(t, 120, "", "{...", "{a}", "}", "")
	isDeep(t, 120, "", "{...on T@d", "{a}", "}", "")
	isDeep(t, 120, "{a(b:", "[", "1", "]", ")}")
	isDeep(t, 120, "{a(b:", "{c:", "d", "}", ")}")
	isDeep(t, 120, "{a(b:", "[{c:", "\"d\"", "}]", ")}")
	isDeep(t, 120, "query($v:", "[", "T", "!]", "){a}")
	const n = 1 << 12
	if s := "{a(b:" + strings.Repeat("[", n) + strings.Repeat("]", n) + ")}"; !Same(s, " "+s) {
		t.Error("many empty lists tell no document")
	}
	for _, s := range []string{"{", "[", "}", "{a(b:", "{a(b:[{c:", "query($v:["} {
		isNone(t, strings.Repeat(s, n))
	}
}

// What is answered is the caller's own (R3): changing it changes nothing that is answered later.
func TestOwnLists(t *testing.T) {
	for _, d := range documents() {
		rules, _ := Rules(d.words)
		more, _ := Rules(d.words)
		values, others := Values(d.words), Values(d.words)
		for i := range rules {
			rules[i] = -1
		}
		for i := range values {
			values[i] = "x"
		}
		if !slices.Equal(more, d.told()) || !slices.Equal(others, d.values()) {
			t.Errorf("%q: %v and %q are another answer's", d.words, more, others)
		}
		_, _ = append(rules, -1), append(values, "x")
		isTold(t, d.words, d.told(), d.values()...)
	}
}

// TestPart wants a part of a greater source to be read up to its end, and not beyond.
func TestPart(t *testing.T) {
	const whole = "{a}{b(c:12)}scalar S\"d\"scalar T#{\n{e}"
	for from := range len(whole) + 1 {
		for to := from; to <= len(whole); to++ {
			isAsSaid(t, whole[from:to])
			if want := saidOf(whole[from:to]).is && from == 0 && to == len(whole); Same(whole[from:to], whole) != want {
				t.Errorf("Same(%q, %q) = %t", whole[from:to], whole, !want)
			}
		}
	}
}

// TestSameEachTime asks again behind other questions (R5).
func TestSameEachTime(t *testing.T) {
	for range 3 {
		for _, d := range documents() {
			isNone(t, "{a")
			isTold(t, d.words, d.told(), d.values()...)
			isNone(t, "")
			areOthers(t, d.words, d.words+" {z}")
		}
	}
}

// Calls at one time answer as those one behind the other: nothing is shared between them.
func TestAtOnce(t *testing.T) {
	var all sync.WaitGroup
	for _, d := range documents() {
		all.Go(func() {
			for range 20 {
				isTold(t, d.words, d.told(), d.values()...)
				isNone(t, d.words+"}")
				areSame(t, d.words, d.tight())
			}
		})
	}
	all.Wait()
}
