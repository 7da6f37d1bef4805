package kind

import (
	"math"
	"slices"
	"strings"
	"testing"

	"copperplate/api"
	"copperplate/lex"
)

// The chapter's words once more, apart from the program's own: a terminal is told by its
// number, as the document gives it.

const (
	wantedInt    = 15
	wantedFloat  = 16
	wantedString = 17
	wantedName   = 18
)

func puncts() map[string]int {
	return map[string]int{
		"!": 1, "$": 2, "&": 3, "(": 4, ")": 5, "...": 6, ":": 7, "=": 8, "@": 9, "[": 10, "]": 11, "{": 12, "|": 13, "}": 14,
	}
}

func names() map[string]int {
	return map[string]int{
		"query": 19, "mutation": 20, "subscription": 21, "fragment": 22, "on": 23, "type": 24, "interface": 25, "enum": 26, "union": 27, "input": 28, "scalar": 29, "implements": 30,
	}
}

func wantedOf(kind int, s string) int {
	switch kind {
	case 1:
		return puncts()[s]
	case 2:
		if te, has := names()[s]; has {
			return te
		}
		return wantedName
	case 3:
		return wantedInt
	case 4:
		return wantedFloat
	case 5:
		return wantedString
	}
	return 0
}

func wantedText(te int) (string, bool) {
	for _, of := range []map[string]int{puncts(), names()} {
		for s, n := range of {
			if n == te {
				return s, true
			}
		}
	}
	return "", false
}

func tok(kind int, s string) api.Tok { return api.Tok{Kind: kind, Text: s} }

func isOf(t *testing.T, kind int, s string, want int) {
	t.Helper()
	if got := Of(tok(kind, s)); got != want {
		t.Errorf("Of(%d, %q) = %d, not %d", kind, s, got, want)
	}
}

func isIn(t *testing.T, class, te int, want bool) {
	t.Helper()
	if got := In(class, te); got != want {
		t.Errorf("In(%d, %d) = %v, not %v", class, te, got, want)
	}
}

func isText(t *testing.T, te int, want string, has bool) {
	t.Helper()
	if got, is := Text(te); got != want || is != has {
		t.Errorf("Text(%d) = %q, %v, not %q, %v", te, got, is, want, has)
	}
}

// others are texts that are no terminal's own, but near to one that is.
func others() []string {
	l := []string{"", " ", "a", "_", "Query", "on_", "_on", "on1", "o", "n", "types", "typ", "end", "name", "int", "TeOn", ".", "..", "....", "......", "!!", "{}", "()", "[]", "!$", "||", " !", "! ", "#", ",", "\"", "-", "\x00", "\x00on", "on\x00", "\xff", "\xef\xbb\xbf", "\xc3\xa9", "0", "1", "-1", "1.5", "extend", "schema", "directive", "true", "null", "queryquery"}
	for s := range names() {
		l = append(l, s+"s", s+"_", "a"+s, s[1:], s[:len(s)-1], strings.ToUpper(s), strings.ToUpper(s[:1])+s[1:], s[:len(s)-1]+strings.ToUpper(s[len(s)-1:]), " "+s, s+" ")
	}
	for s := range puncts() {
		l = append(l, s+" ", " "+s, s+s, s+"a", s+"\x00")
		for other := range puncts() {
			l = append(l, s+other)
		}
	}
	return l
}

// allTexts are those of the terminals, and others.
func allTexts() []string {
	l := others()
	for s := range puncts() {
		l = append(l, s)
	}
	for s := range names() {
		l = append(l, s)
	}
	for c := range 256 {
		l = append(l, string([]byte{byte(c)}))
	}
	return l
}

// outside are numbers below 0, and n and above it, far ones among them.
func outside(n int) []int {
	return []int{math.MinInt, math.MinInt + 1, math.MinInt32, -256, -n, -2, -1, n, n + 1, 2 * n, 256, 1 << 16, math.MaxInt32, 1 << 32, 1<<32 + 1, math.MaxInt - 1, math.MaxInt}
}

func TestP10_1Puncts(t *testing.T) {
	if len(puncts()) != 14 {
		t.Fatal("not fourteen")
	}
	for s, te := range puncts() {
		isOf(t, api.TkPunct, s, te)
	}
	for _, x := range []struct {
		s  string
		te int
	}{
		{"!", api.TeBang}, {"$", api.TeDollar}, {"&", api.TeAmp}, {"(", api.TeOpen}, {")", api.TeClose}, {"...", api.TeDots}, {":", api.TeColon},
		{"=", api.TeEqual}, {"@", api.TeAt}, {"[", api.TeLeft}, {"]", api.TeRight}, {"{", api.TeBrace}, {"|", api.TeBar}, {"}", api.TeEnds},
	} {
		isOf(t, api.TkPunct, x.s, x.te)
	}
}

func TestP10_1Names(t *testing.T) {
	if len(names()) != 12 {
		t.Fatal("not twelve")
	}
	for s, te := range names() {
		isOf(t, api.TkName, s, te)
	}
	for _, x := range []struct {
		s  string
		te int
	}{
		{"query", api.TeQuery}, {"mutation", api.TeMutation}, {"subscription", api.TeSubscription}, {"fragment", api.TeFragment}, {"on", api.TeOn}, {"type", api.TeType},
		{"interface", api.TeInterface}, {"enum", api.TeEnum}, {"union", api.TeUnion}, {"input", api.TeInput}, {"scalar", api.TeScalar}, {"implements", api.TeImplements},
	} {
		isOf(t, api.TkName, x.s, x.te)
	}
}

func TestP10_1OtherNames(t *testing.T) {
	for _, s := range others() {
		if _, has := names()[s]; has {
			t.Fatalf("%q has a terminal of its own", s)
		}
		isOf(t, api.TkName, s, api.TeName)
	}
	isOf(t, api.TkName, "", api.TeName)
	isOf(t, api.TkName, "ons", api.TeName)
	isOf(t, api.TkName, "o", api.TeName)
	isOf(t, api.TkName, "ON", api.TeName)
}

func TestP10_1OtherPuncts(t *testing.T) {
	for _, s := range others() {
		if _, has := puncts()[s]; !has {
			isOf(t, api.TkPunct, s, api.TeEnd)
		}
	}
	for _, s := range []string{"", "{}", "!!", "&|", ".", "..", "....", "... ", "....."} {
		isOf(t, api.TkPunct, s, api.TeEnd)
	}
}

func TestP10_1AnyText(t *testing.T) {
	for _, s := range allTexts() {
		isOf(t, api.TkInt, s, api.TeInt)
		isOf(t, api.TkFloat, s, api.TeFloat)
		isOf(t, api.TkString, s, api.TeString)
	}
}

func TestP10_1TwoKinds(t *testing.T) {
	for s := range puncts() {
		isOf(t, api.TkName, s, api.TeName)
	}
	for s := range names() {
		isOf(t, api.TkPunct, s, api.TeEnd)
	}
}

func TestP10_1NoKind(t *testing.T) {
	for _, s := range allTexts() {
		isOf(t, api.TkEnd, s, api.TeEnd)
		for _, kind := range outside(api.TkKinds) {
			isOf(t, kind, s, api.TeEnd)
		}
	}
}

func TestP10_1OtherPlaces(t *testing.T) {
	places := []int{math.MinInt, -1, 0, 1, 9, 23, math.MaxInt}
	for _, s := range []string{"", "on", "query", "implements", "a", "!", "...", "}", ".."} {
		for kind := -1; kind <= api.TkKinds; kind++ {
			want := wantedOf(kind, s)
			for _, at := range places {
				for _, end := range places {
					if got := Of(api.Tok{Kind: kind, Text: s, At: at, End: end}); got != want {
						t.Errorf("Of(%d, %q, %d, %d) = %d, not %d", kind, s, at, end, got, want)
					}
				}
			}
		}
	}
}

func TestP10_1AllTexts(t *testing.T) {
	for _, s := range allTexts() {
		for kind := -2; kind <= api.TkKinds+1; kind++ {
			isOf(t, kind, s, wantedOf(kind, s))
		}
	}
	long := strings.Repeat("on", 1<<20)
	isOf(t, api.TkName, long, api.TeName)
	isOf(t, api.TkPunct, strings.Repeat(".", 1<<20), api.TeEnd)
	isOf(t, api.TkString, long, api.TeString)
}

func isAll(t *testing.T, l []api.Tok, want ...int) {
	t.Helper()
	kept := slices.Clone(l)
	if got := All(l); !slices.Equal(got, want) {
		t.Errorf("All(%v) = %v, not %v", l, got, want)
	}
	if !slices.Equal(l, kept) {
		t.Errorf("All changed %v to %v", kept, l)
	}
}

func TestP10_1All(t *testing.T) {
	isAll(t, nil)
	isAll(t, []api.Tok{})
	isAll(t, []api.Tok{{}}, api.TeEnd)
	isAll(t, []api.Tok{tok(api.TkName, "on")}, api.TeOn)
	isAll(t, []api.Tok{tok(-1, "on")}, api.TeEnd)
	isAll(t, []api.Tok{tok(api.TkPunct, "{"), tok(api.TkName, "a"), tok(api.TkPunct, "}")}, api.TeBrace, api.TeName, api.TeEnds)
	isAll(t, []api.Tok{tok(api.TkPunct, "}"), tok(api.TkName, "a"), tok(api.TkPunct, "{")}, api.TeEnds, api.TeName, api.TeBrace)
	isAll(t, []api.Tok{tok(api.TkName, "on"), tok(api.TkName, "on"), tok(api.TkName, "query")}, api.TeOn, api.TeOn, api.TeQuery)
	isAll(t, []api.Tok{tok(api.TkEnd, ""), tok(api.TkPunct, "..."), tok(api.TkPunct, ".."), tok(api.TkKinds, "a"), tok(api.TkInt, "1"), tok(api.TkString, ""), tok(api.TkFloat, "on")},
		api.TeEnd, api.TeDots, api.TeEnd, api.TeEnd, api.TeInt, api.TeString, api.TeFloat)
}

func TestP10_1AllOfMany(t *testing.T) {
	var l []api.Tok
	var want []int
	for _, s := range allTexts() {
		for kind := -1; kind <= api.TkKinds; kind++ {
			l = append(l, api.Tok{Kind: kind, Text: s, At: len(l), End: -len(l)})
			want = append(want, wantedOf(kind, s))
		}
	}
	isAll(t, l, want...)
	slices.Reverse(l)
	slices.Reverse(want)
	isAll(t, l, want...)
	isAll(t, l[1:7], want[1:7]...)
	const n = 1 << 18
	if got := All(make([]api.Tok, n)); !slices.Equal(got, make([]int, n)) {
		t.Error("of many of no kind")
	}
}

// What is answered is the caller's own (R3).
func TestP10_1OwnLists(t *testing.T) {
	l := []api.Tok{tok(api.TkName, "on"), tok(api.TkPunct, "!")}
	first, second := All(l), All(l)
	first[0], first[1] = -1, -1
	l[0], l[1] = api.Tok{}, api.Tok{}
	if !slices.Equal(second, []int{api.TeOn, api.TeBang}) {
		t.Error(second)
	}
	isAll(t, []api.Tok{tok(api.TkName, "on"), tok(api.TkPunct, "!")}, api.TeOn, api.TeBang)
}

func TestP10_2EachTerminal(t *testing.T) {
	for te := range api.Terminals {
		isIn(t, api.ClName, te, te >= 18)
		isIn(t, api.ClFree, te, te >= 18 && te != 23)
		isIn(t, api.ClOper, te, te == 19 || te == 20 || te == 21)
	}
}

func TestP10_2Edges(t *testing.T) {
	for _, x := range []struct {
		te               int
		name, free, oper bool
	}{
		{api.TeEnd, false, false, false}, {api.TeBang, false, false, false}, {api.TeEnds, false, false, false}, {api.TeInt, false, false, false}, {api.TeString, false, false, false},
		{api.TeName, true, true, false}, {api.TeQuery, true, true, true}, {api.TeMutation, true, true, true}, {api.TeSubscription, true, true, true},
		{api.TeFragment, true, true, false}, {api.TeOn, true, false, false}, {api.TeType, true, true, false}, {api.TeImplements, true, true, false},
		{api.Terminals, false, false, false}, {-1, false, false, false},
	} {
		isIn(t, api.ClName, x.te, x.name)
		isIn(t, api.ClFree, x.te, x.free)
		isIn(t, api.ClOper, x.te, x.oper)
	}
}

func TestP10_2Wrong(t *testing.T) {
	for class := range api.Classes {
		for _, te := range outside(api.Terminals) {
			isIn(t, class, te, false)
		}
	}
	for _, class := range outside(api.Classes) {
		for te := -1; te <= api.Terminals; te++ {
			isIn(t, class, te, false)
		}
		for _, te := range outside(api.Terminals) {
			isIn(t, class, te, false)
		}
	}
}

func TestP10_3EachTerminal(t *testing.T) {
	for te := range api.Terminals {
		s, has := wantedText(te)
		isText(t, te, s, has)
	}
	isText(t, api.TeDots, "...", true)
	isText(t, api.TeBang, "!", true)
	isText(t, api.TeEnds, "}", true)
	isText(t, api.TeQuery, "query", true)
	isText(t, api.TeOn, "on", true)
	isText(t, api.TeImplements, "implements", true)
}

func TestP10_3Wrong(t *testing.T) {
	for _, te := range []int{api.TeEnd, api.TeInt, api.TeFloat, api.TeString, api.TeName} {
		isText(t, te, "", false)
	}
	for _, te := range outside(api.Terminals) {
		isText(t, te, "", false)
	}
}

func TestP10_4TextsOfTheirTerminals(t *testing.T) {
	texted := 0
	for te := range api.Terminals {
		s, is := Text(te)
		if !is {
			continue
		}
		texted++
		punct, name := Of(tok(api.TkPunct, s)), Of(tok(api.TkName, s))
		if In(api.ClName, te) {
			if name != te || punct != api.TeEnd {
				t.Errorf("%q of %d: as a name %d, as a punctuation %d", s, te, name, punct)
			}
		} else if punct != te || name != api.TeName {
			t.Errorf("%q of %d: as a punctuation %d, as a name %d", s, te, punct, name)
		}
	}
	if texted != 14+12 {
		t.Errorf("%d terminals have a text", texted)
	}
}

func TestP10_4TerminalsOfTheirTexts(t *testing.T) {
	for _, s := range allTexts() {
		for kind := -1; kind <= api.TkKinds; kind++ {
			te := Of(tok(kind, s))
			if te < 0 || te >= api.Terminals {
				t.Errorf("Of(%d, %q) = %d", kind, s, te)
			}
			if own, is := Text(te); is && own != s {
				t.Errorf("Of(%d, %q) = %d, which has the text %q", kind, s, te, own)
			}
			if In(api.ClName, te) != (kind == api.TkName) {
				t.Errorf("Of(%d, %q) = %d: in ClName: %v", kind, s, te, In(api.ClName, te))
			}
		}
	}
}

// A terminal's text, read as a source, is one token of that terminal.
func TestP10_4Lexed(t *testing.T) {
	source, want := "", []int{}
	for te := range api.Terminals {
		s, is := Text(te)
		if !is {
			continue
		}
		l, _, _ := lex.Lex(s)
		isAll(t, l, te)
		source, want = source+" "+s, append(want, te)
	}
	l, _, _ := lex.Lex(source + " a 1 -2.5 \"on\"")
	isAll(t, l, append(want, api.TeName, api.TeInt, api.TeFloat, api.TeString)...)
}

func TestExample(t *testing.T) {
	te := Of(tok(api.TkName, "on"))
	if te != api.TeOn || !In(api.ClName, te) || In(api.ClFree, te) {
		t.Error(te)
	}
}

// TestSameEachTime asks again behind other questions (R5).
func TestSameEachTime(t *testing.T) {
	for range 3 {
		for _, s := range allTexts() {
			for kind := -1; kind <= api.TkKinds; kind++ {
				isOf(t, kind, s, wantedOf(kind, s))
			}
		}
		for te := -1; te <= api.Terminals; te++ {
			s, has := wantedText(te)
			isText(t, te, s, has)
			isIn(t, api.ClName, te, 18 <= te && te <= 30)
		}
	}
}
