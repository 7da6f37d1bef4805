package lex

import (
	"fmt"
	"math"
	"regexp"
	"slices"
	"strings"
	"testing"
	"unicode/utf8"

	"copperplate/api"
	"copperplate/fold"
	"copperplate/num"
	"copperplate/text"
)

const (
	q    = "\"\"\""
	mark = "\xef\xbb\xbf"
)

type answer struct {
	tok api.Tok
	e   api.Errno
	at  int
}

type answers struct {
	l  []api.Tok
	e  api.Errno
	at int
}

func one(s string, i int) answer {
	tok, e, at := One(s, i)
	return answer{tok, e, at}
}

func lexed(s string) answers {
	l, e, at := Lex(s)
	return answers{l, e, at}
}

func tok(kind int, value string, at, end int) api.Tok {
	return api.Tok{Kind: kind, Text: value, At: at, End: end}
}

func is(kind int, value string, at, end int) answer {
	return answer{tok(kind, value, at, end), api.OK, end}
}

func goesWrong(e api.Errno, at int) answer { return answer{e: e, at: at} }

// The chapter's words once more, apart from the program's own.

var (
	wantedSign  = regexp.MustCompile(`^(?:[!$&():=@{|}]|\[|\]|\.{3})`)
	wantedName  = regexp.MustCompile(`^[_A-Za-z][_0-9A-Za-z]*`)
	wantedBlank = regexp.MustCompile(`^(?:[\t\n\r ,]|\x{feff}|#[^\n\r]*)*`)
)

func wantedOne(s string, i int) answer {
	if i < 0 || i >= len(s) {
		return goesWrong(api.ErrByte, i)
	}
	rest := s[i:]
	if sign := wantedSign.FindString(rest); sign != "" {
		return is(api.TkPunct, sign, i, i+len(sign))
	}
	if name := wantedName.FindString(rest); name != "" {
		return is(api.TkName, name, i, i+len(name))
	}
	switch {
	case strings.ContainsAny(rest[:1], "-0123456789"):
		if kind, end, ok := num.Number(rest, 0); ok {
			return is(kind, rest[:end], i, i+end)
		} else {
			return goesWrong(api.ErrNum, i+end)
		}
	case strings.HasPrefix(rest, q):
		if raw, end, ok := fold.Raw(rest, 0); ok {
			return is(api.TkString, fold.Fold(raw), i, i+end)
		} else {
			return goesWrong(api.ErrString, i+end)
		}
	case rest[0] == 34:
		if value, end, ok := text.String(rest, 0); ok {
			return is(api.TkString, value, i, i+end)
		} else {
			return goesWrong(api.ErrString, i+end)
		}
	}
	return goesWrong(api.ErrByte, i)
}

// wantedBad is the first place of s where no source character stands, -1 if there is none.
func wantedBad(s string) int {
	for i, c := range s {
		if c == utf8.RuneError && !strings.HasPrefix(s[i:], "\xef\xbf\xbd") || c < 32 && c != 9 && c != 10 && c != 13 {
			return i
		}
	}
	return -1
}

func wantedLex(s string) answers {
	if bad := wantedBad(s); bad >= 0 {
		return answers{nil, api.ErrByte, bad}
	}
	blank := func(at int) int { return at + len(wantedBlank.FindString(s[at:])) }
	l := []api.Tok{}
	for at := blank(0); at < len(s); {
		x := wantedOne(s, at)
		if x.e != api.OK {
			return answers{nil, x.e, x.at}
		}
		l = append(l, x.tok)
		at = blank(x.at)
	}
	return answers{l, api.OK, len(s)}
}

func isOne(t *testing.T, s string, i int, want answer) {
	t.Helper()
	if got := one(s, i); got != want {
		t.Errorf("One(%q, %d) = %q, not %q", s, i, fmt.Sprint(got), fmt.Sprint(want))
	}
}

func isLex(t *testing.T, s string, want answers) {
	t.Helper()
	if got := lexed(s); got.e != want.e || got.at != want.at || !slices.Equal(got.l, want.l) {
		t.Errorf("Lex(%q) = %q, not %q", s, fmt.Sprint(got), fmt.Sprint(want))
	}
}

// tells wants those tokens, and no error, of s.
func tells(t *testing.T, s string, want ...api.Tok) {
	t.Helper()
	isLex(t, s, answers{want, api.OK, len(s)})
}

func tellsNot(t *testing.T, s string, e api.Errno, at int) {
	t.Helper()
	isLex(t, s, answers{nil, e, at})
}

// asWanted holds One at each place of s, and beside them, and Lex of s, against the chapter's words.
func asWanted(t *testing.T, s string) {
	t.Helper()
	for i := -2; i <= len(s)+2; i++ {
		isOne(t, s, i, wantedOne(s, i))
	}
	isLex(t, s, wantedLex(s))
	isBetween(t, s)
}

// isBetween wants the tokens of s one behind the other, with what counts for nothing ahead
// of each, and behind the last one.
func isBetween(t *testing.T, s string) {
	t.Helper()
	got := lexed(s)
	if got.e != api.OK {
		return
	}
	end := 0
	for _, x := range append(got.l, tok(api.TkEnd, "", len(s), len(s)+1)) {
		if x.At < end || x.End <= x.At || wantedBlank.FindString(s[end:x.At]) != s[end:x.At] {
			t.Errorf("Lex(%q) = %q: behind %d", s, fmt.Sprint(got.l), end)
			return
		}
		end = x.End
	}
}

// texts hands on every text of up to n pieces.
func texts(pieces []string, n int, tell func(s string)) {
	var grow func(s string, n int)
	grow = func(s string, n int) {
		tell(s)
		if n == 0 {
			return
		}
		for _, p := range pieces {
			grow(s+p, n-1)
		}
	}
	grow("", n)
}

func oneOf(c int) string { return string([]byte{byte(c)}) }

// sample is a text that is one token of that kind, and what that has as its Text.
type sample struct {
	s    string
	kind int
	told string
}

func samples() []sample {
	var all []sample
	for kind, list := range map[int][]string{
		api.TkPunct: {"!", "$", "&", "(", ")", ":", "=", "@", "[", "]", "{", "|", "}", "..."},
		api.TkName:  {"a", "Z", "_", "__", "z9", "_0", "query", "aB_9c__01", "e5", "true"},
		api.TkInt:   {"0", "-0", "7", "-1", "120", "98765432109876543210"},
		api.TkFloat: {"0.0", "-2.50", "1e5", "1E+5", "-12.5e-03"},
	} {
		for _, s := range list {
			all = append(all, sample{s, kind, s})
		}
	}
	for s, told := range map[string]string{
		"\"\"": "", "\"a\"": "a", "\" a \"": " a ", "\"\\\"\"": "\"", "\"\\\\\"": "\\", "\"\\n\\t\\/\\b\"": "\n\t/\b", "\"\\u0000\\u00e9\"": "\x00\xc3\xa9", "\"\\ud83d\\ude00\"": "\xf0\x9f\x98\x80",
		"\"\xc3\xa9\xe2\x82\xac\"": "\xc3\xa9\xe2\x82\xac", "\"#,{...}\"": "#,{...}", "\"" + mark + "\t\"": mark + "\t",
		q + q: "", q + "a" + q: "a", q + " a " + q: " a ", q + "\n  a\r\n    b\r  " + q: "a\n  b", q + "\n \n" + q: "", q + "  a\n  b" + q: "  a\nb",
		q + "\\" + q + q: q, q + "a\\" + q + "b\\n" + q: "a" + q + "b\\n", q + "\"a\"\"b" + q: "\"a\"\"b", q + "\\u0041\\q" + q: "\\u0041\\q", q + "#,\xc3\xa9" + mark + q: "#,\xc3\xa9" + mark,
	} {
		all = append(all, sample{s, api.TkString, told})
	}
	return all
}

// more are bytes that may stand right behind a sample, so that it stays that token.
func (x sample) more() string {
	switch {
	case x.kind == api.TkName:
		return "!.-\" %\x00\xff#,{\n"
	case x.kind == api.TkInt || x.kind == api.TkFloat:
		return "!-\" %\x00\xff#,{\n"
	case x.s == "\"\"":
		return "!.-a1 %\x00\xff#,{\n\\"
	}
	return "!.-a1\" %\x00\xff#,{\n\\"
}

func TestP9_1Tokens(t *testing.T) {
	for _, x := range samples() {
		more := x.more()
		isOne(t, x.s, 0, is(x.kind, x.told, 0, len(x.s)))
		isOne(t, "{a: "+x.s, 4, is(x.kind, x.told, 4, 4+len(x.s)))
		isOne(t, "\x00\xff%"+x.s, 3, is(x.kind, x.told, 3, 3+len(x.s))) // what stands ahead does not matter
		for k := range len(more) {
			isOne(t, x.s+more[k:k+1], 0, is(x.kind, x.told, 0, len(x.s)))
			isOne(t, ","+x.s+more[k:], 1, is(x.kind, x.told, 1, 1+len(x.s)))
		}
	}
}

// Each byte alone and with more behind it: which begin a token, and which do not.
func TestP9_1EachByte(t *testing.T) {
	for c := range 256 {
		b := oneOf(c)
		var alone, behind answer // with nothing, and with a blank and an a behind it
		switch {
		case strings.Contains("!$&():=@[]{|}", b):
			alone, behind = is(api.TkPunct, b, 0, 1), is(api.TkPunct, b, 0, 1)
		case c == 95 || 65 <= c && c <= 90 || 97 <= c && c <= 122:
			alone, behind = is(api.TkName, b, 0, 1), is(api.TkName, b, 0, 1)
		case 48 <= c && c <= 57:
			alone, behind = is(api.TkInt, b, 0, 1), is(api.TkInt, b, 0, 1)
		case c == 45:
			alone, behind = goesWrong(api.ErrNum, 1), goesWrong(api.ErrNum, 1)
		case c == 34:
			alone, behind = goesWrong(api.ErrString, 1), goesWrong(api.ErrString, 3)
		default:
			alone, behind = goesWrong(api.ErrByte, 0), goesWrong(api.ErrByte, 0)
		}
		isOne(t, b, 0, alone)
		isOne(t, b+" a", 0, behind)
		for _, x := range []string{b + b, b + "a", "a" + b, b + "1", "1" + b, b + ".", "." + b, ".." + b, "..." + b, "\"" + b + "\"", "\"\"" + b, b + "\"\"", "-" + b, q + b + q, "#" + b + "\n0", mark[:2] + b} {
			asWanted(t, x)
		}
	}
}

func TestP9_1Dots(t *testing.T) {
	for s, want := range map[string]answer{
		".": goesWrong(api.ErrByte, 0), "..": goesWrong(api.ErrByte, 0), "...": is(api.TkPunct, "...", 0, 3), "....": is(api.TkPunct, "...", 0, 3), "......": is(api.TkPunct, "...", 0, 3),
		". ..": goesWrong(api.ErrByte, 0), ".. .": goesWrong(api.ErrByte, 0), "..a": goesWrong(api.ErrByte, 0), ".5": goesWrong(api.ErrByte, 0), "..5": goesWrong(api.ErrByte, 0), ".a.": goesWrong(api.ErrByte, 0),
		"...on": is(api.TkPunct, "...", 0, 3), "...5": is(api.TkPunct, "...", 0, 3), "... ": is(api.TkPunct, "...", 0, 3), "...\xff": is(api.TkPunct, "...", 0, 3),
	} {
		isOne(t, s, 0, want)
	}
	for i, want := range []answer{goesWrong(api.ErrByte, -1), is(api.TkName, "a", 0, 1), is(api.TkPunct, "...", 1, 4), is(api.TkPunct, "...", 2, 5), goesWrong(api.ErrByte, 3), goesWrong(api.ErrByte, 4), goesWrong(api.ErrByte, 5)} {
		isOne(t, "a....", i-1, want)
	}
}

func TestP9_1NoPlace(t *testing.T) {
	for _, s := range []string{"", "a", "{a}", "\"a\"", "-1", "...", q + "a" + q, " ", "#a", "\xff"} {
		for _, i := range []int{len(s), len(s) + 1, len(s) + 2, len(s) + 3, -1, -2, -len(s) - 1, math.MaxInt, math.MaxInt - 2, math.MinInt, math.MinInt + 2, 1 << 32, -1 << 32} {
			isOne(t, s, i, goesWrong(api.ErrByte, i))
		}
	}
}

// A place within a token, a string, a comment or what counts for nothing is asked as any other one.
func TestP9_1Within(t *testing.T) {
	for _, x := range []struct {
		s    string
		i    int
		want answer
	}{
		{"abc1", 1, is(api.TkName, "bc1", 1, 4)}, {"abc1", 3, is(api.TkInt, "1", 3, 4)}, {"ab c", 1, is(api.TkName, "b", 1, 2)}, {"a0b", 1, goesWrong(api.ErrNum, 2)}, {"a01", 1, goesWrong(api.ErrNum, 2)},
		{"-12.5e3", 1, is(api.TkFloat, "12.5e3", 1, 7)}, {"-12.5e3", 3, goesWrong(api.ErrByte, 3)}, {"-12.5e3", 5, is(api.TkName, "e3", 5, 7)}, {"1e-5", 2, is(api.TkInt, "-5", 2, 4)}, {"1e+5", 2, goesWrong(api.ErrByte, 2)},
		{"\"a b\"", 1, is(api.TkName, "a", 1, 2)}, {"\"a b\"", 2, goesWrong(api.ErrByte, 2)}, {"\"a b\"", 4, goesWrong(api.ErrString, 5)}, {"\"a\"b\"", 2, is(api.TkString, "b", 2, 5)}, {"\"\\n\"", 1, goesWrong(api.ErrByte, 1)}, {"\"\\\"a\"", 2, is(api.TkString, "a", 2, 5)},
		{"\"\"", 1, goesWrong(api.ErrString, 2)}, {q, 1, is(api.TkString, "", 1, 3)}, {q, 2, goesWrong(api.ErrString, 3)}, {q + "a" + q, 1, is(api.TkString, "", 1, 3)}, {q + "a" + q, 2, is(api.TkString, "a", 2, 5)}, {q + "a" + q, 3, is(api.TkName, "a", 3, 4)}, {q + "a" + q, 4, goesWrong(api.ErrString, 7)},
		{q + "\\" + q + q, 4, is(api.TkString, "", 4, 10)}, {q + q, 1, goesWrong(api.ErrString, 6)}, {q + q, 3, goesWrong(api.ErrString, 6)},
		{"#a b", 0, goesWrong(api.ErrByte, 0)}, {"#a b", 1, is(api.TkName, "a", 1, 2)}, {"#a b", 2, goesWrong(api.ErrByte, 2)}, {"#{\n", 1, is(api.TkPunct, "{", 1, 2)}, {"##", 1, goesWrong(api.ErrByte, 1)},
		{" a", 0, goesWrong(api.ErrByte, 0)}, {",a", 0, goesWrong(api.ErrByte, 0)}, {"\ta", 0, goesWrong(api.ErrByte, 0)}, {"\na", 0, goesWrong(api.ErrByte, 0)}, {"\ra", 0, goesWrong(api.ErrByte, 0)}, // nothing is gone over
		{mark + "a", 0, goesWrong(api.ErrByte, 0)}, {mark + "a", 1, goesWrong(api.ErrByte, 1)}, {mark + "a", 2, goesWrong(api.ErrByte, 2)}, {mark + "a", 3, is(api.TkName, "a", 3, 4)},
		{"\xc3\xa9", 0, goesWrong(api.ErrByte, 0)}, {"\xc3\xa9", 1, goesWrong(api.ErrByte, 1)}, {"a\xc3\xa9", 0, is(api.TkName, "a", 0, 1)},
	} {
		isOne(t, x.s, x.i, x.want)
	}
}

func TestP9_1NumbersGoWrong(t *testing.T) {
	for s, at := range map[string]int{
		"-": 1, "- 1": 1, "-a": 1, "--1": 1, "-.5": 1, "00": 1, "01": 1, "-01": 2, "0x1": 1, "1a": 1, "1_": 1, "12a": 2, "-7g": 2,
		"1.": 2, "1.a": 2, "1..": 2, "1...": 2, "1.5.": 3, "1.5.5": 3, "1.e5": 2, "1e": 2, "1E": 2, "1e+": 3, "1e-": 3, "1e5.": 3, "1e5e": 3, "1e5a": 3, "1.5x": 3, "1e ": 2, "1e\xff": 2,
	} {
		isOne(t, s, 0, goesWrong(api.ErrNum, at))
		isOne(t, "\"a\" "+s, 4, goesWrong(api.ErrNum, at+4))
		if s != "1e\xff" {
			tellsNot(t, s, api.ErrNum, at)
			tellsNot(t, "{a "+s+" %\"", api.ErrNum, at+3)
		}
	}
}

func TestP9_1StringsGoWrong(t *testing.T) {
	for s, at := range map[string]int{
		"\"": 1, "\"a": 2, "\"\xc3\xa9": 3, "\"\n\"": 1, "\"a\rb\"": 2, "\"ab\n": 3, "\"\\": 1, "\"a\\": 2, "\"a\\\"": 4, "\"\\q\"": 1, "\"ab\\u12\"": 3, "\"\\u123g\"": 1, "\"\\ud800\"": 1, "\"\\udc00\"": 1, "\"\\ud83d\\u0041\"": 1, "\"\\U0041\"": 1, "\"\\ \"": 1, "\"\\\n\"": 1, // in quotes
		q: 3, q + "\"": 4, q + "\"\"": 5, q + "a": 4, q + "a\"": 5, q + "a\"\"": 6, q + "a\n b\n": 8, q + "\\" + q: 7, q + "a\\" + q: 8, q + "a\\" + q + "\"\"": 10, q + "\xc3\xa9": 5, q + "\"\" \"": 7, // of several lines
	} {
		isOne(t, s, 0, goesWrong(api.ErrString, at))
		isOne(t, "1 a:"+s, 4, goesWrong(api.ErrString, at+4))
		tellsNot(t, s, api.ErrString, at)
		tellsNot(t, "{a,"+s, api.ErrString, at+3)
	}
	for s, at := range map[string]int{
		"\"\x00\"": 1, "\"a\x1f\"": 2, "\"\xff\"": 1, "\"\xc3\"": 1, "\"\xc3\xa9\xa9\"": 3, "\"\xed\xa0\x80\"": 1, "\"\\q\xff\"": 1, q + "\x00" + q: 3, q + "a\xff" + q: 4, q + "\n\xe2\x82" + q: 4, q + "\"\xff": 4, // bytes of no source character
	} {
		isOne(t, s, 0, goesWrong(api.ErrString, at))
		isOne(t, "a"+s, 1, goesWrong(api.ErrString, at+1))
	}
}

func TestP9_1Quotes(t *testing.T) {
	for s, want := range map[string]answer{
		"\"\"": is(api.TkString, "", 0, 2), "\"\" \"": is(api.TkString, "", 0, 2), "\"\"a\"": is(api.TkString, "", 0, 2), "\"\"\n\"": is(api.TkString, "", 0, 2), "\"\"\\\"": is(api.TkString, "", 0, 2),
		q: goesWrong(api.ErrString, 3), q + "\"": goesWrong(api.ErrString, 4), q + "\"\"": goesWrong(api.ErrString, 5), q + q: is(api.TkString, "", 0, 6), q + q + "\"": is(api.TkString, "", 0, 6), q + q + q: is(api.TkString, "", 0, 6),
		q + " " + q + q: is(api.TkString, "", 0, 7), q + "\"a" + q: is(api.TkString, "\"a", 0, 8), q + "a\"" + q: is(api.TkString, "a", 0, 7), "\"\\\"" + q: is(api.TkString, "\"", 0, 4), "\"a" + q: is(api.TkString, "a", 0, 3),
	} {
		isOne(t, s, 0, want)
	}
}

func TestP9_2Sources(t *testing.T) {
	p, n := api.TkPunct, api.TkName
	tells(t, "{a(b:-1)}", tok(p, "{", 0, 1), tok(n, "a", 1, 2), tok(p, "(", 2, 3), tok(n, "b", 3, 4), tok(p, ":", 4, 5), tok(api.TkInt, "-1", 5, 7), tok(p, ")", 7, 8), tok(p, "}", 8, 9))
	tells(t, "query Q($v: [Int!] = [1.5]) @d { ...on T, b }",
		tok(n, "query", 0, 5), tok(n, "Q", 6, 7), tok(p, "(", 7, 8), tok(p, "$", 8, 9), tok(n, "v", 9, 10), tok(p, ":", 10, 11), tok(p, "[", 12, 13), tok(n, "Int", 13, 16), tok(p, "!", 16, 17), tok(p, "]", 17, 18), tok(p, "=", 19, 20),
		tok(p, "[", 21, 22), tok(api.TkFloat, "1.5", 22, 25), tok(p, "]", 25, 26), tok(p, ")", 26, 27), tok(p, "@", 28, 29), tok(n, "d", 29, 30), tok(p, "{", 31, 32), tok(p, "...", 33, 36), tok(n, "on", 36, 38), tok(n, "T", 39, 40), tok(n, "b", 42, 43), tok(p, "}", 44, 45))
	tells(t, q+"\n  d\n"+q+"type A&B|C", tok(api.TkString, "d", 0, 11), tok(n, "type", 11, 15), tok(n, "A", 16, 17), tok(p, "&", 17, 18), tok(n, "B", 18, 19), tok(p, "|", 19, 20), tok(n, "C", 20, 21))
	for _, x := range samples() {
		tells(t, x.s, tok(x.kind, x.told, 0, len(x.s)))
		tells(t, ",\n"+x.s+" #{ "+x.s[:1], tok(x.kind, x.told, 2, 2+len(x.s)))
	}
}

func TestP9_2Nothing(t *testing.T) {
	for _, s := range []string{"", " ", ",", "\t", "\n", "\r\n", mark, " ,,\t\r\n ", "#", "#\n", "#a", "#{\"a\n", "#a\r#b", " ,\t#only", mark + mark + "#" + mark, "#%\xc3\xa9\n,", "# \"\"\" ..", "##\n\r##"} {
		tells(t, s)
	}
}

func TestP9_2Between(t *testing.T) {
	n := api.TkName
	for _, between := range []string{" ", "  ", ",", ",,", "\t", "\n", "\r", "\r\n", mark, mark + mark, "#\n", "#x\r", "#\"%\n", " #a,b\n,", mark + "#" + mark + "\n" + mark, "#\xc3\xa9\r\n"} {
		k := len(between)
		tells(t, "a"+between+"b", tok(n, "a", 0, 1), tok(n, "b", 1+k, 2+k))
		tells(t, between+"a"+between, tok(n, "a", k, k+1))
		tells(t, "\"#\""+between+"1"+between+"-2", tok(api.TkString, "#", 0, 3), tok(api.TkInt, "1", 3+k, 4+k), tok(api.TkInt, "-2", 4+2*k, 6+2*k))
	}
	tells(t, "a #b", tok(n, "a", 0, 1))
	tells(t, "a#b\nc#", tok(n, "a", 0, 1), tok(n, "c", 4, 5))
	tells(t, mark+"{}", tok(api.TkPunct, "{", 3, 4), tok(api.TkPunct, "}", 4, 5))
}

// Tokens one behind the other, with nothing between.
func TestP9_2Close(t *testing.T) {
	p, n, s := api.TkPunct, api.TkName, api.TkString
	tells(t, "a\"b\"c", tok(n, "a", 0, 1), tok(s, "b", 1, 4), tok(n, "c", 4, 5))
	tells(t, "\"a\"\"b\"", tok(s, "a", 0, 3), tok(s, "b", 3, 6))
	tells(t, "\"a\"\"\"", tok(s, "a", 0, 3), tok(s, "", 3, 5))
	tells(t, "\"\"1", tok(s, "", 0, 2), tok(api.TkInt, "1", 2, 3))
	tells(t, q+q+"\"\"", tok(s, "", 0, 6), tok(s, "", 6, 8))
	tells(t, q+"a"+q+q+"b"+q, tok(s, "a", 0, 7), tok(s, "b", 7, 14))
	tells(t, q+"\\"+q+q+"x", tok(s, q, 0, 10), tok(n, "x", 10, 11))
	tells(t, "1-2-3.5\"\"", tok(api.TkInt, "1", 0, 1), tok(api.TkInt, "-2", 1, 3), tok(api.TkFloat, "-3.5", 3, 7), tok(s, "", 7, 9))
	tells(t, "a-1", tok(n, "a", 0, 1), tok(api.TkInt, "-1", 1, 3))
	tells(t, "a...b......", tok(n, "a", 0, 1), tok(p, "...", 1, 4), tok(n, "b", 4, 5), tok(p, "...", 5, 8), tok(p, "...", 8, 11))
	tells(t, "...1.5", tok(p, "...", 0, 3), tok(api.TkFloat, "1.5", 3, 6))
	var want []api.Tok
	const signs = "!$&():=@[]{|}"
	for k := range len(signs) {
		want = append(want, tok(p, signs[k:k+1], k, k+1))
	}
	tells(t, signs, want...)
}

func TestP9_2Bytes(t *testing.T) {
	for s, at := range map[string]int{
		"%": 0, "a %": 2, "a?": 1, "'a'": 0, "`": 0, "a+b": 1, "a/b": 1, "*": 0, "<": 0, ">": 0, ";": 0, "^": 0, "~": 0, "\\": 0, "{a\\}": 2, "\x7f": 0, "a\xc3\xa9": 1, "\xe2\x80\xa8": 0, "a\xc2\xa0b": 1, "\xef\xbf\xbe": 0, "\xf0\x9f\x98\x80": 0, "\xef\xbf\xbd": 0, // no token begins
		".": 0, "..": 0, "a.": 1, "a..b": 1, "....": 3, ".....": 3, "... .": 4, ". . .": 0, "a % \"": 2, "..1x": 0, "% 01": 0,
		"\x00": 0, "a \x00": 2, "\xff": 0, "#\x00": 1, "#a\xff": 2, " \x1f": 1, "\"\x00\"": 1, "\"a\xff": 2, q + "\xff" + q: 3, "\xc3": 0, "a\xc3": 1, "\xed\xa0\x80": 0, mark[:2]: 0, "a" + mark[:1] + "b": 1, "\v": 0, "a\f": 1, // no source character
		"% \xff": 2, "1x \x00": 3, "01\x00": 2, "\"\n\x00": 2, "\"\\q\" \xff": 5, ".. \x01": 3, q + "\"\x00": 4, "- #\xff": 3, "'\x00'": 1, "{a \"b\n \xc3\xa9\xa9": 9, // also where a token ahead goes wrong
	} {
		tellsNot(t, s, api.ErrByte, at)
	}
}

// The first of several that go wrong is told.
func TestP9_2First(t *testing.T) {
	tellsNot(t, "a 01 % \"", api.ErrNum, 3)
	tellsNot(t, "a % 01 \"", api.ErrByte, 2)
	tellsNot(t, "a \"\n 01 %", api.ErrString, 3)
	tellsNot(t, "\"%\" 1x", api.ErrNum, 5)
	tellsNot(t, "#01 % \"\n'", api.ErrByte, 8)
}

func TestP9_1AndP9_2ShortTexts(t *testing.T) {
	texts([]string{"a", "_", "0", "1", "-", ".", "\"", " ", "{", "#"}, 5, func(s string) { asWanted(t, s) })
	texts([]string{"\"", "\\", "a", "\n"}, 8, func(s string) { asWanted(t, s) })
	texts([]string{q, "\\", "\"", "\n  ", "a", ",", "#"}, 5, func(s string) { asWanted(t, s) })
	texts([]string{"...", ".", "e", "5", "\xef", "\xbb\xbf", mark, "\x00", "\r", "%"}, 4, func(s string) { asWanted(t, s) })
}

func TestP9_2Same(t *testing.T) {
	a, b, c := tok(api.TkName, "a", 0, 1), tok(api.TkPunct, "{", 1, 2), tok(api.TkInt, "1", 5, 6)
	moved := tok(api.TkName, "a", 7, 9)
	for _, x := range []struct {
		a, b []api.Tok
		want bool
	}{
		{nil, nil, true}, {nil, []api.Tok{}, true}, {[]api.Tok{}, []api.Tok{}, true},
		{nil, []api.Tok{a}, false}, {nil, []api.Tok{{}}, false}, {[]api.Tok{{}}, []api.Tok{{}}, true},
		{[]api.Tok{a}, []api.Tok{a}, true}, {[]api.Tok{a, b, c}, []api.Tok{a, b, c}, true},
		{[]api.Tok{a, b, c}, []api.Tok{a, b}, false}, {[]api.Tok{a, b, c}, []api.Tok{b, c}, false}, {[]api.Tok{a, b, c}, []api.Tok{a, c}, false}, {[]api.Tok{a}, []api.Tok{a, a}, false}, // of other lengths
		{[]api.Tok{a, b, c}, []api.Tok{a, c, b}, false}, {[]api.Tok{a, b}, []api.Tok{b, a}, false}, // in another order
		{[]api.Tok{a}, []api.Tok{moved}, true}, {[]api.Tok{a, b}, []api.Tok{moved, b}, true}, {[]api.Tok{a}, []api.Tok{tok(api.TkName, "a", -1, math.MinInt)}, true}, {[]api.Tok{a}, []api.Tok{tok(api.TkName, "a", 0, 2)}, true}, {[]api.Tok{a}, []api.Tok{tok(api.TkName, "a", 2, 1)}, true}, // at other places
		{[]api.Tok{a}, []api.Tok{tok(api.TkString, "a", 0, 1)}, false}, {[]api.Tok{a, b, c}, []api.Tok{a, b, tok(api.TkFloat, "1", 5, 6)}, false}, {[]api.Tok{a, b}, []api.Tok{a, tok(api.TkEnd, "{", 1, 2)}, false}, // of other kinds
		{[]api.Tok{a}, []api.Tok{tok(api.TkName, "b", 0, 1)}, false}, {[]api.Tok{a}, []api.Tok{tok(api.TkName, "A", 0, 1)}, false}, {[]api.Tok{a}, []api.Tok{tok(api.TkName, "", 0, 1)}, false}, {[]api.Tok{a}, []api.Tok{tok(api.TkName, "a\x00", 0, 1)}, false}, {[]api.Tok{a, b, c}, []api.Tok{a, b, tok(api.TkInt, "1.0", 5, 6)}, false}, // of other texts
		{[]api.Tok{tok(-1, "\xff", 0, 0)}, []api.Tok{tok(-1, "\xff", 3, 0)}, true}, {[]api.Tok{tok(-1, "", 0, 0)}, []api.Tok{tok(math.MaxInt, "", 0, 0)}, false}, {[]api.Tok{tok(api.TkKinds, "", 0, 0)}, []api.Tok{tok(api.TkKinds, "", 0, 0)}, true}, // that may not be
	} {
		if got := Same(x.a, x.b); got != x.want {
			t.Errorf("Same(%q, %q) = %v", fmt.Sprint(x.a), fmt.Sprint(x.b), got)
		}
		if got := Same(x.b, x.a); got != x.want {
			t.Errorf("Same(%q, %q) = %v", fmt.Sprint(x.b), fmt.Sprint(x.a), got)
		}
	}
}

// What stands between tokens counts for nothing: other blanks, commas and comments between
// them leave them the same.
func TestP9_3(t *testing.T) {
	pieces := []string{"a", "1", "-2.5", "\"s\"", q + "\n b" + q, "{", "...", "\"\"", " ", ","}
	texts(pieces, 4, func(s string) {
		isBetween(t, s)
		got := lexed(s)
		if got.e != api.OK {
			return
		}
		for _, between := range []string{" ", ",", "\r\n", "#a\"%\n", mark, "\t," + mark + "#\r"} {
			spread := between
			for _, x := range got.l {
				spread += s[x.At:x.End] + between
			}
			if other := lexed(spread); other.e != api.OK || !Same(got.l, other.l) {
				t.Errorf("Lex(%q) = %q, but Lex(%q) = %q", s, fmt.Sprint(got), spread, fmt.Sprint(other))
			}
		}
		for _, x := range got.l {
			isOne(t, s, x.At, answer{x, api.OK, x.End})
		}
	})
}

// A long text is gone through once: were it gone through again and again, this would not end in time.
func TestP1LongTexts(t *testing.T) {
	const n = 1 << 18
	for _, x := range []struct {
		piece string
		many  int // tokens of each piece
	}{
		{"{", 1}, {"a ", 1}, {"-1", 1}, {"...", 1}, {"\"\" ", 1}, {"\"\\n\"", 1}, {q + "\n a\n" + q, 1}, {" ", 0}, {"#\n", 0}, {mark, 0}, {"a#b\r:", 2},
	} {
		s := strings.Repeat(x.piece, n)
		got := lexed(s)
		if len(got.l) != x.many*n || got.e != api.OK || got.at != len(s) {
			t.Errorf("of many %q: %d tokens, %d, %d", x.piece, len(got.l), got.e, got.at)
		}
		if !Same(got.l, lexed(" "+s).l) {
			t.Errorf("of many %q: not the same", x.piece)
		}
		if got := lexed(s + "%"); len(got.l) != 0 || got.e != api.ErrByte || got.at != len(s) {
			t.Errorf("of many %q, and one that goes wrong: %d tokens, %d, %d", x.piece, len(got.l), got.e, got.at)
		}
	}
	for _, x := range []struct {
		ahead, piece, behind string
		kind                 int
	}{
		{"a", "a", "", api.TkName}, {"-1", "0", "", api.TkInt}, {"0.", "0", "", api.TkFloat}, {"\"", "\xc3\xa9", "\"", api.TkString}, {q, "\n", q, api.TkString},
	} {
		s := x.ahead + strings.Repeat(x.piece, n) + x.behind
		if got := lexed(s); got.e != api.OK || len(got.l) != 1 || got.l[0].Kind != x.kind || got.l[0].At != 0 || got.l[0].End != len(s) {
			t.Errorf("of one with many %q: %d tokens, %d, %d", x.piece, len(got.l), got.e, got.at)
		}
	}
}

// TestP1 asks twice, with other calls between: each answers the same again.
func TestP1(t *testing.T) {
	texts([]string{"a", "1", "\"", "...", "%", "\xff", "#"}, 3, func(s string) {
		for _, i := range []int{math.MinInt, -1, 0, 1, len(s), math.MaxInt} {
			x, all := one(s, i), lexed(s)
			One("01", 0)
			Lex("{a \"b\" \x00")
			isOne(t, s, i, x)
			isLex(t, s, all)
		}
	})
}

// What is answered is the caller's own, and what is handed in stays as it was.
func TestP1OwnLists(t *testing.T) {
	const s = "{a(b:-1)}"
	first, second := lexed(s).l, lexed(s).l
	for k := range first {
		first[k] = tok(-1, "x", -1, -1)
	}
	if want := wantedLex(s).l; !slices.Equal(second, want) {
		t.Errorf("%q, not %q", fmt.Sprint(second), fmt.Sprint(want))
	}
	asWanted(t, s)
	kept, other := slices.Clone(second), lexed("{a}").l
	keptOther := slices.Clone(other)
	Same(second, other)
	Same(second, second)
	if !slices.Equal(second, kept) || !slices.Equal(other, keptOther) {
		t.Error("Same changed its lists")
	}
}
