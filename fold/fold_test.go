package fold

import (
	"fmt"
	"math"
	"slices"
	"strings"
	"testing"
	"unicode/utf8"
)

const q = "\"\"\""

type answer struct {
	told string
	at   int
	is   bool
}

func rawAt(s string, i int) answer {
	told, at, is := Raw(s, i)
	return answer{told, at, is}
}

// The chapter's words once more, apart from the program's own.

// wantedBad is the first place of s where no source character stands, -1 if there is none.
func wantedBad(s string) int {
	for i, c := range s {
		if c == utf8.RuneError && !strings.HasPrefix(s[i:], "\xef\xbf\xbd") || c < 32 && c != 9 && c != 10 && c != 13 {
			return i
		}
	}
	return -1
}

func wantedRaw(s string, i int) answer {
	if i < 0 || i > len(s) || !strings.HasPrefix(s[i:], q) {
		return answer{"", i, false}
	}
	body := s[i+3:]
	end := strings.Index(strings.ReplaceAll(body, "\\"+q, "abcd"), q)
	ends := end >= 0
	if ends {
		body = body[:end]
	}
	if bad := wantedBad(body); bad >= 0 {
		return answer{"", i + 3 + bad, false}
	}
	if !ends {
		return answer{"", len(s), false}
	}
	return answer{strings.ReplaceAll(body, "\\"+q, q), i + 3 + end + 3, true}
}

func wantedLines(raw string) []string {
	return strings.Split(strings.ReplaceAll(strings.ReplaceAll(raw, "\r\n", "\n"), "\r", "\n"), "\n")
}

func wantedIsBlank(line string) bool { return strings.Trim(line, "\t ") == "" }

func wantedIndent(l []string) int {
	indents := []int{}
	for _, line := range l[min(1, len(l)):] {
		if !wantedIsBlank(line) {
			indents = append(indents, len(line)-len(strings.TrimLeft(line, "\t ")))
		}
	}
	if len(indents) == 0 {
		return -1
	}
	return slices.Min(indents)
}

func wantedFold(raw string) string {
	l := wantedLines(raw)
	for n := wantedIndent(l); n > 0; n-- {
		for k, line := range l {
			if k > 0 && line != "" {
				l[k] = line[1:]
			}
		}
	}
	for len(l) > 0 && wantedIsBlank(l[0]) {
		l = l[1:]
	}
	for len(l) > 0 && wantedIsBlank(l[len(l)-1]) {
		l = l[:len(l)-1]
	}
	return strings.Join(l, "\n")
}

func sameRaw(t *testing.T, s string, i int, want answer) {
	t.Helper()
	if got := rawAt(s, i); got != want {
		t.Errorf("Raw(%q, %d) = %q, not %q", s, i, fmt.Sprint(got), fmt.Sprint(want))
	}
}

func sameLines(t *testing.T, raw string, want []string) {
	t.Helper()
	if got := Lines(raw); !slices.Equal(got, want) {
		t.Errorf("Lines(%q) = %q, not %q", raw, got, want)
	}
}

func sameIndent(t *testing.T, l []string, want int) {
	t.Helper()
	if got := Indent(l); got != want {
		t.Errorf("Indent(%q) = %d, not %d", l, got, want)
	}
}

func sameFold(t *testing.T, raw, want string) {
	t.Helper()
	if got := Fold(raw); got != want {
		t.Errorf("Fold(%q) = %q, not %q", raw, got, want)
	}
}

// rawAsWanted holds Raw at each place of s, and beside them, against the chapter's words.
func rawAsWanted(t *testing.T, s string) {
	t.Helper()
	for i := -2; i <= len(s)+2; i++ {
		sameRaw(t, s, i, wantedRaw(s, i))
	}
}

func foldAsWanted(t *testing.T, raw string) {
	t.Helper()
	l := wantedLines(raw)
	sameLines(t, raw, l)
	sameIndent(t, l, wantedIndent(l))
	sameFold(t, raw, wantedFold(raw))
}

// texts hands on every text of up to n pieces.
func texts(pieces []string, n int, tell func(s string)) {
	var grow func(s string, n int)
	grow = func(s string, n int) {
		tell(s)
		if n == 0 {
			return
		}
		for _, p := range pieces {
			grow(s+p, n-1)
		}
	}
	grow("", n)
}

// lists hands on every list of up to n of the lines.
func lists(lines []string, n int, tell func(l []string)) {
	var grow func(l []string, n int)
	grow = func(l []string, n int) {
		tell(l)
		if n == 0 {
			return
		}
		for _, line := range lines {
			grow(append(slices.Clone(l), line), n-1)
		}
	}
	grow(nil, n)
}

func rawPieces() []string {
	return []string{"\"", "\"\"", q, "\\", "\\" + q, "a", "\n", "\r", "\t", "\x1f", "\xc3\xa9", "\xc3"}
}

func linePieces() []string {
	return []string{"a", " ", "\t", "\n", "\r"}
}

// noPlaces are places that a text of n bytes has not.
func noPlaces(n int) []int {
	return []int{n, n + 1, n + 2, n + 3, -1, -2, -3, -4, math.MaxInt, math.MaxInt - 1, math.MaxInt - 2, math.MaxInt - 3, math.MinInt, math.MinInt + 1, 1 << 32, -1 << 32}
}

func oneOf(c int) string { return string([]byte{byte(c)}) }

// tells asks for a raw text with nothing and with more behind it, at place 0 and beyond.
func tells(t *testing.T, inner, told string) {
	t.Helper()
	s := q + inner + q
	for _, more := range []string{"", "a", " ", "\n", "\"", "\"\"", q, "\\", "\\" + q, "\x00", "\xff", "\xa9", "{a}"} {
		sameRaw(t, s+more, 0, answer{told, len(s), true})
		sameRaw(t, "{a:"+s+more, 3, answer{told, len(s) + 3, true})
	}
}

// goesWrong asks for where it does so, at place 0 and beyond.
func goesWrong(t *testing.T, s string, at int) {
	t.Helper()
	sameRaw(t, s, 0, answer{"", at, false})
	sameRaw(t, "a\\x"+s, 3, answer{"", at + 3, false})
	sameRaw(t, "\xff"+s, 1, answer{"", at + 1, false})
}

func TestP7_1Tells(t *testing.T) {
	for _, s := range []string{
		"", "a", "ab", " ", "\t", "\n", "\r", "\r\n", "\n\n", "a\nb", "a\r\nb\rc\n", "  a\n\tb", "\x7f", "'", "#{}[]()!$&:=@|,...",
		"\xc3\xa9", "\xe2\x82\xac", "\xf0\x9f\x98\x80", "a\xc3\xa9\xe2\x82\xac\xf0\x9f\x98\x80z", "\xc2\x80", "\xdf\xbf", "\xe0\xa0\x80", "\xed\x9f\xbf", "\xee\x80\x80", "\xef\xbb\xbf", "\xef\xbf\xbd", "\xef\xbf\xbf", "\xf0\x90\x80\x80", "\xf4\x8f\xbf\xbf",
	} {
		tells(t, s, s)
	}
}

func TestP7_1QuotesWithin(t *testing.T) {
	for _, s := range []string{"\"a", "\"\"a", "a\"b", "a\"\"b", "a\"b\"\"c", "\"\n", "\"\"\n\"\"\n", "\" \" \" ", "\"\" \"\" ", "\"\xc3\xa9\"\"\xf0\x9f\x98\x80"} {
		tells(t, s, s)
	}
}

func TestP7_1Backslashes(t *testing.T) {
	for s, told := range map[string]string{
		"\\" + q: q, "a\\" + q + "b": "a" + q + "b", "\\" + q + "\\" + q: q + q, "\\\\" + q: "\\" + q, "\\\\\\" + q: "\\\\" + q, "\"\\" + q: "\"" + q, "\"\"\\" + q: "\"\"" + q,
		"\\" + q + "a": q + "a", "\\" + q + "\"a": q + "\"a", "\\" + q + "\"\"a": q + "\"\"a", "\\" + q + "n": q + "n", "\\" + q + "\n": q + "\n", "\\" + q + "\xc3\xa9": q + "\xc3\xa9",
		"\\\"\"a": "\\\"\"a", "\\\"a": "\\\"a", "\\\"\"\\a": "\\\"\"\\a", "\\\"\\\"\\\"a": "\\\"\\\"\\\"a", "\\a": "\\a", "\\n": "\\n", "\\u0041": "\\u0041", "\\u12": "\\u12", "\\ ": "\\ ", "\\\n": "\\\n", "\\x\\y": "\\x\\y",
	} {
		tells(t, s, told)
	}
	for _, s := range []string{"\\", "\\\\", "a\\", "\\n\\", "\\" + q + "\\"} { // what would end it tells three quotes
		goesWrong(t, q+s+q, len(q+s+q))
		sameRaw(t, q+s+q+q, 0, wantedRaw(q+s+q+q, 0))
	}
}

func TestP7_1QuotesBehindEachOther(t *testing.T) {
	for n, want := range []answer{
		{"", 0, false}, {"", 0, false}, {"", 0, false}, {"", 3, false}, {"", 4, false}, {"", 5, false},
		{"", 6, true}, {"", 6, true}, {"", 6, true}, {"", 6, true},
	} {
		sameRaw(t, strings.Repeat("\"", n), 0, want)
	}
	for n, want := range []answer{
		{"", 4, false}, {"", 5, false}, {"", 6, false}, {"a", 7, true}, {"a", 7, true}, {"a", 7, true}, {"a", 7, true}, {"a", 7, true},
	} {
		sameRaw(t, q+"a"+strings.Repeat("\"", n), 0, want)
	}
	for n, want := range []answer{ // behind a backslash
		{"", 4, false}, {"", 5, false}, {"", 6, false}, {"", 7, false}, {"", 8, false}, {"", 9, false}, {q, 10, true}, {q, 10, true},
	} {
		sameRaw(t, q+"\\"+strings.Repeat("\"", n), 0, want)
	}
	sameRaw(t, q+q+q+q, 3, answer{"", 9, true})
	sameRaw(t, q+q+q+q, 5, answer{"", 11, true})
	sameRaw(t, q+q+q+q, 7, answer{"", 12, false})
}

func TestP7_1GoesWrong(t *testing.T) {
	for _, s := range []string{"", "a", "\"", "\"\"", "\"a\"\"\"", "\"\"a\"", "\"\"\\\"", "a" + q + q, " " + q + q, "\\" + q + q, "\n" + q + q, "'''a'''", "\x00", "\xff", "\xe2\x80\x9c\xe2\x80\x9c\xe2\x80\x9c"} {
		goesWrong(t, s, 0) // fewer than three quotes there
	}
	for _, s := range []string{"", "a", "ab", "\n", "\"", "\"\"", "a\"", "a\"\"", "\\", "\\\"", "\\\"\"", "\\" + q, "a\\" + q, "\\" + q + "\"\"", "\\n\\" + q, "\xc3\xa9", "\xf0\x9f\x98\x80\"\""} {
		goesWrong(t, q+s, len(q+s)) // no last three ones
	}
	for _, bad := range []string{"\x00", "\x01", "\x08", "\x0b", "\x0c", "\x0e", "\x1f", "\x80", "\xbf", "\xc3", "\xc0\x80", "\xc1\xbf", "\xe2\x82", "\xe0\x80\x80", "\xe0\x9f\xbf", "\xed\xa0\x80", "\xed\xbf\xbf", "\xef\xbf", "\xf0\x9f\x98", "\xf0\x80\x80\x80", "\xf4\x90\x80\x80", "\xf5", "\xff"} {
		for _, ahead := range []string{"", "a", "\n", "\xc3\xa9", "\xf0\x9f\x98\x80", "\"", "\"\"", "\\", "\\\"\"", "\\" + q, "\\" + q + "\"\""} {
			for _, behind := range []string{"", "a", "\n", "\"", q, "a" + q, "\\" + q + q, "\x00", "\xff" + q} {
				goesWrong(t, q+ahead+bad+behind, len(q+ahead))
			}
		}
	}
}

func TestP7_1EachByte(t *testing.T) {
	for c := range 256 {
		b := oneOf(c)
		for _, s := range []string{b, q + b, q + b + q, q + "a" + b + "b" + q, q + "\xc3" + b + q, q + "\\" + b + q, q + "\\" + b + q + q, q + "\"\"" + b + q, b + q + q, q + q + b, b + b + b + "a" + b + b + b, q + "\\" + b + b + b + q} {
			rawAsWanted(t, s)
		}
	}
	for c, is := range map[int]bool{9: true, 10: true, 13: true, 32: true, 127: true, 0: false, 8: false, 11: false, 12: false, 14: false, 31: false, 128: false, 255: false} {
		s := q + "a" + oneOf(c) + q
		if is {
			sameRaw(t, s, 0, answer{"a" + oneOf(c), 8, true})
		} else {
			sameRaw(t, s, 0, answer{"", 4, false})
		}
	}
}

func TestP7_1EachCharacter(t *testing.T) {
	for r := range 1114112 {
		c := string(rune(r))
		if 0xd800 <= r && r <= 0xdfff { // a text of Go's own tells 65533 for those
			c = string([]byte{0xed, byte(0x80 + r/64%64), byte(0x80 + r%64)})
		}
		s := q + c + "." + q
		if got, want := rawAt(s, 0), wantedRaw(s, 0); got != want {
			t.Fatalf("Raw(%q, 0) = %v, not %v", s, got, want)
		}
	}
}

func TestP7_1Places(t *testing.T) {
	for _, s := range []string{"", "\"", q, q + q, q + "a" + q, q + q + q + q, "\\" + q} {
		for _, i := range noPlaces(len(s)) {
			sameRaw(t, s, i, answer{"", i, false})
		}
	}
	const s = "a" + q + "b" + q + "c"
	for i, want := range []answer{{"", 0, false}, {"b", 8, true}, {"", 2, false}, {"", 3, false}, {"", 4, false}, {"", 9, false}, {"", 6, false}, {"", 7, false}, {"", 8, false}, {"", 9, false}, {"", 10, false}} {
		sameRaw(t, s, i, want)
	}
}

func TestP7_1ShortTexts(t *testing.T) {
	texts(rawPieces(), 4, func(s string) { rawAsWanted(t, s) })
	texts([]string{"\"", "\\", "a"}, 9, func(s string) { sameRaw(t, q+s, 0, wantedRaw(q+s, 0)) })
}

func TestP7_2Lines(t *testing.T) {
	for raw, want := range map[string][]string{
		"": {""}, "a": {"a"}, " a ": {" a "}, "\t": {"\t"}, "\xc3\xa9\xff\x00": {"\xc3\xa9\xff\x00"},
		"a\r\nb": {"a", "b"}, "a\nb": {"a", "b"}, "a\rb": {"a", "b"}, "a\n\rb": {"a", "", "b"}, "a\r\r\nb": {"a", "", "b"}, "a\r\n\nb": {"a", "", "b"}, "a\r\n\rb": {"a", "", "b"}, "a\n\r\nb": {"a", "", "b"},
		"\n": {"", ""}, "\r": {"", ""}, "\r\n": {"", ""}, "\na": {"", "a"}, "\ra": {"", "a"}, "\r\na": {"", "a"}, "a\n": {"a", ""}, "a\r": {"a", ""}, "a\r\n": {"a", ""},
		"\n\n": {"", "", ""}, "\r\r": {"", "", ""}, "\n\r": {"", "", ""}, "\r\n\r\n": {"", "", ""}, "a\n\nb": {"a", "", "b"}, "a\r\rb": {"a", "", "b"}, "a\r\n\r\nb": {"a", "", "b"}, "\r\r\n\n": {"", "", "", ""},
		"a\r\nb\rc\nd": {"a", "b", "c", "d"}, " \n\t\r  \r\n\t\t": {" ", "\t", "  ", "\t\t"}, "a\vb\fc": {"a\vb\fc"}, "a\xc2\x85b\xe2\x80\xa8c\xe2\x80\xa9d": {"a\xc2\x85b\xe2\x80\xa8c\xe2\x80\xa9d"}, "a\\nb\\r\\n": {"a\\nb\\r\\n"},
	} {
		sameLines(t, raw, want)
	}
}

func TestP7_2Indent(t *testing.T) {
	for _, x := range []struct {
		l    []string
		want int
	}{
		{nil, -1}, {[]string{}, -1}, {[]string{""}, -1}, {[]string{"a"}, -1}, {[]string{"  a"}, -1}, {[]string{" "}, -1}, // no line, and one
		{[]string{"a", "  b"}, 2}, {[]string{" a", "   b", "  c"}, 2}, {[]string{"    a", "  b"}, 2}, {[]string{"", "b"}, 0}, {[]string{"", "b", "  c"}, 0}, {[]string{"", "  b", "c"}, 0}, // the first one does not count
		{[]string{"a", ""}, -1}, {[]string{"a", " "}, -1}, {[]string{"a", "\t", "  ", "\t ", ""}, -1}, {[]string{"", "", ""}, -1}, // all but the first one blank
		{[]string{"", "", "  b"}, 2}, {[]string{"", " ", "  b"}, 2}, {[]string{"", "\t", "  b"}, 2}, {[]string{"", "    ", "  b"}, 2}, {[]string{"", "  b", ""}, 2}, {[]string{"", "   x", " "}, 3}, // blank ones do not count
		{[]string{"", "\tb"}, 1}, {[]string{"", "\t\tb", "   c"}, 2}, {[]string{"", " \t b"}, 3}, {[]string{"", "\t \tb", "    c"}, 3}, {[]string{"", "  \tb", "\tc"}, 1}, // by 9 and by 32
		{[]string{"", "  b  "}, 2}, {[]string{"", "b  "}, 0}, {[]string{"", "  \x00"}, 2}, {[]string{"", "  \xff"}, 2}, {[]string{"", " \xc2\xa0b"}, 1}, {[]string{"", "  \n"}, 2}, {[]string{"", " \r"}, 1}, {[]string{"", " \v"}, 1}, // all else is no indent
	} {
		sameIndent(t, x.l, x.want)
	}
	for c := range 256 {
		want := 1
		if c == 9 || c == 32 {
			want = 2
		}
		sameIndent(t, []string{"", " " + oneOf(c) + "a", "     b"}, want)
	}
}

func TestP7_2Lists(t *testing.T) {
	lists([]string{"", " ", "\t ", "   ", "a", " a", "\ta ", "\t a", "  \ta\n b"}, 4, func(l []string) { sameIndent(t, l, wantedIndent(l)) })
}

func TestP7_3FirstLine(t *testing.T) {
	for raw, want := range map[string]string{
		"": "", "a": "a", "  a": "  a", "\ta": "\ta", "a ": "a ", " ": "", "\t \t": "",
		"  a\n  b": "  a\nb", "    a\n  b": "    a\nb", "a\n  b\n c": "a\n b\nc", "\ta\n\tb": "\ta\nb", "a\nb": "a\nb", " a\nb": " a\nb", "a\n": "a", "a\n  \n\t": "a", "  a\n  ": "  a",
	} {
		sameFold(t, raw, want)
	}
}

func TestP7_3Indent(t *testing.T) {
	for raw, want := range map[string]string{
		"\n  a\n    b\n": "a\n  b", "\n  a\n    b\n  c\n": "a\n  b\nc", "\n    a\n  b": "  a\nb", "\na\n  b": "a\n  b", "\n a": "a", "\n\ta": "a",
		"\n\ta\n  b": "a\n b", "\n  a\n\tb": " a\nb", "\n \ta\n\t b": "a\nb", "\n\t\ta\n\tb": "\ta\nb", "\n  a  \n  b\t": "a  \nb\t",
		"\r\n  a\r\n    b\r\n": "a\n  b", "\r  a\r    b\r": "a\n  b", "\n\r  a\r\r\n    b": "a\n\n  b", "\r\n  a\r  b": "a\nb",
		"\n  \xc3\xa9\n    \xf0\x9f\x98\x80": "\xc3\xa9\n  \xf0\x9f\x98\x80", "\n  \xff\n  \x00": "\xff\n\x00", "\n  \xc2\xa0\n   b": "\xc2\xa0\n b",
	} {
		sameFold(t, raw, want)
	}
}

func TestP7_3BlankLines(t *testing.T) {
	for raw, want := range map[string]string{
		"\n": "", " \n\t": "", "\n\n\n": "", "\r\n \r\t\t\n": "", " \n  \n   ": "", // none but blank ones
		"\n\n a": "a", " \n\t\n\n a": "a", "\t\na": "a", "   \n  a": "a", "\r\n\r\n\r\n a": "a", // ahead
		"a\n\n": "a", "a\n \n\t\n": "a", "\n    x\n      ": "x", "\n  a\n \n": "a", "\n  a\n\n\n    ": "a", // behind
		"\n\n a\n\n b\n\n": "a\n\nb", "a\n\n\nb": "a\n\n\nb", "a\n \n b": "a\n\nb", // between
		"\n  a\n \n  b": "a\n\nb", "\n  a\n\t\n  b": "a\n\nb", "\n  a\n\n  b": "a\n\nb", "\n    a\n   \n    b": "a\n\nb", // with fewer bytes than the indent
		"\n  a\n    \n  b": "a\n  \nb", "\n  a\n  \n  b": "a\n\nb", "\n a\n \t\n b": "a\n\t\nb", "a\n  \nb": "a\n  \nb", "a\n  \n\t": "a", // with more
	} {
		sameFold(t, raw, want)
	}
}

func TestP7_2AndP7_3ShortTexts(t *testing.T) {
	texts(linePieces(), 7, func(raw string) { foldAsWanted(t, raw) })
	texts([]string{"\n", "\n  ", " ", "\t", "b", "\r\n"}, 7, func(raw string) { foldAsWanted(t, raw) })
	texts([]string{"\n", "\r", "\x00", "\xff", "\xe2\x80\xa8", "\xc2\xa0", "\v", "\\", "\"", " "}, 4, func(raw string) { foldAsWanted(t, raw) })
}

// TestP7_4 folds again what was folded. A first line that is raw's own counted for no
// indent; any other one did, and what it alone kept back may go when it has become the first.
func TestP7_4(t *testing.T) {
	texts(linePieces(), 7, func(raw string) {
		once := Fold(raw)
		l := wantedLines(once)
		if once != "" && (wantedIsBlank(l[0]) || wantedIsBlank(l[len(l)-1])) {
			t.Errorf("Fold(%q) = %q begins or ends by a blank line", raw, once)
		}
		if strings.Contains(once, "\r") {
			t.Errorf("Fold(%q) = %q has a byte 13", raw, once)
		}
		twice := Fold(once)
		if twice != once && (!wantedIsBlank(wantedLines(raw)[0]) || wantedIndent(l) <= 0) {
			t.Errorf("Fold(%q) = %q, but that is folded to %q", raw, once, twice)
		}
		sameFold(t, twice, twice) // its first line is the one of what it was made of
	})
	for raw, twice := range map[string]string{
		"": "", "  a": "  a", "  a\n    b\n   c": "  a\n b\nc", "\n  a\n    b\n  c": "a\n  b\nc", "\n\n a\n\n b\n\n": "a\n\nb", "\n a\n  b": "a\nb",
	} {
		sameFold(t, Fold(raw), twice)
	}
}

// A long text is gone through once: were it gone through again and again, this would not end in time.
func TestP1LongTexts(t *testing.T) {
	const n = 1 << 20
	for _, x := range []struct{ piece, told string }{
		{"a", "a"}, {"\xf0\x9f\x98\x80", "\xf0\x9f\x98\x80"}, {"\\" + q, q}, {"\\", "\\"}, {"\"\"a", "\"\"a"}, {"\n", "\n"},
	} {
		s := q + strings.Repeat(x.piece, n) + "."
		if got := rawAt(s+q, 0); got != (answer{strings.Repeat(x.told, n) + ".", len(s) + 3, true}) {
			t.Errorf("of many %q: %d bytes, %d, %v", x.piece, len(got.told), got.at, got.is)
		}
		if got := rawAt(s, 0); got != (answer{"", len(s), false}) {
			t.Errorf("of many %q and no end: %d bytes, %d, %v", x.piece, len(got.told), got.at, got.is)
		}
	}
	for _, x := range []struct{ piece, told string }{
		{"\n", ""}, {"\r\n", ""}, {" ", ""}, {"\n  a", strings.Repeat("a\n", n)}, {"\r\ta\r\n", strings.Repeat("a\n\n", n)},
	} {
		if got := Fold(strings.Repeat(x.piece, n)); got != strings.TrimRight(x.told, "\n") {
			t.Errorf("of many %q: %d bytes", x.piece, len(got))
		}
	}
	if got := Fold("\n" + strings.Repeat(" ", n) + "a\n" + strings.Repeat("\t", n+1) + "b"); got != "a\n\tb" {
		t.Errorf("of a great indent: %d bytes", len(got))
	}
}

// TestP1 asks twice, with other calls between: each answers the same again.
func TestP1(t *testing.T) {
	texts(rawPieces(), 3, func(s string) {
		for _, i := range []int{math.MinInt, -1, 0, 1, len(s), math.MaxInt} {
			raw, l, told := rawAt(s, i), Lines(s), Fold(s)
			n := Indent(l)
			Raw(q+"a\x00", 0)
			Fold("\n  a\n \n")
			sameRaw(t, s, i, raw)
			sameLines(t, s, l)
			sameIndent(t, l, n)
			sameFold(t, s, told)
		}
	})
}

// What is answered is the caller's own, and what is handed in stays as it was.
func TestP1OwnLists(t *testing.T) {
	const raw = "\n  a\n    b\n"
	l := Lines(raw)
	for k := range l {
		l[k] = "x"
	}
	sameLines(t, raw, []string{"", "  a", "    b", ""})
	sameFold(t, raw, "a\n  b")
	lists([]string{"", " ", " a", "\t b"}, 3, func(l []string) {
		kept := slices.Clone(l)
		Indent(l)
		if !slices.Equal(l, kept) {
			t.Errorf("Indent made %q of %q", l, kept)
		}
	})
}
