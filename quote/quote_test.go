package quote

import (
	"fmt"
	"strings"
	"testing"
	"unicode/utf8"

	"copperplate/text"
)

// The chapter's words once more, apart from the program's own: source characters and
// bytes below 32 together are all that the library takes for characters.

func wantedMay(v string) bool { return utf8.ValidString(v) }

func wantedQuote(v string) string {
	var b strings.Builder
	b.WriteByte(34)
	for i := 0; i < len(v); i++ {
		if at := strings.IndexByte("\x22\x5c\x08\x0c\x0a\x0d\x09", v[i]); at >= 0 {
			b.WriteString("\x5c" + "\x22\x5cbfnrt"[at:at+1])
		} else if v[i] < 32 {
			fmt.Fprintf(&b, "\x5cu00%02x", v[i])
		} else {
			b.WriteByte(v[i])
		}
	}
	b.WriteByte(34)
	return b.String()
}

// isQuoted holds all three calls against what is wanted of a text that may be quoted.
func isQuoted(t *testing.T, v, want string) {
	t.Helper()
	if !May(v) {
		t.Errorf("May(%q) is false", v)
	}
	if got, is := Quote(v); got != want || !is {
		t.Errorf("Quote(%q) = %q, %v, not %q, true", v, got, is, want)
	}
	if got := Long(v); got != len(want) {
		t.Errorf("Long(%q) = %d, not %d", v, got, len(want))
	}
}

func isNotQuoted(t *testing.T, v string) {
	t.Helper()
	if May(v) {
		t.Errorf("May(%q) is true", v)
	}
	if got, is := Quote(v); got != "" || is {
		t.Errorf("Quote(%q) = %q, %v, not empty, false", v, got, is)
	}
	if got := Long(v); got != 0 {
		t.Errorf("Long(%q) = %d, not 0", v, got)
	}
}

func asWanted(t *testing.T, v string) {
	t.Helper()
	if wantedMay(v) {
		isQuoted(t, v, wantedQuote(v))
		isToldAgain(t, v)
	} else {
		isNotQuoted(t, v)
	}
}

// isToldAgain asks text for what is quoted, with nothing and with more around it.
func isToldAgain(t *testing.T, v string) {
	t.Helper()
	s, _ := Quote(v)
	if strings.ContainsAny(s, "\n\r") {
		t.Errorf("Quote(%q) = %q has an end of a line", v, s)
	}
	for _, more := range []string{"", "a", "\"", "\\", "\n", "\xff"} {
		told, end, is := text.String(s+more, 0)
		if told != v || end != len(s) || !is {
			t.Errorf("String(%q, 0) = %q, %d, %v, not %q, %d, true", s+more, told, end, is, v, len(s))
		}
		told, end, is = text.String("{a:"+s+more, 3)
		if told != v || end != len(s)+3 || !is {
			t.Errorf("String(%q, 3) = %q, %d, %v, not %q, %d, true", "{a:"+s+more, told, end, is, v, len(s)+3)
		}
	}
}

// within hands on what may stand ahead of a text and behind it, so that it is alone, first,
// last, and in the middle.
func within(tell func(ahead, behind string)) {
	around := []string{"", "a", " ", "\"", "\\", "\n", "\x00", "\x1f", "\x7f", "\xc3\xa9", "\xe2\x82\xac", "\xef\xbf\xbd", "\xf0\x9f\x98\x80", "ab\t\xc2\x80\\\""}
	for _, ahead := range around {
		for _, behind := range around {
			tell(ahead, behind)
		}
	}
}

// texts hands on every text of up to n pieces.
func texts(pieces []string, n int, tell func(v string)) {
	var grow func(v string, n int)
	grow = func(v string, n int) {
		tell(v)
		if n == 0 {
			return
		}
		for _, p := range pieces {
			grow(v+p, n-1)
		}
	}
	grow("", n)
}

func oneOf(c int) string { return string([]byte{byte(c)}) }

// edges are the texts that the chapter names, and what stands for each within quotes.
func edges() [][2]string {
	return [][2]string{
		{"", ``},
		{"\x08", `\b`}, {"\x09", `\t`}, {"\x0a", `\n`}, {"\x0c", `\f`}, {"\x0d", `\r`},
		{"\x00", `\u0000`}, {"\x01", `\u0001`}, {"\x07", `\u0007`}, {"\x0b", `\u000b`}, {"\x0e", `\u000e`}, {"\x0f", `\u000f`},
		{"\x10", `\u0010`}, {"\x19", `\u0019`}, {"\x1a", `\u001a`}, {"\x1f", `\u001f`},
		{"\"", `\"`}, {"\\", `\\`}, {"\"\\", `\"\\`}, {"\\\"", `\\\"`}, {"\\\\", `\\\\`}, {"\"\"\"", `\"\"\"`}, {"a\\", `a\\`}, {"\\n", `\\n`}, {"\\u0000", `\\u0000`},
		{"\x20", ` `}, {"\x21", `!`}, {"\x23", `#`}, {"\x2f", `/`}, {"\x5b", `[`}, {"\x5d", `]`}, {"\x7e", `~`}, {"\x7f", "\x7f"},
		{"bfnrtu", `bfnrtu`}, {"\r\n", `\r\n`}, {"a b", `a b`},
		{"\xc2\x80", "\xc2\x80"}, {"\xc3\xa9", "\xc3\xa9"}, {"\xdf\xbf", "\xdf\xbf"}, // 128, 233, 2047
		{"\xe0\xa0\x80", "\xe0\xa0\x80"}, {"\xed\x9f\xbf", "\xed\x9f\xbf"}, // 2048, 55295
		{"\xee\x80\x80", "\xee\x80\x80"}, {"\xef\xbb\xbf", "\xef\xbb\xbf"}, {"\xef\xbf\xbd", "\xef\xbf\xbd"}, {"\xef\xbf\xbf", "\xef\xbf\xbf"}, // 57344, 65279, 65533, 65535
		{"\xe2\x80\xa8", "\xe2\x80\xa8"}, {"\xc2\x85", "\xc2\x85"}, // 8232, 133: no ends of lines here
		{"\xf0\x90\x80\x80", "\xf0\x90\x80\x80"}, {"\xf0\x9f\x98\x80", "\xf0\x9f\x98\x80"}, {"\xf4\x8f\xbf\xbf", "\xf4\x8f\xbf\xbf"}, // 65536, 128512, 1114111
	}
}

// wrongs are bytes that are no source character, nor below 32.
func wrongs() []string {
	w := []string{
		"\xc3", "\xe2\x82", "\xe2", "\xf0\x9f\x98", "\xf0\x9f", "\xf0", "\xef\xbf", // without the last bytes
		"\xc3\xa9\xa9", "\xe2\x82\xac\x82", "\xf0\x9f\x98\x80\x80", "a\x80", // one too many behind
		"\xc0\x80", "\xc0\x8a", "\xc0\xa2", "\xc1\xbf", "\xe0\x80\x80", "\xe0\x82\x80", "\xe0\x9f\xbf", "\xf0\x80\x80\x80", "\xf0\x82\x82\xac", "\xf0\x8f\xbf\xbf", // of more bytes than it has
		"\xf8\x88\x80\x80\x80", "\xfc\x84\x80\x80\x80\x80",
		"\xed\xa0\x80", "\xed\xaf\xbf", "\xed\xb0\x80", "\xed\xbf\xbf", "\xed\xa0\xbd\xed\xb8\x80", // 55296 to 57343
		"\xf4\x90\x80\x80", "\xf4\xbf\xbf\xbf", "\xf5\x80\x80\x80", "\xf7\xbf\xbf\xbf", // above 1114111
	}
	for c := 128; c < 256; c++ {
		w = append(w, oneOf(c))
	}
	return w
}

func TestP8_1Edges(t *testing.T) {
	all, told := "", ""
	for _, e := range edges() {
		isQuoted(t, e[0], `"`+e[1]+`"`)
		within(func(ahead, behind string) {
			isQuoted(t, ahead+e[0]+behind, wantedQuote(ahead)[:len(wantedQuote(ahead))-1]+e[1]+wantedQuote(behind)[1:])
		})
		all, told = all+e[0], told+e[1]
	}
	isQuoted(t, all, `"`+told+`"`)
}

func TestP8_1Example(t *testing.T) {
	isQuoted(t, "a\n\"", string([]byte{34, 'a', 92, 'n', 92, 34, 34}))
}

func TestP8_1BytesBelow32(t *testing.T) {
	letters := map[int]string{8: "b", 9: "t", 10: "n", 12: "f", 13: "r"}
	const digits = "0123456789abcdef"
	for c := range 32 {
		want := "\\u00" + digits[c/16:c/16+1] + digits[c%16:c%16+1]
		if letter := letters[c]; letter != "" {
			want = "\\" + letter
		}
		isQuoted(t, oneOf(c), "\""+want+"\"")
		isQuoted(t, "a"+oneOf(c)+"b", "\"a"+want+"b\"")
		isQuoted(t, oneOf(c)+oneOf(c), "\""+want+want+"\"")
		isQuoted(t, "\xc3\xa9"+oneOf(c)+"0", "\"\xc3\xa9"+want+"0\"")
	}
}

func TestP8_1EveryCharacter(t *testing.T) {
	for c := rune(32); c <= 1114111; c++ {
		if 55296 <= c && c <= 57343 || c == 34 || c == 92 {
			continue
		}
		v := string(c)
		want := "\"" + v + "\""
		if s, is := Quote(v); s != want || !is || !May(v) || Long(v) != len(want) {
			t.Fatalf("of %d: %q, %v", c, s, is)
		}
	}
}

func TestP8_1Wrong(t *testing.T) {
	for _, w := range wrongs() {
		if wantedMay(w) {
			t.Fatalf("%q is not wrong", w)
		}
		within(func(ahead, behind string) { isNotQuoted(t, ahead+w+behind) })
		for _, v := range wrongs() {
			isNotQuoted(t, v+"a"+w)
		}
	}
}

func TestP8_1NoHalves(t *testing.T) {
	for c := 55296; c <= 57343; c++ {
		isNotQuoted(t, string([]byte{224 + byte(c>>12), 128 + byte(c>>6&63), 128 + byte(c&63)}))
	}
}

func TestP8_1UpToThreeBytes(t *testing.T) {
	for c := range 256 {
		asWanted(t, oneOf(c))
		for d := range 256 {
			asWanted(t, oneOf(c)+oneOf(d))
		}
	}
	few := []string{"\x00", "\n", "\x1f", " ", "\"", "\\", "a", "u", "0", "\x7f", "\x80", "\x90", "\xa0", "\xbf", "\xc2", "\xe0", "\xe1", "\xed", "\xef", "\xf0", "\xf4"}
	texts(few, 3, func(v string) { asWanted(t, v) })
}

func TestP8_1Pieces(t *testing.T) {
	pieces := []string{"a", "n", "\"", "\\", "\n", "\x0b", "\xc3\xa9", "\xf0\x9f\x98\x80", "\xef\xbf\xbd", "\xbd"}
	texts(pieces, 4, func(v string) { asWanted(t, v) })
}

func TestP8_2LongTexts(t *testing.T) {
	const n = 100000
	for _, c := range []struct {
		v    string
		long int
	}{{"a", 1}, {"/", 1}, {"\"", 2}, {"\\", 2}, {"\n", 2}, {"\x00", 6}, {"\x1f", 6}, {"\x7f", 1}, {"\xc3\xa9", 2}, {"\xe2\x82\xac", 3}, {"\xf0\x9f\x98\x80", 4}, {"a\t\x0b", 9}} {
		v := strings.Repeat(c.v, n)
		if got := Long(v); got != n*c.long+2 {
			t.Errorf("Long of %d times %q = %d, not %d", n, c.v, got, n*c.long+2)
		}
		if s, is := Quote(v); len(s) != n*c.long+2 || !is {
			t.Errorf("Quote of %d times %q has %d bytes, %v", n, c.v, len(s), is)
		}
		isNotQuoted(t, v+"\xff")
	}
	isQuoted(t, "", `""`)
}

func TestP8_3ToldAgain(t *testing.T) {
	all := ""
	for _, e := range edges() {
		isToldAgain(t, e[0])
		within(func(ahead, behind string) { isToldAgain(t, ahead+e[0]+behind) })
		all += e[0]
	}
	isToldAgain(t, all)
	for c := range 128 {
		isToldAgain(t, oneOf(c))
		isToldAgain(t, "a"+oneOf(c)+"0")
	}
}

// TestP8_3QuotedTwice quotes what is quoted, which is a text that may be quoted too.
func TestP8_3QuotedTwice(t *testing.T) {
	for _, e := range edges() {
		s, _ := Quote(e[0])
		asWanted(t, s)
		twice, _ := Quote(s)
		asWanted(t, twice)
	}
}

func TestP8_3OthersAreQuotedOtherwise(t *testing.T) {
	from := map[string]string{}
	hold := func(v string) {
		s, is := Quote(v)
		if !is {
			return
		}
		if other, has := from[s]; has && other != v {
			t.Errorf("%q and %q are both quoted as %q", v, other, s)
		}
		from[s] = v
	}
	for c := range 256 { // two texts that differ in one byte
		hold(oneOf(c))
		hold("a" + oneOf(c) + "b")
		hold("\\" + oneOf(c))
		hold("\xc3" + oneOf(c))
		hold(oneOf(c) + "\\")
	}
	for _, e := range edges() {
		hold(e[0])
		hold(e[1])
	}
	texts([]string{"\"", "\\", "b", "n", "u", "0", "a", "\n", "\x0a", "\x0b", "\x00", "u000a", "u000b"}, 4, hold)
}

// TestSameEachTime asks again behind other questions (R5).
func TestSameEachTime(t *testing.T) {
	for range 3 {
		for _, e := range edges() {
			isQuoted(t, e[0], `"`+e[1]+`"`)
		}
		for _, w := range wrongs() {
			isNotQuoted(t, w)
		}
	}
}
