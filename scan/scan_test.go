package scan

import (
	"math"
	"regexp"
	"strings"
	"testing"
)

// The chapter's words once more, apart from the program's own: what stands at a text's front.
var (
	nameAhead   = regexp.MustCompile(`^[A-Z_a-z][0-9A-Z_a-z]*`)
	digitsAhead = regexp.MustCompile(`^[0-9]*`)
	blankAhead  = regexp.MustCompile(`^(?:[\t\n\r ,]|\x{FEFF}|#[^\n\r]*)*`)
)

// calls are those that tell where something ends, each with what it goes through.
var calls = []struct {
	name  string
	end   func(s string, i int) int
	ahead *regexp.Regexp
}{
	{"Name", Name, nameAhead},
	{"Digits", Digits, digitsAhead},
	{"Blank", Blank, blankAhead},
}

func wanted(ahead *regexp.Regexp, s string, i int) int {
	if i < 0 || i > len(s) {
		return i
	}
	return i + len(ahead.FindString(s[i:]))
}

// edgeBytes are those of the chapter, and the ones beside them.
var edgeBytes = []byte{
	0, 8, 9, 10, 11, 12, 13, 14, 31, 32, 33, 34, 35, 36, 43, 44, 45, 46,
	47, 48, 57, 58, 64, 65, 90, 91, 94, 95, 96, 97, 122, 123,
	127, 128, 186, 187, 188, 190, 191, 192, 238, 239, 240, 255,
}

type ending struct {
	s        string
	at, want int
}

func sameEnd(t *testing.T, name string, end func(string, int) int, cases []ending) {
	t.Helper()
	for _, x := range cases {
		if got := end(x.s, x.at); got != x.want {
			t.Errorf("%s(%q, %d) = %d, not %d", name, x.s, x.at, got, x.want)
		}
	}
}

func TestP4_1Begins(t *testing.T) {
	const letters = "ABCDEFGHIJKLMNOPQRSTUVWXYZ_abcdefghijklmnopqrstuvwxyz"
	for c := range 256 {
		if got, want := Begins(byte(c)), strings.IndexByte(letters, byte(c)) >= 0; got != want {
			t.Errorf("Begins(%d) = %v", c, got)
		}
	}
}

func TestP4_1Name(t *testing.T) {
	sameEnd(t, "Name", Name, []ending{
		{"ab1 c", 0, 3}, {"ab1 c", 1, 3}, {"ab1 c", 2, 2}, {"ab1 c", 3, 3}, {"ab1 c", 4, 5},
		{"AZaz_09", 0, 7}, {"_", 0, 1}, {"__typename", 0, 10}, {"x", 0, 1}, {"x1", 0, 2},
		{"1a", 0, 0}, {"1a", 1, 2}, {"9", 0, 0}, {"a-b", 0, 1}, {"a.b", 0, 1}, {"$a", 0, 0},
		{"a\xc3\xa9", 0, 1}, {"\xc3\xa9a", 0, 0}, {"a\xef\xbb\xbfb", 0, 1}, {"a,b", 0, 1}, {"a#b", 0, 1},
	})
}

func TestP4_1Digits(t *testing.T) {
	sameEnd(t, "Digits", Digits, []ending{
		{"0123456789", 0, 10}, {"0123456789", 4, 10}, {"0123456789", 9, 10},
		{"12.5", 0, 2}, {"12.5", 2, 2}, {"12.5", 3, 4}, {"-7", 0, 0}, {"-7", 1, 2},
		{"007a", 0, 3}, {"a007", 0, 0}, {"a007", 1, 4}, {"5 6", 0, 1}, {"5_6", 0, 1}, {"\xb9", 0, 0},
		{"1/", 0, 1}, {"1:", 0, 1},
	})
}

// Each byte alone, and behind one that begins a name, a digit, and a blank.
func TestP4_1AndP4_2EachByte(t *testing.T) {
	for c := range 256 {
		for _, s := range []string{string([]byte{byte(c)}), string([]byte{'a', byte(c), 'b'}), string([]byte{'7', byte(c), '8'}), string([]byte{' ', byte(c), ' '})} {
			asWanted(t, s)
		}
	}
}

// asWanted holds each call, at each place in s and beside it, against the chapter's words.
func asWanted(t *testing.T, s string) {
	t.Helper()
	for _, call := range calls {
		for i := -2; i <= len(s)+2; i++ {
			if got, want := call.end(s, i), wanted(call.ahead, s, i); got != want {
				t.Errorf("%s(%q, %d) = %d, not %d", call.name, s, i, got, want)
			}
		}
	}
}

func TestP4_1NoPlace(t *testing.T) {
	for _, call := range calls {
		for _, s := range []string{"", "a", "1", " ", "#", "a1 ,#", "\xef\xbb\xbf"} {
			for _, i := range []int{len(s), len(s) + 1, len(s) + 2, -1, -2, math.MaxInt, math.MaxInt - 1, math.MinInt, math.MinInt + 1, 1 << 32, -1 << 32} {
				if got := call.end(s, i); got != i {
					t.Errorf("%s(%q, %d) = %d", call.name, s, i, got)
				}
			}
		}
	}
}

func TestP4_2Blank(t *testing.T) {
	sameEnd(t, "Blank", Blank, []ending{
		{"", 0, 0}, {"ab1 c", 3, 4}, {"ab1 c", 0, 0}, {"ab1 c", 4, 4},
		{"\t\n\r ,", 0, 5}, {"\t\n\r ,x", 0, 5}, {"\t\n\r ,x", 2, 5}, {",,,", 0, 3}, {" ", 0, 1},
		{"\v", 0, 0}, {"\f", 0, 0}, {" \x00 ", 0, 1}, {" \xc2\xa0", 0, 1}, {" ;", 0, 1},
	})
}

func TestP4_2ThreeBytes(t *testing.T) {
	sameEnd(t, "Blank", Blank, []ending{
		{"\xef\xbb\xbf", 0, 3}, {"\xef\xbb\xbfa", 0, 3}, {" \xef\xbb\xbf ", 0, 5}, {"\xef\xbb\xbf\xef\xbb\xbf", 0, 6},
		{"\xef\xbb\xbf\xef\xbb", 0, 3}, {"\xef\xbb\xbf\xef", 0, 3}, {"\xef\xbb", 0, 0}, {"\xef", 0, 0},
		{"\xef\xbb\xbf", 1, 1}, {"\xef\xbb\xbf", 2, 2}, {"\xbb\xbf", 0, 0}, {"\xbf", 0, 0},
		{"\xef\xbf\xbb", 0, 0}, {"\xbb\xef\xbf", 0, 0}, {"\xbf\xbb\xef", 0, 0}, {"\xef\xbb \xbf", 0, 0}, {"\xef\xbb\xbe", 0, 0},
	})
}

func TestP4_2Comment(t *testing.T) {
	sameEnd(t, "Blank", Blank, []ending{
		{"#", 0, 1}, {"#abc", 0, 4}, {"#a\nb", 0, 3}, {"#a\rb", 0, 3}, {"#a\r\nb", 0, 4}, {"#\nb", 0, 2}, {"#\rb", 0, 2},
		{"#a\n#b\n c", 0, 7}, {"#a\r#b\r c", 0, 7}, {"#a#b\nc", 0, 5}, {"#a\n#b", 0, 5}, {"##", 0, 2},
		{" ,#a\n,\xef\xbb\xbf#b\r\n\tc", 0, 14}, {"a#b", 0, 0}, {"a#b", 1, 3}, {"#a b,c", 3, 3}, {"#a b,c", 2, 3},
		{"#\"\x00\xff\xef\xbb\v\f\xe2\x80\xa8x\n}", 0, 13},
	})
}

// Every text of up to four bytes out of those that the chapter tells apart.
func TestP4_1AndP4_2ShortTexts(t *testing.T) {
	pieces := []byte{'\t', '\n', '\r', ' ', ',', '#', 0xef, 0xbb, 0xbf, 'a', '_', '0', '-'}
	var grow func(s string)
	grow = func(s string) {
		asWanted(t, s)
		if len(s) == 4 || t.Failed() {
			return
		}
		for _, c := range pieces {
			grow(s + string([]byte{c}))
		}
	}
	grow("")
}

// Longer texts, put together from pieces by a fixed rule.
func TestP4_1AndP4_2LongTexts(t *testing.T) {
	pieces := []string{"a", "Zz_", "09", "7", " ", ",", "\t", "\n", "\r\n", "#", "# x", "#\r", "\xef\xbb\xbf", "\xef\xbb", "\xef", "{", "-", "\xff"}
	state := uint32(1)
	for range 2000 {
		var b strings.Builder
		for range 12 {
			state = state*1664525 + 1013904223
			b.WriteString(pieces[int(state>>16)%len(pieces)])
		}
		asWanted(t, b.String())
	}
}

func TestP4_3EndsAtOnceFromItsEnd(t *testing.T) {
	for _, call := range calls {
		for _, a := range edgeBytes {
			for _, b := range edgeBytes {
				endsAtOnce(t, call.name, call.end, string([]byte{a, b, 'a', '1', ' ', '#', b, '\n', a}))
			}
		}
	}
}

func endsAtOnce(t *testing.T, name string, end func(string, int) int, s string) {
	t.Helper()
	for i := range len(s) + 1 {
		e := end(s, i)
		if e < i || e > len(s) {
			t.Fatalf("%s(%q, %d) = %d", name, s, i, e)
		}
		if again := end(s, e); again != e {
			t.Errorf("%s(%q, %d) = %d, from there on %d", name, s, i, e, again)
		}
	}
}

func TestP4_3BehindANamesEndNoNameBegins(t *testing.T) {
	for _, c := range edgeBytes {
		s := "ab1" + string([]byte{c}) + "c"
		e := Name(s, 0)
		if e < len(s) && Begins(s[e]) || e < len(s) && Digits(s, e) != e {
			t.Errorf("Name(%q, 0) = %d, and it goes on", s, e)
		}
	}
}

// A long text is gone through once: were it gone through again and again, this would not end in time.
func TestP1LongTexts(t *testing.T) {
	const n = 1 << 20
	for _, x := range []struct {
		end  func(string, int) int
		text string
	}{{Name, "a"}, {Digits, "1"}, {Blank, " "}, {Blank, "#"}, {Blank, "#\n"}, {Blank, "\xef\xbb\xbf"}} {
		s := strings.Repeat(x.text, n)
		if got := x.end(s, 0); got != len(s) {
			t.Errorf("of %q, many times: %d, not %d", x.text, got, len(s))
		}
	}
}
