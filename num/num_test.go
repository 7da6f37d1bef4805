package num

import (
	"math"
	"regexp"
	"strings"
	"testing"

	"copperplate/api"
)

// The chapter's words once more, apart from the program's own: the most of a text's front
// that a number may begin with, a number, one with neither a fraction nor an exponent, and
// what may not stand behind one.
var (
	beginning = longest(`^-?((0|[1-9][0-9]*)((\.[0-9]+)?([eE][+-]?[0-9]*)?|\.)?)?`)
	whole     = regexp.MustCompile(`^-?(0|[1-9][0-9]*)(\.[0-9]+)?([eE][+-]?[0-9]+)?$`)
	plain     = regexp.MustCompile(`^-?(0|[1-9][0-9]*)$`)
	behind    = regexp.MustCompile(`^[0-9.A-Z_a-z]`)
)

func longest(expr string) *regexp.Regexp {
	r := regexp.MustCompile(expr)
	r.Longest()
	return r
}

type answer struct {
	kind, at int
	is       bool
}

func number(s string, i int) answer {
	kind, at, is := Number(s, i)
	return answer{kind, at, is}
}

func wanted(s string, i int) answer {
	if i < 0 || i >= len(s) {
		return answer{0, i, false}
	}
	begun := beginning.FindString(s[i:])
	at := i + len(begun)
	switch {
	case !whole.MatchString(begun) || behind.MatchString(s[at:]):
		return answer{0, at, false}
	case plain.MatchString(begun):
		return answer{api.TkInt, at, true}
	}
	return answer{api.TkFloat, at, true}
}

// asWanted holds Number at each place of s and beside it, and Whole of s, against the chapter's words.
func asWanted(t *testing.T, s string) {
	t.Helper()
	for i := -2; i <= len(s)+2; i++ {
		if got, want := number(s, i), wanted(s, i); got != want {
			t.Errorf("Number(%q, %d) = %v, not %v", s, i, got, want)
		}
	}
	if got, want := Whole(s), whole.MatchString(s); got != want {
		t.Errorf("Whole(%q) = %v", s, got)
	}
}

// texts hands on every text of the bytes of set with up to n of them.
func texts(set string, n int, tell func(s string)) {
	var grow func(s string)
	grow = func(s string) {
		tell(s)
		if len(s) == n {
			return
		}
		for i := range len(set) {
			grow(s + set[i:i+1])
		}
	}
	grow("")
}

var ints = []string{
	"0", "-0", "1", "2", "3", "4", "5", "6", "7", "8", "9", "-1", "-9", "10", "19", "120", "-120", "900", "1234567890",
	"100000000000000000000000000", "-98765432109876543210",
}

var floats = []string{
	"0.0", "-0.0", "0.5", "1.5", "-1.5", "10.05", "0.00", "9.000000000000000000009", "3.14159", "-0.1234567890",
	"0e0", "1e5", "1E5", "1e+5", "1E+5", "1e-5", "1E-5", "-1e5", "-1E-5", "0e00", "1e05", "1e-0", "1e+0", "12e123456789012345678901234567890",
	"1.5e5", "1.5E5", "1.5e+5", "1.5E+5", "1.5e-5", "1.5E-5", "-12.5e3", "-0.0e-0", "-12.5E+30", "120.012e-0010",
}

func TestP5_1Kinds(t *testing.T) {
	for _, x := range []struct {
		kind int
		all  []string
	}{{api.TkInt, ints}, {api.TkFloat, floats}} {
		for _, s := range x.all {
			if got, want := number(s, 0), (answer{x.kind, len(s), true}); got != want {
				t.Errorf("Number(%q, 0) = %v, not %v", s, got, want)
			}
			if got, want := number("{a: "+s+"}", 4), (answer{x.kind, 4 + len(s), true}); got != want {
				t.Errorf("Number of %q, from 4 on = %v, not %v", s, got, want)
			}
		}
	}
}

func TestP5_1Places(t *testing.T) {
	const s = "-12.5e3 x07"
	for i, want := range []answer{
		{api.TkFloat, 7, true}, {api.TkFloat, 7, true}, {api.TkFloat, 7, true}, {0, 3, false}, {api.TkFloat, 7, true}, {0, 5, false},
		{api.TkInt, 7, true}, {0, 7, false}, {0, 8, false}, {0, 10, false}, {api.TkInt, 11, true}, {0, 11, false}, {0, 12, false},
	} {
		if got := number(s, i); got != want {
			t.Errorf("Number(%q, %d) = %v, not %v", s, i, got, want)
		}
	}
}

func TestP5_1GoesWrong(t *testing.T) {
	for _, x := range []struct {
		s  string
		at int
	}{
		{"", 0}, {"-", 1}, {"- 1", 1}, {"-a", 1}, {"-.5", 1}, {"-e5", 1}, {"--", 1}, {"--1", 1}, {"-+1", 1}, {"+", 0}, {"+1", 0}, {"+0.5", 0}, // signs
		{"00", 1}, {"01", 1}, {"09", 1}, {"-00", 2}, {"-01", 2}, {"00.5", 1}, {"01e5", 1}, {"0_", 1}, {"0a", 1}, {"0x1", 1}, {"-0b1", 2}, // behind a 0
		{".", 0}, {".5", 0}, {"..", 0}, {"...", 0}, {"0.", 2}, {"1.", 2}, {"-1.", 3}, {"1. ", 2}, {"1.x", 2}, {"1.e5", 2}, {"1.E5", 2}, {"1.-5", 2}, {"1._", 2}, // dots
		{"1..", 2}, {"1..5", 2}, {"1...", 2}, {"1.5.", 3}, {"1.5.5", 3}, {"1.5..", 3}, {"1e5.", 3}, {"1e5.5", 3}, {"1e.5", 2}, {"1.05.", 4},
		{"e", 0}, {"e5", 0}, {"E5", 0}, {"1e", 2}, {"1E", 2}, {"0e", 2}, {"-0E", 3}, {"1e ", 2}, {"1ex", 2}, {"1ee5", 2}, {"1e_5", 2}, {"1.5e", 4}, {"1.5E", 4}, // exponents
		{"1e+", 3}, {"1e-", 3}, {"1E+", 3}, {"1E-", 3}, {"1e++5", 3}, {"1e+-5", 3}, {"1e--5", 3}, {"1e- 5", 3}, {"1e-.5", 3}, {"1e+e", 3}, {"1.5e-", 5},
		{"1e5e", 3}, {"1e5E5", 3}, {"1.5e3e", 5}, {"1.5e3e5", 5}, {"1e05e", 4}, {"1.5x", 3}, {"1e5x", 3}, {"1e5_", 3},
		{"1a", 1}, {"1_", 1}, {"1Z", 1}, {"12a", 2}, {"1_000", 1}, {"1f", 1}, {"-7g", 2}, {"120z", 3}, {"1A.5", 1}, // names
		{"a", 0}, {"_", 0}, {" ", 0}, {" 1", 0}, {",1", 0}, {"{1}", 0}, {"\"1\"", 0}, {"#1", 0}, {"\n1", 0}, {"\x00", 0}, {"\xff1", 0}, {"/", 0}, {":", 0}, // nothing begins
		{"\xd9\xa1", 0}, {"\xef\xbc\x91", 0}, {"\xe2\x88\x921", 0}, {"\xef\xbb\xbf1", 0}, {"NaN", 0}, {"-Inf", 1},
	} {
		if got, want := number(x.s, 0), (answer{0, x.at, false}); got != want {
			t.Errorf("Number(%q, 0) = %v, not %v", x.s, got, want)
		}
		if got, want := number("1 "+x.s, 2), (answer{0, x.at + 2, false}); got != want {
			t.Errorf("Number(%q, 2) = %v, not %v", "1 "+x.s, got, want)
		}
		if Whole(x.s) {
			t.Errorf("Whole(%q)", x.s)
		}
	}
}

func TestP5_1NoPlace(t *testing.T) {
	for _, s := range []string{"", "0", "123", "-", "1.5e5", "a"} {
		for _, i := range []int{len(s), len(s) + 1, len(s) + 2, -1, -2, math.MaxInt, math.MaxInt - 1, math.MinInt, math.MinInt + 1, 1 << 32, -1 << 32} {
			if got, want := number(s, i), (answer{0, i, false}); got != want {
				t.Errorf("Number(%q, %d) = %v, not %v", s, i, got, want)
			}
		}
	}
}

// Each byte behind each number, with another one and with none behind it, ahead of it, and within it.
func TestP5_1EachByte(t *testing.T) {
	for c := range 256 {
		b := string([]byte{byte(c)})
		asWanted(t, b)
		for _, s := range append(append([]string{}, ints...), floats...) {
			for _, x := range []string{s + b, s + b + "1", b + s, s[:1] + b + s[1:], s[:len(s)-1] + b + s[len(s)-1:]} {
				asWanted(t, x)
			}
		}
	}
}

func TestP5_1AndP5_2ShortTexts(t *testing.T) {
	texts("-+.eE019a_ ]", 5, func(s string) { asWanted(t, s) })
	texts("-.e01", 8, func(s string) { asWanted(t, s) })
}

func TestP5_2Whole(t *testing.T) {
	for _, s := range append(append([]string{}, ints...), floats...) {
		if !Whole(s) {
			t.Errorf("not Whole(%q)", s)
		}
		for _, x := range []string{s + " ", " " + s, s + "]", "[" + s, s + ",", s + "\n", s + "\r", s + "\x00", s + "-", s + "-1", s + "+1", s + " 1", s + "\"", s + "#", s + "\xef\xbb\xbf", s + ".", s + "a", s + "_", "0" + s, "+" + s, "a" + s} {
			if Whole(x) {
				t.Errorf("Whole(%q)", x)
			}
		}
	}
}

func TestP5_3InFrontOfABlankOrABracket(t *testing.T) {
	for _, s := range append(append([]string{}, ints...), floats...) {
		alone := number(s, 0)
		for _, more := range []string{" ", "\t", "\n", "\r", ",", "(", ")", "[", "]", "{", "}", "#", "\xef\xbb\xbf", "-", "+", "$", "!", "\"", ":", "|"} {
			for _, last := range []string{"", "1", "a", ".5", "e5"} {
				if got := number(s+more+last, 0); got != alone || !got.is {
					t.Errorf("Number(%q, 0) = %v, not %v", s+more+last, got, alone)
				}
			}
		}
	}
}

// What is taken is a number by itself, of that kind, and no more of the text is one.
func TestP5_3NoOtherNumberBegins(t *testing.T) {
	texts("-.eE+07 a]", 6, func(s string) {
		got := number(s, 0)
		if !got.is {
			return
		}
		if alone := number(s[:got.at], 0); alone != got || !Whole(s[:got.at]) {
			t.Errorf("Number(%q, 0) = %v, but alone %v", s, got, alone)
		}
		for end := got.at + 1; end <= len(s); end++ {
			if Whole(s[:end]) {
				t.Errorf("Number(%q, 0) = %v, and %q is one too", s, got, s[:end])
			}
		}
	})
}

// A long text is gone through once: were it gone through again and again, this would not end in time.
func TestP1LongTexts(t *testing.T) {
	const n = 1 << 20
	nines := strings.Repeat("9", n)
	for _, x := range []struct {
		s    string
		want answer
	}{
		{nines, answer{api.TkInt, n, true}},
		{"-" + nines, answer{api.TkInt, n + 1, true}},
		{"0." + nines, answer{api.TkFloat, n + 2, true}},
		{"0e" + nines, answer{api.TkFloat, n + 2, true}},
		{nines + "." + nines + "e-" + nines, answer{api.TkFloat, 3*n + 3, true}},
		{nines + ".", answer{0, n + 1, false}},
		{nines + "a", answer{0, n, false}},
		{strings.Repeat("0", n), answer{0, 1, false}},
		{strings.Repeat("-", n), answer{0, 1, false}},
	} {
		if got := number(x.s, 0); got != x.want {
			t.Errorf("of %d bytes: %v, not %v", len(x.s), got, x.want)
		}
		if got := Whole(x.s); got != x.want.is {
			t.Errorf("of %d bytes: Whole is %v", len(x.s), got)
		}
	}
}
