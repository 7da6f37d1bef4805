package text

import (
	"fmt"
	"math"
	"regexp"
	"strconv"
	"strings"
	"testing"
	"unicode/utf8"
)

type answer struct {
	told string
	at   int
	is   bool
}

func stringAt(s string, i int) answer {
	told, at, is := String(s, i)
	return answer{told, at, is}
}

func escapeAt(s string, i int) answer {
	told, at, is := Escape(s, i)
	return answer{told, at, is}
}

// The chapter's words once more, apart from the program's own.
var (
	oneCode  = regexp.MustCompile(`^[0-9a-fA-F]{4}`)
	oneByte  = regexp.MustCompile(`^\\["\\/bfnrt]`)
	oneUnit  = regexp.MustCompile(`^\\u[0-9a-fA-F]{4}`)
	halfUnit = regexp.MustCompile(`^\\u[dD][89a-fA-F]`)
	pair     = regexp.MustCompile(`^\\u[dD][89abAB][0-9a-fA-F]{2}\\u[dD][c-fC-F][0-9a-fA-F]{2}`)
)

var letters = map[string]string{"\"": "\"", "\\": "\\", "/": "/", "b": "\x08", "f": "\x0c", "n": "\x0a", "r": "\x0d", "t": "\x09"}

func number(code string) int {
	n, err := strconv.ParseUint(code, 16, 16)
	if err != nil {
		panic(err)
	}
	return int(n)
}

func wantedHex(s string, i int) (int, bool) {
	if i < 0 || i > len(s) || !oneCode.MatchString(s[i:]) {
		return 0, false
	}
	return number(s[i : i+4]), true
}

func wantedEscape(s string, i int) answer {
	if i < 0 || i >= len(s) {
		return answer{"", i, false}
	}
	rest := s[i:]
	switch {
	case oneByte.MatchString(rest):
		return answer{letters[rest[1:2]], i + 2, true}
	case pair.MatchString(rest):
		r := 0x10000 + number(rest[2:6])%1024*1024 + number(rest[8:12])%1024
		return answer{string(rune(r)), i + 12, true}
	case oneUnit.MatchString(rest) && !halfUnit.MatchString(rest):
		return answer{string(rune(number(rest[2:6]))), i + 6, true}
	}
	return answer{"", i, false}
}

func wantedString(s string, i int) answer {
	if i < 0 || i >= len(s) || s[i] != 34 {
		return answer{"", i, false}
	}
	told := ""
	for at := i + 1; at < len(s); {
		c, n := utf8.DecodeRuneInString(s[at:])
		switch {
		case c == 34:
			return answer{told, at + 1, true}
		case c == 92:
			e := wantedEscape(s, at)
			if !e.is {
				return answer{"", at, false}
			}
			told, at = told+e.told, e.at
		case c == utf8.RuneError && n == 1, c < 32 && c != 9:
			return answer{"", at, false}
		default:
			told, at = told+s[at:at+n], at+n
		}
	}
	return answer{"", len(s), false}
}

func sameHex(t *testing.T, s string, i, code int, is bool) {
	t.Helper()
	if gotCode, gotIs := Hex(s, i); gotCode != code || gotIs != is {
		t.Errorf("Hex(%q, %d) = %d, %v, not %d, %v", s, i, gotCode, gotIs, code, is)
	}
}

func sameEscape(t *testing.T, s string, i int, want answer) {
	t.Helper()
	if got := escapeAt(s, i); got != want {
		t.Errorf("Escape(%q, %d) = %q, not %q", s, i, fmt.Sprint(got), fmt.Sprint(want))
	}
}

func sameString(t *testing.T, s string, i int, want answer) {
	t.Helper()
	if got := stringAt(s, i); got != want {
		t.Errorf("String(%q, %d) = %q, not %q", s, i, fmt.Sprint(got), fmt.Sprint(want))
	}
}

// asWanted holds each call at each place of s, and beside them, against the chapter's words.
func asWanted(t *testing.T, s string) {
	t.Helper()
	for i := -2; i <= len(s)+2; i++ {
		code, is := wantedHex(s, i)
		sameHex(t, s, i, code, is)
		sameEscape(t, s, i, wantedEscape(s, i))
		sameString(t, s, i, wantedString(s, i))
	}
}

// tells asks for what an escape tells, alone and within a string, with nothing and with more behind it.
func tells(t *testing.T, escape, told string) {
	t.Helper()
	n := len(escape)
	for _, more := range []string{"", "0", "f", "u", "\\", "\\uDE00", "\"", "\n", "\xff"} {
		sameEscape(t, escape+more, 0, answer{told, n, true})
		sameEscape(t, "\\\""+escape+more, 2, answer{told, n + 2, true})
	}
	sameString(t, "\""+escape+"\"", 0, answer{told, n + 2, true})
	sameString(t, "x\"a"+escape+"b\"c", 1, answer{"a" + told + "b", n + 5, true})
}

// tellsNothing asks that it goes wrong where that which is no escape begins, alone and within a string.
func tellsNothing(t *testing.T, escape string) {
	t.Helper()
	sameEscape(t, escape, 0, answer{"", 0, false})
	sameEscape(t, "ab"+escape, 2, answer{"", 2, false})
	sameString(t, "\""+escape, 0, answer{"", 1, false})
	sameString(t, "\"a\\n"+escape+"\"", 0, answer{"", 4, false})
}

// noPlaces are places that a text of n bytes has not.
func noPlaces(n int) []int {
	return []int{n, n + 1, n + 2, n + 4, -1, -2, -4, -5, math.MaxInt, math.MaxInt - 1, math.MaxInt - 3, math.MaxInt - 11, math.MinInt, math.MinInt + 1, 1 << 32, -1 << 32}
}

func oneOf(c int) string { return string([]byte{byte(c)}) }

func TestP6_1Codes(t *testing.T) {
	for s, code := range map[string]int{
		"0000": 0, "0001": 1, "0010": 16, "0100": 256, "1000": 4096, "1234": 4660, "9999": 39321, "6789": 26505, "0909": 2313,
		"abcd": 43981, "cdef": 52719, "aaaa": 43690, "ffff": 65535, "ABCD": 43981, "CDEF": 52719, "AAAA": 43690, "FFFF": 65535,
		"aBcD": 43981, "AbCd": 43981, "1aF9": 6905, "F0a9": 61609, "0eE0": 3808, "001f": 31, "001F": 31, "0020": 32, "007f": 127, "0080": 128,
		"07ff": 2047, "0800": 2048, "d7ff": 55295, "d800": 55296, "dbff": 56319, "dc00": 56320, "dfff": 57343, "e000": 57344,
	} {
		for _, more := range []string{"", "0", "f", "g", "\\", "\xff"} {
			sameHex(t, s+more, 0, code, true)
			sameHex(t, "fg"+s+more, 2, code, true)
		}
	}
}

func TestP6_1EachCode(t *testing.T) {
	for code := range 65536 {
		low, high := fmt.Sprintf("%04x", code), fmt.Sprintf("%04X", code)
		for _, s := range []string{low, high, low[:1] + high[1:2] + low[2:3] + high[3:], high[:2] + low[2:]} {
			sameHex(t, s, 0, code, true)
		}
	}
}

func TestP6_1EachByteInEachPlace(t *testing.T) {
	for c := range 256 {
		for at := range 4 {
			s := "12aF"[:at] + oneOf(c) + "12aF"[at+1:]
			code, is := wantedHex(s, 0)
			sameHex(t, s, 0, code, is)
			sameHex(t, "0"+s+"0", 1, code, is)
		}
	}
	for _, c := range []int{47, 58, 64, 71, 96, 103} { // beside those that are digits
		for at := range 4 {
			s := "1234"[:at] + oneOf(c) + "1234"[at+1:]
			sameHex(t, s, 0, 0, false)
			tellsNothing(t, "\\u"+s)
		}
	}
}

func TestP6_1NoCode(t *testing.T) {
	for _, s := range []string{"", "1", "12", "123", " 123", "+123", "-123", "0x12", "12_3", "1.23", "123 ", "123\n", "123\x00", "\xef\xbc\x91\xef\xbc\x91\xef\xbc\x91\xef\xbc\x91"} {
		sameHex(t, s, 0, 0, false)
		sameHex(t, "g"+s, 1, 0, false)
	}
	for _, s := range []string{"", "1", "123", "1234", "12345678"} {
		for _, i := range noPlaces(len(s)) {
			sameHex(t, s, i, 0, false)
		}
	}
	const s = "12aBfg"
	for i, code := range map[int]int{-1: -1, 0: 4779, 1: 10943, 2: -1, 3: -1, 4: -1, 5: -1, 6: -1, 7: -1} {
		sameHex(t, s, i, max(code, 0), code >= 0)
	}
}

func TestP6_2Letters(t *testing.T) {
	for letter, told := range letters {
		tells(t, "\\"+letter, told)
	}
	for c := range 256 {
		if letters[oneOf(c)] != "" {
			continue
		}
		tellsNothing(t, "\\"+oneOf(c))
		if c != 'u' {
			tellsNothing(t, "\\"+oneOf(c)+"0041")
		}
	}
}

func TestP6_2CodesAtEdges(t *testing.T) {
	for code, told := range map[string]string{
		"0000": "\x00", "0001": "\x01", "0008": "\x08", "0009": "\t", "000a": "\n", "000B": "\x0b", "000d": "\r", "000e": "\x0e", "001f": "\x1f", "001F": "\x1f",
		"0020": " ", "0022": "\"", "005c": "\\", "005C": "\\", "0041": "A", "007f": "\x7f", "0080": "\xc2\x80", "00e9": "\xc3\xa9", "07ff": "\xdf\xbf", "07FF": "\xdf\xbf",
		"0800": "\xe0\xa0\x80", "20aC": "\xe2\x82\xac", "d7ff": "\xed\x9f\xbf", "D7FF": "\xed\x9f\xbf", "e000": "\xee\x80\x80", "E000": "\xee\x80\x80",
		"feff": "\xef\xbb\xbf", "fffd": "\xef\xbf\xbd", "fffe": "\xef\xbf\xbe", "ffff": "\xef\xbf\xbf", "FFFF": "\xef\xbf\xbf", "FfFf": "\xef\xbf\xbf",
	} {
		tells(t, "\\u"+code, told)
	}
}

func TestP6_2EachCode(t *testing.T) {
	for code := range 65536 {
		want := answer{string(rune(code)), 6, true}
		if 0xd800 <= code && code <= 0xdfff {
			want = answer{"", 0, false}
		}
		for _, s := range []string{fmt.Sprintf("\\u%04x", code), fmt.Sprintf("\\u%04X", code)} {
			sameEscape(t, s, 0, want)
			sameEscape(t, s+"00", 0, want)
			sameEscape(t, s+"\\u0041", 0, want)
		}
	}
}

func TestP6_2Pairs(t *testing.T) {
	for codes, told := range map[string]string{
		"\\ud800\\udc00": "\xf0\x90\x80\x80", "\\uD800\\uDC00": "\xf0\x90\x80\x80", "\\ud800\\udfff": "\xf0\x90\x8f\xbf", "\\ud801\\udc00": "\xf0\x90\x90\x80",
		"\\uD83D\\uDE00": "\xf0\x9f\x98\x80", "\\ud83d\\uDe00": "\xf0\x9f\x98\x80", "\\udbff\\udc00": "\xf4\x8f\xb0\x80", "\\udbff\\udfff": "\xf4\x8f\xbf\xbf", "\\uDBFF\\uDFFF": "\xf4\x8f\xbf\xbf",
	} {
		tells(t, codes, told)
	}
	edges := []int{0, 1, 511, 512, 1022, 1023}
	for _, edge := range edges {
		for n := range 1024 {
			for _, x := range [][2]int{{edge, n}, {n, edge}} {
				s := fmt.Sprintf("\\u%04x\\u%04X", 0xd800+x[0], 0xdc00+x[1])
				sameEscape(t, s, 0, answer{string(rune(65536 + 1024*x[0] + x[1])), 12, true})
			}
		}
	}
}

func TestP6_2HalvesOfPairs(t *testing.T) {
	for _, high := range []string{"\\ud800", "\\uD83D", "\\udbff", "\\uDBFF"} {
		for _, behind := range []string{
			"", "\\", "\\u", "\\ud", "\\udc", "\\udc0", "\\udc0g", "\\Udc00", "\\n", "\\\\", "\\\"", "u", "udc00", "dc00", "/udc00", "x", " \\udc00", "\n", "\xff", "\xed\xb0\x80",
			"\\ud7ff", "\\ud800", "\\udbff", "\\ue000", "\\u0041", "\\u0000", "\\uffff", "\\u\\udc00", "\\ud83d\\udc00",
		} {
			tellsNothing(t, high+behind)
		}
	}
	for _, low := range []string{"\\udc00", "\\uDC00", "\\uDE00", "\\udfff", "\\uDFFF"} {
		for _, behind := range []string{"", "\\", "\\u0041", "\\ud800", "\\udc00", "\\ud83d\\ude00", "a", "\""} {
			tellsNothing(t, low+behind)
		}
	}
}

func TestP6_2GoesWrong(t *testing.T) {
	sameEscape(t, "\\", 0, answer{"", 0, false}) // nothing behind it
	sameEscape(t, "\\n\\", 2, answer{"", 2, false})
	for _, s := range []string{"\\u", "\\u0", "\\u00", "\\u004", "\\u004g", "\\u 041", "\\u{41}", "\\u+041", "\\u\\u0041", "\\u\"", "\\u00\"", "\\u004\"", "\\U0041", "\\x41", "\\0", "\\a", "\\v", "\\'", "\\N", "\\\n", "\\ n"} {
		tellsNothing(t, s)
	}
	for _, s := range []string{"", "n", "u0041", "/n", "\"\\n\"", " \\n", "\x5b", "\x5d", "\xff\\n"} { // no backslash there
		sameEscape(t, s, 0, answer{"", 0, false})
		sameEscape(t, "\\n"+s, 2, answer{"", 2, false})
	}
	for _, s := range []string{"", "\\", "\\n", "\\u0041", "\\ud83d\\ude00"} {
		for _, i := range noPlaces(len(s)) {
			sameEscape(t, s, i, answer{"", i, false})
		}
	}
}

func TestP6_3Tells(t *testing.T) {
	for s, told := range map[string]string{
		"": "", " ": " ", "a": "a", "a b": "a b", "#{}[]()!$&:=@|,...": "#{}[]()!$&:=@|,...", "\t": "\t", "'": "'", "/": "/", "\x7f": "\x7f",
		"a\xc3\xa9\xe2\x82\xac\xf0\x9f\x98\x80z": "a\xc3\xa9\xe2\x82\xac\xf0\x9f\x98\x80z", "\xef\xbb\xbf": "\xef\xbb\xbf", "\xef\xbf\xbd": "\xef\xbf\xbd", "\xc2\x80": "\xc2\x80", "\xe2\x80\xa8": "\xe2\x80\xa8", "\xc2\x85": "\xc2\x85",
		"a\\n\\\"": "a\n\"", "\\\"": "\"", "\\\\": "\\", "\\\\\\\"": "\\\"", "\\\\n": "\\n", "\\\\u0041": "\\u0041", "\\/": "/", "\\b\\f\\n\\r\\t": "\b\f\n\r\t",
		"\\u0022": "\"", "\\u005cn": "\\n", "\\u005C\\u0022": "\\\"", "\\u00411": "A1", "\\u0000\\u001F": "\x00\x1f", "\\u000a\\u000D": "\n\r",
		"\\uD83D\\uDE00\\uD83D\\uDE00": "\xf0\x9f\x98\x80\xf0\x9f\x98\x80", "\xed\x9f\xbf\\ud7ff": "\xed\x9f\xbf\xed\x9f\xbf", "\\u00c3\\u00a9": "\xc3\x83\xc2\xa9",
	} {
		q := "\"" + s + "\""
		for _, more := range []string{"", " ", "\"", "\"\"", "a\"", "\\", "\n", "\xff", "}"} {
			sameString(t, q+more, 0, answer{told, len(q), true})
			sameString(t, "{a:"+q+more, 3, answer{told, len(q) + 3, true})
		}
	}
	sameString(t, "\"a\\n\\\"\"b", 0, answer{"a\n\"", 7, true})
}

func TestP6_3EachCharacter(t *testing.T) {
	for r := range 1114112 {
		s := "\"" + string(rune(r)) + "\""
		if 0xd800 <= r && r <= 0xdfff { // a text of Go's own tells 65533 for those
			s = "\"" + string([]byte{0xed, byte(0x80 + r/64%64), byte(0x80 + r%64)}) + "\""
		}
		if got, want := stringAt(s, 0), wantedString(s, 0); got != want {
			t.Fatalf("String(%q, 0) = %v, not %v", s, got, want)
		}
	}
}

func TestP6_3EachByte(t *testing.T) {
	for c := range 256 {
		b := oneOf(c)
		for _, s := range []string{b, "\"" + b, "\"" + b + "\"", "\"a" + b + "b\"", "\"\xc3" + b + "\"", "\"\\" + b + "\"", b + "\"\"", "\"\"" + b} {
			asWanted(t, s)
		}
	}
	for c, told := range map[int]string{9: "\t", 32: " ", 127: "\x7f", 10: "", 13: "", 31: "", 0: "", 8: "", 11: "", 12: "", 14: "", 128: "", 255: ""} {
		want := answer{told, 3, true}
		if told == "" {
			want = answer{"", 1, false}
		}
		sameString(t, "\""+oneOf(c)+"\"", 0, want)
	}
}

func TestP6_3GoesWrong(t *testing.T) {
	for _, x := range []struct {
		s  string
		at int
	}{
		{"", 0}, {"a", 0}, {"a\"\"", 0}, {" \"\"", 0}, {"'a'", 0}, {"\\\"", 0}, {"\n", 0}, {"\xff", 0}, {"\xe2\x80\x9ca\xe2\x80\x9d", 0}, // no quote there
		{"\"", 1}, {"\"a", 2}, {"\"ab", 3}, {"\"\xc3\xa9", 3}, {"\"\\n", 3}, {"\"\\\"", 3}, {"\"\\u0041", 7}, {"\"\\\\\\\"", 5}, {"\"\\uD83D\\uDE00", 13}, // no last quote
		{"\"\n\"", 1}, {"\"\r\"", 1}, {"\"\r\n\"", 1}, {"\"a\nb\"", 2}, {"\"ab\r\"", 3}, {"\"\xc3\xa9\n", 3}, {"\"\\n\n\"", 3}, {"\"a\n", 2}, // an end of a line
		{"\"\\", 1}, {"\"a\\", 2}, {"\"\\\\\\", 3}, {"\"\\\"\\", 3}, // a backslash at the end
		{"\"\\x\"", 1}, {"\"a\\x\"", 2}, {"\"\\n\\'\"", 3}, {"\"\\\n\"", 1}, {"\"\\U0041\"", 1}, {"\"\\\xff\"", 1}, {"\"\\ \"", 1}, // no letter of the eight
		{"\"\\u\"", 1}, {"\"\\u1\"", 1}, {"\"\\u12\"", 1}, {"\"\\u123\"", 1}, {"\"\\u123g\"", 1}, {"\"ab\\u12", 3}, {"\"\\u12\n4\"", 1}, // no code
		{"\"\\uD83D\"", 1}, {"\"\\uD83Dx\"", 1}, {"\"\\uD83D\\\"", 1}, {"\"\\uD83D\\n\"", 1}, {"\"a\\uDE00\"", 2}, {"\"\\uD83D\\u0041\"", 1}, {"\"\\uD83D\\uDE00\\uD83D\"", 13},
		{"\"\x00\"", 1}, {"\"a\x01\"", 2}, {"\"\x1f\"", 1}, {"\"\x80\"", 1}, {"\"\xff\"", 1}, {"\"\xc3\"", 1}, {"\"a\xe2\x82\"", 2}, {"\"\xf0\x9f\x98\"", 1}, // no character
		{"\"\xc0\x80\"", 1}, {"\"\xed\xa0\x80\"", 1}, {"\"\xed\xa0\xbd\xed\xb8\x80\"", 1}, {"\"\xf4\x90\x80\x80\"", 1}, {"\"\xc3\xa9\xa9\"", 3}, {"\"\xef\xbf\xbd\xef\xbf\"", 4},
		{"\"a\x01\\x\n", 2}, {"\"a\\x\x01\n", 2}, {"\"a\n\\x\x01", 2}, // the first one of several
	} {
		sameString(t, x.s, 0, answer{"", x.at, false})
		sameString(t, "\"\" "+x.s, 3, answer{"", x.at + 3, false})
	}
}

func TestP6_3NoPlace(t *testing.T) {
	for _, s := range []string{"", "\"", "\"\"", "\"a\"", "\"\"\"\"", "\"\\n\""} {
		for _, i := range noPlaces(len(s)) {
			sameString(t, s, i, answer{"", i, false})
		}
	}
	const s = "\"a\"\"\\n\""
	for i, want := range []answer{{"a", 3, true}, {"", 1, false}, {"", 4, true}, {"\n", 7, true}, {"", 4, false}, {"", 5, false}, {"", 7, false}, {"", 7, false}} {
		sameString(t, s, i, want)
	}
}

// texts hands on every text of up to n pieces.
func texts(pieces []string, n int, tell func(s string)) {
	var grow func(s string, n int)
	grow = func(s string, n int) {
		tell(s)
		if n == 0 {
			return
		}
		for _, p := range pieces {
			grow(s+p, n-1)
		}
	}
	grow("", n)
}

func pieces() []string {
	return []string{"\"", "\\", "u", "\\u", "d83d", "DE00", "0041", "0", "n", "\n", "\t", "\x1f", "\xc3\xa9", "\xc3"}
}

func TestP6_1ToP6_3ShortTexts(t *testing.T) {
	texts(pieces(), 4, func(s string) { asWanted(t, s) })
	texts([]string{"\"", "\\u", "\\", "d83d", "DE00", "00e9", "x"}, 6, func(s string) {
		sameEscape(t, s, 0, wantedEscape(s, 0))
		sameString(t, "\""+s, 0, wantedString("\""+s, 0))
	})
}

// isTold tells whether v is of source characters, and bytes below 32.
func isTold(v string) bool { return utf8.ValidString(v) }

func TestP6_4WhatIsTold(t *testing.T) {
	texts(pieces(), 5, func(s string) {
		s = "\"" + s
		got := stringAt(s, 0)
		if !got.is {
			return
		}
		if !isTold(got.told) {
			t.Errorf("String(%q, 0) tells %q", s, got.told)
		}
		for _, more := range []string{"", "\"", "\\", "n", "0", "\\uDE00", "\n", "\xa9", "\xff"} {
			sameString(t, s[:got.at]+more, 0, got)
		}
	})
	for code := range 65536 {
		if told, _, is := Escape(fmt.Sprintf("\\u%04x", code), 0); is && (told == "" || !isTold(told)) {
			t.Errorf("code %d tells %q", code, told)
		}
	}
}

func TestP6_4WhatStandsBehindAnEscape(t *testing.T) {
	texts([]string{"\\u", "\\", "d83d", "DE00", "00e9", "n", "\""}, 5, func(s string) {
		got := escapeAt(s, 0)
		if !got.is {
			return
		}
		for _, more := range []string{"", "0", "f", "\\", "\\uDE00", "\"", "\n", "\xff"} {
			sameEscape(t, s[:got.at]+more, 0, got)
		}
	})
}

// A long text is gone through once: were it gone through again and again, this would not end in time.
func TestP1LongTexts(t *testing.T) {
	const n = 1 << 20
	for _, x := range []struct{ piece, told string }{
		{"a", "a"}, {"\xc3\xa9", "\xc3\xa9"}, {"\\\"", "\""}, {"\\\\", "\\"}, {"\\u0000", "\x00"}, {"\\uD83D\\uDE00", "\xf0\x9f\x98\x80"},
	} {
		s := "\"" + strings.Repeat(x.piece, n)
		if got := stringAt(s+"\"", 0); got != (answer{strings.Repeat(x.told, n), len(s) + 1, true}) {
			t.Errorf("of many %q: %d bytes, %d, %v", x.piece, len(got.told), got.at, got.is)
		}
		if got := stringAt(s, 0); got != (answer{"", len(s), false}) {
			t.Errorf("of many %q and no quote: %d bytes, %d, %v", x.piece, len(got.told), got.at, got.is)
		}
		if got := stringAt(s+"\\x\"", 0); got != (answer{"", len(s), false}) {
			t.Errorf("of many %q and a wrong one: %d bytes, %d, %v", x.piece, len(got.told), got.at, got.is)
		}
	}
}

// TestP1 asks twice, with other calls between: each answers the same again.
func TestP1(t *testing.T) {
	texts(pieces(), 3, func(s string) {
		for _, i := range []int{math.MinInt, -1, 0, 1, len(s), math.MaxInt} {
			code, is := Hex(s, i)
			e, q := escapeAt(s, i), stringAt(s, i)
			String("\"\\uD83D", 0)
			Escape("\\x", 0)
			sameHex(t, s, i, code, is)
			sameEscape(t, s, i, e)
			sameString(t, s, i, q)
		}
	})
}
