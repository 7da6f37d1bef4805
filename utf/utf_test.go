package utf

import (
	"math"
	"strings"
	"testing"
)

// isCharacter and bytesOf say the chapter's words once more, apart from the program's own.
func isCharacter(r int) bool {
	if r == 9 || r == 10 || r == 13 {
		return true
	}
	return r >= 32 && r <= 1114111 && !(r >= 55296 && r <= 57343)
}

func bytesOf(r int) string {
	low := func(by int) byte { return byte(128 + r/by%64) }
	switch {
	case r < 128:
		return string([]byte{byte(r)})
	case r < 2048:
		return string([]byte{byte(192 + r/64), low(1)})
	case r < 65536:
		return string([]byte{byte(224 + r/4096), low(64), low(1)})
	}
	return string([]byte{byte(240 + r/262144), low(4096), low(64), low(1)})
}

// known tells each character by its bytes.
func known() map[string]int {
	all := make(map[string]int, 1114112)
	for r := 0; r <= 1114111; r++ {
		if isCharacter(r) {
			all[bytesOf(r)] = r
		}
	}
	return all
}

// nextOf looks s up from place i on, a byte more at a time.
func nextOf(all map[string]int, s string, i int) (int, int) {
	if i < 0 {
		return 0, 0
	}
	for n := 1; n <= 4 && i+n <= len(s); n++ {
		if r, ok := all[s[i:i+n]]; ok {
			return r, n
		}
	}
	return 0, 0
}

func badOf(all map[string]int, s string) int {
	for i := 0; i < len(s); {
		_, n := nextOf(all, s, i)
		if n == 0 {
			return i
		}
		i += n
	}
	return -1
}

// edgeBytes are those at which a byte's part in a character may turn.
func edgeBytes() []byte {
	return []byte{0, 9, 10, 13, 31, 32, 127, 128, 143, 144, 159, 160, 189, 191, 192, 193, 194, 195, 223, 224, 225, 236, 237, 238, 239, 240, 241, 243, 244, 245, 255}
}

// texts hands on every text of edgeBytes with up to n bytes.
func texts(n int, tell func(s string)) {
	var grow func(s []byte)
	grow = func(s []byte) {
		tell(string(s))
		if len(s) == n {
			return
		}
		for _, b := range edgeBytes() {
			grow(append(s[:len(s):len(s)], b))
		}
	}
	grow(nil)
}

func sameNext(t *testing.T, s string, i, r, n int) {
	t.Helper()
	if gotR, gotN := Next(s, i); gotR != r || gotN != n {
		t.Errorf("Next(%q, %d) = %d, %d, not %d, %d", s, i, gotR, gotN, r, n)
	}
}

func sameBad(t *testing.T, s string, at int) {
	t.Helper()
	if got := Bad(s); got != at {
		t.Errorf("Bad(%q) = %d, not %d", s, got, at)
	}
	if got := May(s); got != (at == -1) {
		t.Errorf("May(%q) = %v", s, got)
	}
}

func TestP2_1PutAtEdges(t *testing.T) {
	for _, x := range []struct {
		r    int
		want string
	}{
		{9, "\t"}, {10, "\n"}, {13, "\r"}, {32, " "}, {65, "A"}, {126, "~"}, {127, "\x7f"},
		{128, "\xc2\x80"}, {233, "\xc3\xa9"}, {2047, "\xdf\xbf"},
		{2048, "\xe0\xa0\x80"}, {8364, "\xe2\x82\xac"}, {55295, "\xed\x9f\xbf"}, {57344, "\xee\x80\x80"},
		{65279, "\xef\xbb\xbf"}, {65533, "\xef\xbf\xbd"}, {65534, "\xef\xbf\xbe"}, {65535, "\xef\xbf\xbf"},
		{65536, "\xf0\x90\x80\x80"}, {128512, "\xf0\x9f\x98\x80"}, {262143, "\xf0\xbf\xbf\xbf"},
		{262144, "\xf1\x80\x80\x80"}, {1114111, "\xf4\x8f\xbf\xbf"},
	} {
		if got := Put(x.r); got != x.want {
			t.Errorf("Put(%d) = %q, not %q", x.r, got, x.want)
		}
		sameNext(t, x.want, 0, x.r, len(x.want))
	}
}

func TestP2_1PutOfNone(t *testing.T) {
	none := []int{
		0, 1, 8, 11, 12, 14, 31, 55296, 56319, 56320, 57343, 1114112, 2097151, 2097152,
		-1, -9, -10, -13, -32, -65, -128, -55296, -1114111,
		1<<31 - 1, 1 << 31, -1 << 31, 1<<32 - 1, 1 << 32, 1<<32 + 9, 1<<32 + 65, 1<<40 + 233, -1<<32 + 65,
		math.MaxInt, math.MinInt,
	}
	for _, r := range none {
		if got := Put(r); got != "" {
			t.Errorf("Put(%d) = %q", r, got)
		}
	}
}

func TestP2_1PutOfAll(t *testing.T) {
	for r := -70000; r <= 1200000; r++ {
		want := ""
		if isCharacter(r) {
			want = bytesOf(r)
		}
		if got := Put(r); got != want {
			t.Fatalf("Put(%d) = %q, not %q", r, got, want)
		}
	}
}

func TestP2_1NextAtPlaces(t *testing.T) {
	s := "a\xc3\xa9\xe2\x82\xac\xf0\x9f\x98\x80\tz"
	starts := map[int][2]int{0: {97, 1}, 1: {233, 2}, 3: {8364, 3}, 6: {128512, 4}, 10: {9, 1}, 11: {122, 1}}
	for i := -20; i <= 32; i++ {
		want := starts[i] // inside a character, and at what is no place, there is none
		sameNext(t, s, i, want[0], want[1])
	}
	for _, s := range []string{"", "a", "abc", "\xc3\xa9"} {
		for _, i := range []int{-1, -2, len(s), len(s) + 1, 1 << 32, 1 << 62, -1 << 62, math.MaxInt, math.MinInt} {
			sameNext(t, s, i, 0, 0)
		}
	}
}

func TestP2_1NextOfNone(t *testing.T) {
	for _, s := range []string{
		"\x00", "\x01", "\x08", "\x0b", "\x0c", "\x0e", "\x1f", // below 32
		"\x80", "\xa9", "\xbf", "\xfe", "\xff", "\xf5\x80\x80\x80", "\xf8\x88\x80\x80\x80", // no character's
		"\xc3", "\xe2", "\xe2\x82", "\xf0", "\xf0\x9f", "\xf0\x9f\x98", "\xef\xbf", // cut short
		"\xc3a", "\xe2a\x82", "\xe2\x82a", "\xf0\x9f\x98a", "\xc3\xc3", "\xe2\x82\xe2", // gone on wrongly
		"\xc0\x80", "\xc0\x89", "\xc1\x81", "\xc1\xbf", "\xe0\x80\x80", "\xe0\x81\x81", "\xe0\x9f\xbf", // longer than needed
		"\xf0\x80\x80\x80", "\xf0\x82\x82\xac", "\xf0\x8f\xbf\xbf", "\xf0\x8f\xbf\xbd",
		"\xed\xa0\x80", "\xed\xaf\xbf", "\xed\xb0\x80", "\xed\xbf\xbf", // from 55296 to 57343
		"\xf4\x90\x80\x80", "\xf4\xbf\xbf\xbf", "\xf7\xbf\xbf\xbf", // beyond 1114111
	} {
		sameNext(t, s, 0, 0, 0)
		sameNext(t, s+"a", 0, 0, 0)
		sameNext(t, "ab"+s+"cd", 2, 0, 0)
	}
}

func TestP2_1NextOfTexts(t *testing.T) {
	all := known()
	texts(4, func(s string) {
		r, n := nextOf(all, s, 0)
		if gotR, gotN := Next(s, 0); gotR != r || gotN != n {
			t.Fatalf("Next(%q, 0) = %d, %d, not %d, %d", s, gotR, gotN, r, n)
		}
	})
	texts(3, func(s string) {
		for i := -1; i <= len(s)+1; i++ {
			r, n := nextOf(all, s, i)
			sameNext(t, s, i, r, n)
		}
	})
}

func TestP2_2Bad(t *testing.T) {
	for _, x := range []struct {
		s  string
		at int
	}{
		{"", -1}, {"a", -1}, {"{a,b}\n", -1}, {" \t\r\n\x7f", -1}, {"\xef\xbb\xbfa", -1}, {"\xef\xbf\xbd", -1},
		{"a\xc3\xa9\xe2\x82\xac\xf0\x9f\x98\x80z", -1},
		{"\x00", 0}, {"a\x00", 1}, {"a\x00\x00", 1}, {"a\x00b\xff", 1}, {"\x1fabc", 0}, {"ab\x80", 2},
		{"\xc3\xa9\xa9", 2}, {"\xc3\xa9\xc3", 2}, {"\xe2\x82\xac\xe2\x82", 3}, {"\xf0\x9f\x98\x80\xf0\x9f\x98", 4},
		{"\xc3\xa9\xc0\x80", 2}, {"\xe2\x82\xac\xed\xa0\x80a", 3}, {"\xf0\x9f\x98\x80\xf4\x90\x80\x80", 4},
		{"\xef\xbf\xbd\xff", 3}, {"\xff\xef\xbf\xbd", 0},
		{strings.Repeat("\xc3\xa9", 5000), -1},
		{strings.Repeat("\xc3\xa9", 5000) + "\x0b", 10000},
	} {
		sameBad(t, x.s, x.at)
	}
}

func TestP2_2BadOfTexts(t *testing.T) {
	all := known()
	texts(3, func(s string) {
		sameBad(t, s, badOf(all, s))
		sameBad(t, "\xf0\x9f\x98\x80"+s+"\xc3\xa9", badOf(all, "\xf0\x9f\x98\x80"+s+"\xc3\xa9"))
	})
	for a := range 256 {
		for b := range 256 {
			s := string([]byte{byte(a), byte(b)})
			sameBad(t, s, badOf(all, s))
		}
	}
}

func TestP2_3WhatIsPutIsNext(t *testing.T) {
	of := make(map[string]int, 1114112)
	for r := -40; r <= 1114200; r++ {
		s := Put(r)
		if s == "" {
			continue
		}
		if other, ok := of[s]; ok {
			t.Fatalf("%d and %d are both put as %q", other, r, s)
		}
		of[s] = r
		for _, x := range []string{s, s + "a", s + "\x80", s + "\xff", s + s} {
			if got, n := Next(x, 0); got != r || n != len(s) {
				t.Fatalf("Next(%q, 0) = %d, %d, not %d, %d", x, got, n, r, len(s))
			}
		}
		if got, n := Next("\xff"+s, 1); got != r || n != len(s) {
			t.Fatalf("Next(%q, 1) = %d, %d, not %d, %d", "\xff"+s, got, n, r, len(s))
		}
		for i := 1; i < len(s); i++ {
			sameNext(t, s, i, 0, 0)
		}
	}
	if len(of) != 3+1114112-32-2048 {
		t.Errorf("%d characters are put", len(of))
	}
}

func TestP2_3WhatMayBeIsPutAsItStands(t *testing.T) {
	texts(3, func(s string) {
		var again strings.Builder
		for i := 0; i < len(s); {
			r, n := Next(s, i)
			if n == 0 {
				break
			}
			again.WriteString(Put(r))
			i += n
		}
		if May(s) != (again.String() == s) {
			t.Errorf("May(%q) = %v, and it is gone through as %q", s, May(s), again.String())
		}
		if at := Bad(s); at != -1 && again.String() != s[:at] {
			t.Errorf("Bad(%q) = %d, and it is gone through as %q", s, at, again.String())
		}
	})
}

// TestP1 calls at wrong arguments, twice: each call ends, and answers the same again.
func TestP1(t *testing.T) {
	texts(2, func(s string) {
		if Bad(s) != Bad(s) || May(s) != May(s) {
			t.Errorf("%q: another answer", s)
		}
		for _, i := range []int{math.MinInt, -1, 0, 1, 2, 3, math.MaxInt} {
			r, n := Next(s, i)
			if (r == 0) != (n == 0) || n < 0 || n > 4 {
				t.Errorf("Next(%q, %d) = %d, %d", s, i, r, n)
			}
			sameNext(t, s, i, r, n)
		}
	})
}
