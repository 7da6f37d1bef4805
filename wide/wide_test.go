package wide

import (
	"math"
	"slices"
	"strconv"
	"strings"
	"sync"
	"testing"

	"copperplate/api"
	"copperplate/kind"
	"copperplate/lex"
	"copperplate/mark"
	"copperplate/parse"
	"copperplate/span"
)

// Words of the marks, from number 1 on. ODD is a mark that there is not.
const markWords = "SP LINE SOFT COMMA HARD OPEN CLOSE IN OUT ODD"

func text(s string) api.Bit { return api.Bit{Mark: 0, Text: s} }

func of(mark int) api.Bit { return api.Bit{Mark: mark} }

// wordBits are those of words: of a word that is none of a mark it is the text, NONE the empty
// one.
func wordBits(words string) []api.Bit {
	var l []api.Bit
	for word := range strings.FieldsSeq(words) {
		if n := slices.Index(strings.Fields(markWords), word); n >= 0 {
			l = append(l, of(n+1))
		} else {
			l = append(l, text(strings.ReplaceAll(word, "NONE", "")))
		}
	}
	return l
}

// outside are numbers below 0, and n and above it. Those that differ from a number within by a
// power of 2 would be within, if they were cut short.
func outside(n int) []int {
	return []int{math.MinInt, math.MinInt + 1, math.MinInt + 6, math.MinInt32, -1 << 32, -1<<32 + 6, -1<<32 + 80, -65536, -65535, -65456, -256, -250, -128, -80, -n, -7, -6, -2, -1, n, n + 1, 2 * n, 10 * n, n + 128, n + 256, n + 1<<16, n + math.MaxInt32, 1<<32 + n, 1<<62 + n, math.MaxInt - 1, math.MaxInt}
}

// wrongWidths are all of outside, and 0.
func wrongWidths() []int {
	return append(outside(65536), 0, 65616, 131072, 131152, 1<<32, 1<<32+1, 1<<32+80, 1<<62+80)
}

// oddMarks are those that there are not, among them each one that there is, with more ahead.
func oddMarks() []int {
	l := outside(10)
	for mark := range 10 {
		l = append(l, mark+10, mark+16, mark+128, mark+256, mark+1<<16, mark+1<<32, mark-10, mark-16, mark-256, mark-1<<16, mark-1<<32, mark+math.MinInt)
	}
	return l
}

// oddTexts are of bytes of which none begins a source character, so that each one is a column.
func oddTexts() []string {
	return []string{"\x00", "\x08", "\x0b", "\x1f", "\x80", "\xbf", "\xc0", "\xc3", "\xe9", "\xff", "\xfe\xff", "\xc0\x80", "\xc1\xbf", "\xc3\xc3", "\xe0\x80\x80", "\xe0\x9f\xbf", "\xe2\x82", "\xed\xa0\x80", "\xed\xbf\xbf", "\xef\xbf", "\xf0\x80\x80\x80", "\xf0\x8f\xbf\xbf", "\xf0\x9f\x98", "\xf4\x90\x80\x80", "\xf5\x80\x80\x80", "\xf8\x88\x80\x80\x80", "\x00\x00\x00"}
}

// brief is the beginning of some bits, in words.
func brief(l []api.Bit) string {
	var all []string
	for _, b := range l[:min(len(l), 40)] {
		switch words := strings.Fields(markWords); {
		case b.Mark == 0:
			all = append(all, strconv.Quote(b.Text[:min(len(b.Text), 20)]))
		case b.Mark > 0 && b.Mark < 10:
			all = append(all, words[b.Mark-1])
		default:
			all = append(all, strconv.Itoa(b.Mark))
		}
	}
	return strings.Join(all, " ")
}

// isLaid asks for what is printed of l at w, which there is room for.
func isLaid(t *testing.T, l []api.Bit, w int, want string) {
	t.Helper()
	kept := slices.Clone(l)
	if got, is := Lay(l, w); !is || got != want {
		t.Errorf("Lay(%s, %d) = %.300q, %v, not %.300q", brief(l), w, got, is, want)
	}
	if !Room(l, w) {
		t.Errorf("no room for %s at %d", brief(l), w)
	}
	if !slices.Equal(l, kept) {
		t.Errorf("%s was made %s", brief(kept), brief(l))
	}
}

// isCols asks for the columns ahead of each bit of l at w, and behind all, and at places that
// are none.
func isCols(t *testing.T, l []api.Bit, w int, want ...int) {
	t.Helper()
	kept := slices.Clone(l)
	if len(want) != len(l)+1 {
		t.Fatalf("%s has %d bits, %d columns are wanted", brief(l), len(l), len(want))
	}
	for k, n := range want {
		if got := Col(l, w, k); got != n {
			t.Errorf("Col(%s, %d, %d) = %d, not %d", brief(l), w, k, got, n)
		}
	}
	for _, k := range outside(len(l) + 1) {
		if got := Col(l, w, k); got != -1 {
			t.Errorf("Col(%s, %d, %d) = %d", brief(l), w, k, got)
		}
	}
	if !slices.Equal(l, kept) {
		t.Errorf("%s was made %s", brief(kept), brief(l))
	}
}

// isNoRoom asks of l at w that there is no room, and nothing is told.
func isNoRoom(t *testing.T, l []api.Bit, w int) {
	t.Helper()
	kept := slices.Clone(l)
	if Room(l, w) {
		t.Errorf("room for %s at %d", brief(l), w)
	}
	if got, is := Lay(l, w); is || got != "" {
		t.Errorf("Lay(%s, %d) = %.300q, %v", brief(l), w, got, is)
	}
	for _, k := range append(outside(len(l)+1), 0, 1, len(l)/2, len(l)-1, len(l)) {
		if got := Col(l, w, k); got != -1 {
			t.Errorf("Col(%s, %d, %d) = %d", brief(l), w, k, got)
		}
	}
	if !slices.Equal(l, kept) {
		t.Errorf("%s was made %s", brief(kept), brief(l))
	}
}

// example is that of the chapter.
func example() []api.Bit { return wordBits("OPEN ( IN SOFT a COMMA b OUT SOFT ) CLOSE") }

func TestExample(t *testing.T) {
	isLaid(t, example(), 6, "(a, b)")
	isLaid(t, example(), 5, "(\n  a\n  b\n)")
	isLaid(t, example(), 80, "(a, b)")
	isLaid(t, example(), 1, "(\n  a\n  b\n)")
	isCols(t, example(), 6, 0, 0, 1, 1, 1, 2, 4, 5, 5, 5, 6, 6)
	isCols(t, example(), 5, 0, 0, 1, 1, 2, 3, 2, 3, 3, 0, 1, 1)
}

func TestP18_1Room(t *testing.T) {
	for _, l := range [][]api.Bit{nil, {}, example(), wordBits("a HARD b"), {text("")}, {text(strings.Repeat("a", 70000))}} {
		for _, w := range []int{1, 2, 6, 79, 80, 81, 255, 256, 257, 32767, 32768, 65534, 65535} {
			if _, is := Lay(l, w); !is || !Room(l, w) {
				t.Errorf("no room for %s at %d", brief(l), w)
			}
			if Col(l, w, 0) != 0 || Col(l, w, len(l)) < 0 {
				t.Errorf("no columns of %s at %d", brief(l), w)
			}
		}
		for _, w := range wrongWidths() {
			isNoRoom(t, l, w)
		}
	}
}

func TestP18_1NoBits(t *testing.T) {
	for _, w := range []int{1, 80, 65535} {
		isLaid(t, nil, w, "")
		isLaid(t, []api.Bit{}, w, "")
		isCols(t, nil, w, 0)
		isCols(t, []api.Bit{}, w, 0)
	}
}

// notMay are bits that may not be printed.
func notMay() [][]api.Bit {
	all := [][]api.Bit{make([]api.Bit, 4001), slices.Repeat(wordBits("a"), 4001), slices.Repeat(wordBits("OPEN CLOSE"), 2001), slices.Repeat(wordBits("a LINE"), 50000)}
	for _, words := range []string{"OPEN", "CLOSE", "IN", "OUT", "OPEN OPEN CLOSE", "OPEN CLOSE CLOSE", "CLOSE OPEN", "OUT IN", "OPEN IN", "OPEN OUT", "IN CLOSE", "IN IN OUT", "IN OUT OUT", "OPEN a OUT CLOSE IN", "IN CLOSE OUT OPEN", "OPEN a CLOSE CLOSE b OPEN", "ODD", "a ODD b", "OPEN ODD CLOSE", "HARD OUT", "OPEN ( IN SOFT a COMMA b SOFT ) CLOSE", "OPEN ( IN SOFT a COMMA b OUT SOFT )"} {
		all = append(all, wordBits(words))
	}
	for mark := 1; mark < 10; mark++ {
		for _, s := range append(oddTexts(), "a", " ", "\n") {
			b := api.Bit{Mark: mark, Text: s}
			all = append(all, []api.Bit{b}, []api.Bit{text("a"), b, text("b")}, []api.Bit{of(6), of(8), b, of(9), of(7)})
		}
	}
	for _, mark := range oddMarks() {
		all = append(all, []api.Bit{of(mark)}, []api.Bit{text("a"), of(mark)}, []api.Bit{of(6), of(mark), of(7)}, []api.Bit{{Mark: mark, Text: "a"}}, []api.Bit{of(mark), of(7)}, []api.Bit{of(6), of(mark)}, []api.Bit{of(mark), of(9)}, []api.Bit{of(8), of(mark)})
	}
	return all
}

func TestP18_1MayNot(t *testing.T) {
	for _, l := range notMay() {
		for _, w := range []int{math.MinInt, -80, -1, 0, 1, 2, 6, 80, 65535, 65536, math.MaxInt} {
			isNoRoom(t, l, w)
		}
	}
}

// At most 4000 bits may be printed.
func TestP18_1MaxBits(t *testing.T) {
	isLaid(t, slices.Repeat(wordBits("a"), 4000), 80, strings.Repeat("a", 4000))
	isLaid(t, make([]api.Bit, 4000), 1, "")
	isLaid(t, slices.Repeat(wordBits("a LINE"), 2000), 80, strings.Repeat("a\n", 2000))
	isLaid(t, slices.Repeat(wordBits("OPEN CLOSE"), 2000), 1, "")
	isNoRoom(t, slices.Repeat(wordBits("a"), 4001), 80)
	isNoRoom(t, make([]api.Bit, 4001), 1)
	isNoRoom(t, append(slices.Repeat(wordBits("OPEN CLOSE"), 2000), text("a")), 80)
}

// each one is what is printed of words at a width.
type each struct {
	words string
	w     int
	want  string
}

func areLaid(t *testing.T, all []each) {
	t.Helper()
	for _, x := range all {
		isLaid(t, wordBits(x.words), x.w, x.want)
	}
}

// What is in no group is never flat.
func TestP18_1NoGroup(t *testing.T) {
	areLaid(t, []each{
		{"a", 1, "a"},
		{"abc", 1, "abc"},
		{"abc", 65535, "abc"},
		{"NONE", 80, ""},
		{"SP", 80, " "},
		{"SP SP", 1, "  "},
		{"LINE", 80, "\n"},
		{"SOFT", 80, "\n"},
		{"COMMA", 80, "\n"},
		{"HARD", 80, "\n"},
		{"IN OUT", 80, ""},
		{"OPEN CLOSE", 80, ""},
		{"a b", 80, "ab"},
		{"a SP b", 80, "a b"},
		{"a LINE b", 80, "a\nb"},
		{"a SOFT b", 80, "a\nb"},
		{"a COMMA b", 80, "a\nb"},
		{"a HARD b", 80, "a\nb"},
		{"a LINE LINE b", 80, "a\n\nb"},
		{"a LINE b SOFT c COMMA d HARD e", 65535, "a\nb\nc\nd\ne"},
		{"a LINE b SOFT c COMMA d HARD e", 1, "a\nb\nc\nd\ne"},
		{"SP a SP SP b SP", 1, " a  b "},
		{"HARD a HARD", 80, "\na\n"},
	})
}

// A group whose need, and the column, are as much as the width, and one more.
func TestP18_1Fits(t *testing.T) {
	for _, x := range []struct {
		words string
		fits  int
		flat  string
		not   string
	}{
		{"OPEN a LINE b CLOSE", 3, "a b", "a\nb"},
		{"OPEN a SOFT b CLOSE", 2, "ab", "a\nb"},
		{"OPEN a COMMA b CLOSE", 4, "a, b", "a\nb"},
		{"OPEN a SP b LINE c CLOSE", 5, "a b c", "a b\nc"},
		{"OPEN LINE CLOSE", 1, " ", "\n"},
		{"OPEN COMMA CLOSE", 2, ", ", "\n"},
		{"OPEN aaaa SOFT bbbb CLOSE", 8, "aaaabbbb", "aaaa\nbbbb"},
		{"xx OPEN a LINE b CLOSE", 5, "xxa b", "xxa\nb"},
		{"xx SP OPEN a LINE b CLOSE", 6, "xx a b", "xx a\nb"},
		{"OPEN a LINE b CLOSE yy", 5, "a byy", "a\nbyy"},
		{"OPEN a LINE b CLOSE SP yy", 6, "a b yy", "a\nb yy"},
		{"OPEN a LINE b CLOSE SP", 4, "a b ", "a\nb "},
		{"OPEN a LINE b CLOSE yy HARD zzz", 5, "a byy\nzzz", "a\nbyy\nzzz"},
		{"OPEN a LINE b CLOSE yy LINE zzz", 5, "a byy\nzzz", "a\nbyy\nzzz"},
		{"OPEN a LINE b CLOSE yy SOFT zzz", 5, "a byy\nzzz", "a\nbyy\nzzz"},
		{"OPEN a LINE b CLOSE yy COMMA zzz", 5, "a byy\nzzz", "a\nbyy\nzzz"},
		{"OPEN a LINE b CLOSE LINE zzz", 3, "a b\nzzz", "a\nb\nzzz"},
		{"xx HARD OPEN a LINE b CLOSE", 3, "xx\na b", "xx\na\nb"},
		{"IN HARD OPEN a LINE b CLOSE OUT", 5, "\n  a b", "\n  a\n  b"},
		{"IN HARD xx OPEN a LINE b CLOSE OUT", 7, "\n  xxa b", "\n  xxa\n  b"},
		{"OPEN IN a OUT LINE b CLOSE", 3, "a b", "a\nb"},
		{"OPEN IN a LINE b OUT CLOSE", 3, "a b", "a\n  b"},
		{"OPEN a IN LINE b LINE c OUT LINE d CLOSE", 7, "a b c d", "a\n  b\n  c\nd"},
		{"OPEN NONE LINE NONE CLOSE", 1, " ", "\n"},
	} {
		for _, w := range []int{x.fits, x.fits + 1, 80, 65535} {
			isLaid(t, wordBits(x.words), w, x.flat)
		}
		for w := range x.fits {
			if w > 0 {
				isLaid(t, wordBits(x.words), w, x.not)
			}
		}
	}
}

// At the greatest width, too, it is told by one column.
func TestP18_1GreatWidth(t *testing.T) {
	for n, want := range map[int]string{65533: " ", 65534: "\n", 65535: "\n", 65536: "\n", 131072: "\n", 200000: "\n", 300000: "\n", 65532: " "} {
		for _, s := range []string{"b", "\u20ac", "\U0001f600", "\xff"} {
			long := strings.Repeat(s, n)
			isLaid(t, []api.Bit{of(6), text("a"), of(2), text(long), of(7)}, 65535, "a"+want+long)
			isLaid(t, []api.Bit{of(6), text("a"), of(2), of(7), text(long)}, 65535, "a"+want+long)
			isLaid(t, []api.Bit{text(long), of(6), text("a"), of(2), of(7)}, 65535, long+"a"+want)
		}
	}
}

// A group that has no need is never flat; one within it may be.
func TestP18_1NoNeed(t *testing.T) {
	areLaid(t, []each{
		{"OPEN HARD CLOSE", 80, "\n"},
		{"OPEN a HARD b LINE c CLOSE", 80, "a\nb\nc"},
		{"OPEN a LINE b HARD c CLOSE", 80, "a\nb\nc"},
		{"OPEN a SOFT b HARD c COMMA d CLOSE", 65535, "a\nb\nc\nd"},
		{"OPEN a LINE OPEN b LINE c CLOSE HARD d CLOSE", 80, "a\nb c\nd"},
		{"OPEN a LINE OPEN b HARD c CLOSE LINE d CLOSE", 80, "a\nb\nc\nd"},
		{"OPEN OPEN a LINE b CLOSE HARD OPEN c COMMA d CLOSE CLOSE", 80, "a b\nc, d"},
		{"OPEN OPEN OPEN HARD CLOSE LINE CLOSE LINE CLOSE", 80, "\n\n\n"},
		{"OPEN IN HARD OPEN a LINE b CLOSE OUT HARD c CLOSE", 80, "\n  a b\nc"},
		{"OPEN a LINE b CLOSE HARD OPEN c LINE d CLOSE", 80, "a b\nc d"},
		{"HARD OPEN a LINE b CLOSE", 80, "\na b"},
	})
}

// A group within a flat one is flat with it, whatever stands ahead; one within a group that is
// not flat is so, if it fits; the match of one within does not end it.
func TestP18_1Within(t *testing.T) {
	areLaid(t, []each{
		{"OPEN a LINE OPEN b LINE c CLOSE LINE d CLOSE", 7, "a b c d"},
		{"OPEN a LINE OPEN b LINE c CLOSE LINE d CLOSE", 6, "a\nb c\nd"},
		{"OPEN a LINE OPEN b LINE c CLOSE LINE d CLOSE", 3, "a\nb c\nd"},
		{"OPEN a LINE OPEN b LINE c CLOSE LINE d CLOSE", 2, "a\nb\nc\nd"},
		{"OPEN OPEN a CLOSE LINE b CLOSE LINE c", 80, "a b\nc"},
		{"OPEN OPEN OPEN a CLOSE LINE b CLOSE LINE c CLOSE LINE d", 80, "a b c\nd"},
		{"OPEN OPEN a CLOSE OPEN b CLOSE LINE c CLOSE LINE d", 80, "ab c\nd"},
		{"OPEN OPEN a CLOSE LINE b CLOSE OPEN c LINE d CLOSE SOFT e", 80, "a bc d\ne"},
		{"OPEN a CLOSE LINE b OPEN c CLOSE", 80, "a\nbc"},
		{"OPEN a LINE OPEN bbb LINE c CLOSE CLOSE", 6, "a\nbbb c"},
		{"OPEN a LINE OPEN bbb LINE c CLOSE CLOSE", 7, "a bbb c"},
		{"OPEN aaaaaa LINE OPEN b LINE c CLOSE OPEN d LINE e CLOSE CLOSE", 8, "aaaaaa\nb cd e"},
		{"OPEN aaaaaa LINE OPEN b LINE c CLOSE OPEN d LINE e CLOSE CLOSE", 6, "aaaaaa\nb cd e"},
		{"OPEN aaaaaa LINE OPEN b LINE c CLOSE OPEN d LINE e CLOSE CLOSE", 5, "aaaaaa\nb cd\ne"},
		{"OPEN aaaaaa LINE OPEN b LINE c CLOSE OPEN d LINE e CLOSE CLOSE", 3, "aaaaaa\nb\ncd\ne"},
		{"OPEN [ IN LINE OPEN x LINE y CLOSE OUT LINE ] CLOSE", 7, "[ x y ]"},
		{"OPEN [ IN LINE OPEN x LINE y CLOSE OUT LINE ] CLOSE", 6, "[\n  x y\n]"},
		{"OPEN [ IN LINE OPEN x LINE y CLOSE OUT LINE ] CLOSE", 4, "[\n  x\n  y\n]"},
		{"OPEN [ IN SOFT OPEN x IN COMMA y OUT CLOSE OUT SOFT ] CLOSE z", 7, "[x, y]z"},
		{"OPEN [ IN SOFT OPEN x IN COMMA y OUT CLOSE OUT SOFT ] CLOSE z", 6, "[\n  x, y\n]z"},
		{"OPEN [ IN SOFT OPEN x IN COMMA y OUT CLOSE OUT SOFT ] CLOSE z", 5, "[\n  x\n    y\n]z"},
	})
}

// What stands behind a group, up to a bit that breaks, fits with it or is not on its line.
func TestP18_1Behind(t *testing.T) {
	areLaid(t, []each{
		{"OPEN a LINE b CLOSE OPEN cc CLOSE LINE d", 5, "a bcc\nd"},
		{"OPEN a LINE b CLOSE OPEN cc CLOSE LINE d", 4, "a\nbcc\nd"},
		{"OPEN a LINE b CLOSE OPEN cc LINE dd CLOSE LINE e", 5, "a bcc\ndd\ne"},
		{"OPEN a LINE b CLOSE OPEN cc LINE dd CLOSE LINE e", 8, "a bcc dd\ne"},
		{"OPEN a LINE b CLOSE OPEN cc LINE dd CLOSE LINE e", 4, "a\nbcc\ndd\ne"},
		{"OPEN OPEN a LINE b CLOSE cc LINE d CLOSE", 6, "a bcc\nd"},
		{"OPEN OPEN a LINE b CLOSE cc LINE d CLOSE", 7, "a bcc d"},
		{"OPEN OPEN a LINE b CLOSE cc LINE d CLOSE", 5, "a bcc\nd"},
		{"OPEN OPEN a LINE b CLOSE cc LINE d CLOSE", 4, "a\nbcc\nd"},
		{"OPEN a LINE b CLOSE IN SP cc OUT HARD d", 6, "a b cc\nd"},
		{"OPEN a LINE b CLOSE IN SP cc OUT HARD d", 5, "a\nb cc\nd"},
	})
}

// The indent is that at the new line: what goes in or out behind it changes the next one alone,
// flat or not.
func TestP18_1Indent(t *testing.T) {
	areLaid(t, []each{
		{"IN a OUT", 80, "a"},
		{"IN HARD a OUT", 80, "\n  a"},
		{"HARD IN a OUT", 80, "\na"},
		{"HARD IN a HARD OUT b", 80, "\na\n  b"},
		{"HARD IN a OUT HARD b", 80, "\na\nb"},
		{"IN IN HARD a OUT HARD b OUT HARD c", 80, "\n    a\n  b\nc"},
		{"IN LINE a SOFT b COMMA c HARD d OUT", 1, "\n  a\n  b\n  c\n  d"},
		{"IN OUT HARD a", 80, "\na"},
		{"OPEN IN a LINE b CLOSE HARD c OUT HARD d", 80, "a b\n  c\nd"},
		{"OPEN IN IN IN a LINE b CLOSE HARD c OUT HARD d OUT HARD e OUT HARD f", 80, "a b\n      c\n    d\n  e\nf"},
		{"IN IN OPEN a OUT LINE b OUT CLOSE HARD c", 80, "a b\nc"},
		{"IN IN OPEN a OUT LINE b OUT CLOSE HARD c", 1, "a\n  b\nc"},
		{"IN OPEN HARD OUT a IN HARD OUT b CLOSE", 80, "\n  a\n  b"},
	})
}

// An empty text puts nothing, neither do blanks that are due at the end, or ahead of another
// new line; a blank is put where blanks are due, behind these.
func TestP18_1Due(t *testing.T) {
	areLaid(t, []each{
		{"IN HARD NONE OUT", 80, "\n"},
		{"IN HARD OUT", 80, "\n"},
		{"IN HARD NONE HARD a OUT", 80, "\n\n  a"},
		{"IN HARD NONE a OUT", 80, "\n  a"},
		{"IN HARD NONE NONE a NONE b OUT", 80, "\n  ab"},
		{"IN HARD HARD HARD a OUT", 80, "\n\n\n  a"},
		{"IN HARD OUT HARD a", 80, "\n\na"},
		{"IN HARD IN HARD OUT OUT a", 80, "\n\n    a"},
		{"IN HARD SP OUT", 80, "\n   "},
		{"IN HARD SP a OUT", 80, "\n   a"},
		{"IN HARD SP SP a OUT", 80, "\n    a"},
		{"IN HARD SP HARD a OUT", 80, "\n   \n  a"},
		{"IN HARD OPEN LINE a CLOSE OUT", 80, "\n   a"},
		{"IN HARD OPEN SOFT a CLOSE OUT", 80, "\n  a"},
		{"IN HARD OPEN COMMA a CLOSE OUT", 80, "\n  , a"},
		{"IN HARD OPEN SOFT NONE CLOSE OUT HARD b", 80, "\n\nb"},
		{"IN HARD a b OUT", 80, "\n  ab"},
		{"NONE a NONE", 80, "a"},
		{"a IN HARD OUT", 80, "a\n"},
	})
}

// Texts with blanks and ends of lines in them are put as they are, and counted as columns.
func TestP18_1Texts(t *testing.T) {
	for _, s := range []string{" ", "\n", "  \n  ", "a\nb", "\r\n", "\t", ", ", "\x7f"} {
		n := len(s)
		l := []api.Bit{of(8), of(5), text(s), of(6), of(2), text("b"), of(7), of(9)}
		isLaid(t, l, n+4, "\n  "+s+" b")
		isLaid(t, l, n+3, "\n  "+s+"\n  b")
		isCols(t, l, n+4, 0, 0, 2, 2+n, 2+n, 3+n, 4+n, 4+n, 4+n)
	}
}

// Characters of one, two, three and four bytes are a column each, as is each byte of none.
func TestP18_1Characters(t *testing.T) {
	for _, s := range []string{"a", "é", "\u20ac", "\U0001f600", "\u0080", "\u07ff", "\ufffd", "\U0010ffff"} {
		isOneColumn(t, s, 1)
	}
	for _, s := range oddTexts() {
		isOneColumn(t, s, len(s))
	}
	for b := range 256 {
		isOneColumn(t, string([]byte{byte(b)}), 1)
	}
}

// isOneColumn asks how a text of n columns is printed, ahead of a group, in it, and behind it.
func isOneColumn(t *testing.T, s string, n int) {
	t.Helper()
	ahead := []api.Bit{text(s), of(6), text("x"), of(2), text("y"), of(7)}
	isLaid(t, ahead, n+3, s+"x y")
	isCols(t, ahead, n+3, 0, n, n, n+1, n+2, n+3, n+3)
	isLaid(t, ahead, n+2, s+"x\ny")
	isCols(t, ahead, n+2, 0, n, n, n+1, 0, 1, 1)
	within := []api.Bit{of(6), text("x"), of(4), text(s), of(3), text(s), of(7)}
	isLaid(t, within, 2*n+3, "x, "+s+s)
	isCols(t, within, 2*n+3, 0, 0, 1, 3, n+3, n+3, 2*n+3, 2*n+3)
	isLaid(t, within, 2*n+2, "x\n"+s+"\n"+s)
	isCols(t, within, 2*n+2, 0, 0, 1, 0, n, 0, n, n)
	behind := []api.Bit{of(6), text("x"), of(3), of(7), text(s), of(1), text(s)}
	isLaid(t, behind, 2*n+2, "x"+s+" "+s)
	isLaid(t, behind, 2*n+1, "x\n"+s+" "+s)
	isCols(t, behind, 2*n+1, 0, 0, 1, 0, 0, n, n+1, 2*n+1)
	for times := 1; times < 10; times++ {
		alone := []api.Bit{of(6), of(3), text(strings.Repeat(s, times)), of(7)}
		isLaid(t, alone, n*times, strings.Repeat(s, times))
		if n*times > 1 {
			isLaid(t, alone, n*times-1, "\n"+strings.Repeat(s, times))
		}
	}
}

func TestP18_2Col(t *testing.T) {
	isCols(t, wordBits("abc"), 80, 0, 3)
	isCols(t, wordBits("abc"), 1, 0, 3)
	isCols(t, wordBits("SP"), 80, 0, 1)
	isCols(t, wordBits("LINE"), 80, 0, 0)
	isCols(t, wordBits("a SP bb NONE c"), 80, 0, 1, 2, 4, 4, 5)
	isCols(t, wordBits("aa LINE bbb SOFT c COMMA dddd HARD e"), 80, 0, 2, 0, 3, 0, 1, 0, 4, 0, 1)
	isCols(t, wordBits("OPEN aa LINE bbb SOFT c COMMA dddd CLOSE"), 80, 0, 0, 2, 3, 6, 6, 7, 9, 13, 13)
	isCols(t, wordBits("IN aa HARD bb OUT HARD c"), 80, 0, 0, 2, 2, 4, 4, 0, 1)
	isCols(t, wordBits("IN IN HARD OUT OUT HARD c"), 80, 0, 0, 0, 4, 4, 4, 0, 1)
	isCols(t, wordBits("IN HARD NONE SP a OUT"), 80, 0, 0, 2, 2, 3, 4, 4)
	isCols(t, wordBits("IN HARD HARD OUT"), 80, 0, 0, 2, 2, 2)
	isCols(t, wordBits("OPEN a LINE OPEN b LINE c CLOSE LINE d CLOSE"), 7, 0, 0, 1, 2, 2, 3, 4, 5, 5, 6, 7, 7)
	isCols(t, wordBits("OPEN a LINE OPEN b LINE c CLOSE LINE d CLOSE"), 6, 0, 0, 1, 0, 0, 1, 2, 3, 3, 0, 1, 1)
	isCols(t, wordBits("OPEN a LINE OPEN b LINE c CLOSE LINE d CLOSE"), 2, 0, 0, 1, 0, 0, 1, 0, 1, 1, 0, 1, 1)
}

// The column is told of the whole list, what stands behind k with it.
func TestP18_2Behind(t *testing.T) {
	isCols(t, wordBits("OPEN a LINE b CLOSE cc"), 5, 0, 0, 1, 2, 3, 3, 5)
	isCols(t, wordBits("OPEN a LINE b CLOSE ccc"), 5, 0, 0, 1, 0, 1, 1, 4)
	isCols(t, wordBits("OPEN a LINE b HARD CLOSE"), 80, 0, 0, 1, 0, 1, 0, 0)
}

// needSaid is what the group at i needs, by the words of the chapter on spans.
func needSaid(l []api.Bit, i, match int) int {
	n := 0
	for k := i + 1; k < len(l); k++ {
		switch b := l[k]; {
		case k < match && b.Mark == 5:
			return -1
		case k > match && b.Mark >= 2 && b.Mark <= 5:
			return n
		default:
			n += columns(onLine(b))
		}
	}
	return n
}

// columns of a text that is of source characters alone.
func columns(s string) int { return len([]rune(s)) }

func onLine(b api.Bit) string {
	return []string{b.Text, " ", " ", "", ", ", "", "", "", "", ""}[b.Mark]
}

// matches are the places where groups end, by the places where they begin.
func matches(l []api.Bit) map[int]int {
	all, open := map[int]int{}, []int{}
	for i, b := range l {
		switch b.Mark {
		case 6:
			open = append(open, i)
		case 7:
			all[open[len(open)-1]] = i
			open = open[:len(open)-1]
		}
	}
	return all
}

// said is what is printed of bits: all of it, the column ahead of each, and behind, the lines
// that they stand on, and which ones are flat.
type said struct {
	told string
	cols []int
	line []int
	flat []bool
}

// laySaid is Lay by the chapter's words: each bit that is flat is known ahead, then lines are
// put together.
func laySaid(l []api.Bit, w int) said {
	all := said{line: make([]int, len(l)), flat: make([]bool, len(l))}
	ends := matches(l)
	lines, indent, column := []string{""}, 0, 0
	for i, b := range l {
		all.cols = append(all.cols, column)
		all.line[i] = len(lines) - 1
		if need := needSaid(l, i, ends[i]); b.Mark == 6 && !all.flat[i] && need >= 0 && column+need <= w {
			for k := i + 1; k < ends[i]; k++ {
				all.flat[k] = true
			}
		}
		if b.Mark == 8 {
			indent += 2
		}
		if b.Mark == 9 {
			indent -= 2
		}
		if b.Mark == 5 || !all.flat[i] && (b.Mark >= 2 && b.Mark <= 4) {
			lines, column = append(lines, ""), indent
			continue
		}
		if s := onLine(b); s != "" {
			last := &lines[len(lines)-1]
			for columns(*last) < column {
				*last += " "
			}
			*last += s
			column += columns(s)
		}
	}
	all.cols = append(all.cols, column)
	all.told = strings.Join(lines, "\n")
	return all
}

// may tells by the chapter's words whether bits of marks that there are may be printed.
func may(l []api.Bit) bool {
	groups, indents := 0, 0
	for _, b := range l {
		groups += map[int]int{6: 1, 7: -1}[b.Mark]
		indents += map[int]int{8: 1, 9: -1}[b.Mark]
		if groups < 0 || indents < 0 {
			return false
		}
	}
	return groups == 0 && indents == 0
}

// isSaid holds what is told of l at w against the chapter's words.
func isSaid(t *testing.T, l []api.Bit, w int) {
	t.Helper()
	if !may(l) {
		if s, is := Lay(l, w); is || s != "" || Room(l, w) || Col(l, w, 0) != -1 || Col(l, w, len(l)) != -1 {
			t.Errorf("%s at %d may be printed: %q, %v", brief(l), w, s, is)
		}
		return
	}
	want := laySaid(l, w)
	if s, is := Lay(l, w); !is || s != want.told || !Room(l, w) {
		t.Errorf("Lay(%s, %d) = %q, %v, not %q", brief(l), w, s, is, want.told)
	}
	for k, n := range want.cols {
		if got := Col(l, w, k); got != n {
			t.Errorf("Col(%s, %d, %d) = %d, not %d", brief(l), w, k, got, n)
		}
	}
}

// all calls f with all lists of at most n of some bits of which no beginning has one too many.
func all(n int, of []api.Bit, f func([]api.Bit)) {
	var longer func(l []api.Bit, groups, indents int)
	longer = func(l []api.Bit, groups, indents int) {
		f(l)
		if len(l) == n || groups < 0 || indents < 0 {
			return
		}
		for _, b := range of {
			longer(append(l, b), groups+map[int]int{6: 1, 7: -1}[b.Mark], indents+map[int]int{8: 1, 9: -1}[b.Mark])
		}
	}
	longer(nil, 0, 0)
}

// All short lists of each mark and texts, held against the words, at widths from one that is
// too narrow for all to one that none needs.
func TestAllShort(t *testing.T) {
	all(5, wordBits("bb SP LINE SOFT COMMA HARD OPEN CLOSE IN OUT"), func(l []api.Bit) {
		for _, w := range []int{1, 2, 3, 4, 5, 7} {
			isSaid(t, l, w)
		}
	})
	all(8, wordBits("\u20ac LINE OPEN CLOSE"), func(l []api.Bit) {
		if may(l) {
			for w := 1; w < 7; w++ {
				isSaid(t, l, w)
			}
		}
	})
	all(8, wordBits("b HARD IN OUT"), func(l []api.Bit) { isSaid(t, l, 3) })
}

func documents() []string {
	return []string{
		"{a}",
		"{a(b:1 c:-2.5e3)@d(e:[1 2[3]]){f}}",
		"{a(b:{c:[] d:{e:\"f g\"}} h:\"é\\u20ac\"){i(j:$k)l(m:[])}}",
		"mutation a($b:[c!]!=1@d $e:f)@g(h:$b){i}",
		"{...a@b(c:d)...on e{f(g:[h i])}}",
		"\"\"\"t\"\"\" type a implements&b&c@d(e:[[]]){\"e\"f(\"g\"h:i=2 j:k=[1 2]):l! m(n:o):[p]@q}",
		"input a{b:c={d:[] e:{}}\"e\"f:g} union h=|i|j enum k{l@m(n:1)o}",
	}
}

// bitsOf are the bits of a source.
func bitsOf(t *testing.T, src string) []api.Bit {
	t.Helper()
	l, e, at := lex.Lex(src)
	if e != api.OK {
		t.Fatalf("%q: error %d at %d", src, e, at)
	}
	rules, at := parse.Parse(kind.All(l))
	if at != -1 {
		t.Fatalf("%q fails at %d", src, at)
	}
	bits, is := mark.Bits(rules, l)
	if !is {
		t.Fatalf("%q has no bits", src)
	}
	return bits
}

// Bits as they are printed of sources, at each width up to one that all of them fit.
func TestDocuments(t *testing.T) {
	for _, src := range documents() {
		l := bitsOf(t, src)
		for w := 1; w < 100; w++ {
			isSaid(t, l, w)
			isFitting(t, l, w)
		}
		isSaid(t, l, 65535)
		for _, w := range wrongWidths() {
			isNoRoom(t, l, w)
		}
		for at := 1; at < len(l); at++ {
			isSaid(t, l[:at], 10)
			isSaid(t, l[at:], 10)
			isSaid(t, slices.Concat(l[at:], l[:at]), 10)
		}
	}
}

func TestDocumentsByHand(t *testing.T) {
	for _, x := range []struct {
		src  string
		w    int
		want string
	}{
		{"{a,b}", 80, "{\n  a\n  b\n}"},
		{"{a,b}", 1, "{\n  a\n  b\n}"},
		{"{f(a:1 b:[2])}", 80, "{\n  f(a: 1, b: [2])\n}"},
		{"{f(a:1 b:[2])}", 17, "{\n  f(a: 1, b: [2])\n}"},
		{"{f(a:1 b:[2])}", 16, "{\n  f(\n    a: 1\n    b: [2]\n  )\n}"},
		{"{f(a:1 b:[2])}", 12, "{\n  f(\n    a: 1\n    b: [2]\n  )\n}"},
	} {
		isLaid(t, bitsOf(t, x.src), x.w, x.want)
	}
}

// isFitting asks of what is printed of l at w: each group that has a need, and fits where it
// begins, is on one line, with what stands behind it up to where a line may break; and where a
// column is above w, none of the bits ahead on its line is one that breaks. It answers how many
// groups were on one line, and how many columns above w.
func isFitting(t *testing.T, l []api.Bit, w int) (int, int) {
	t.Helper()
	fit, above, line := 0, 0, 0
	want := laySaid(l, w)
	for k := range len(l) + 1 {
		column := Col(l, w, k)
		if k > 0 && want.line[k-1] != want.line[min(k, len(l)-1)] {
			line = k
		}
		if column > w && k > 0 {
			above++
			for i := line; i < k; i++ {
				if span.Breaks(l[i]) && (i != k-1 || want.flat[i]) {
					t.Errorf("%s at %d: the column ahead of %d is %d, behind a break at %d", brief(l), w, k, column, i)
				}
			}
		}
		if k == len(l) || l[k].Mark != api.MkOpen {
			continue
		}
		need := span.Need(l, k)
		if need == -1 || column+need > w {
			continue
		}
		fit++
		end := span.Match(l, k)
		for end < len(l) && !span.Breaks(l[end]) {
			end++
		}
		for i := k; i < end; i++ {
			if Col(l, w, i+1) < Col(l, w, i) || Col(l, w, i+1) > w {
				t.Errorf("%s at %d: the group at %d fits, and bit %d is from column %d to %d", brief(l), w, k, i, Col(l, w, i), Col(l, w, i+1))
			}
		}
		if Col(l, w, end) != column+need {
			t.Errorf("%s at %d: the group at %d fits, and ends at column %d, not %d", brief(l), w, k, Col(l, w, end), column+need)
		}
	}
	return fit, above
}

func TestP18_3Fits(t *testing.T) {
	fit, above := 0, 0
	hold := func(l []api.Bit) {
		if !may(l) {
			return
		}
		for w := 1; w < 7; w++ {
			more, wider := isFitting(t, l, w)
			fit, above = fit+more, above+wider
		}
	}
	all(5, wordBits("bb SP LINE SOFT COMMA HARD OPEN CLOSE IN OUT"), hold)
	all(8, wordBits("bb LINE OPEN CLOSE"), hold)
	if fit < 1000 || above < 1000 {
		t.Errorf("only %d groups that fit, and %d columns above the width", fit, above)
	}
}

// A column above the width is of what has nothing that could break on its line.
func TestP18_3Above(t *testing.T) {
	areLaid(t, []each{
		{"aaaa SP bbbb LINE c", 3, "aaaa bbbb\nc"},
		{"OPEN aaaa LINE bbbb SP cccc CLOSE d LINE e", 3, "aaaa\nbbbb ccccd\ne"},
		{"OPEN a LINE b CLOSE cccc LINE d", 6, "a\nbcccc\nd"},
		{"OPEN a LINE b CLOSE cccc LINE d", 7, "a bcccc\nd"},
		{"IN IN IN HARD OPEN a LINE b CLOSE OUT OUT OUT", 4, "\n      a\n      b"},
		{"IN IN IN HARD OPEN SOFT CLOSE OUT OUT OUT", 5, "\n\n"},
		{"IN IN IN HARD OPEN SOFT CLOSE OUT OUT OUT", 6, "\n"},
	})
}

// Many groups, within each other and one behind the other, and many lines.
func TestLong(t *testing.T) {
	side := slices.Repeat(wordBits("OPEN a LINE b CLOSE HARD"), 666)
	isLaid(t, side, 3, strings.Repeat("a b\n", 666))
	isLaid(t, side, 2, strings.Repeat("a\nb\n", 666))
	deep := slices.Concat(slices.Repeat(wordBits("OPEN"), 1999), wordBits("a LINE"), slices.Repeat(wordBits("CLOSE"), 1999))
	isLaid(t, deep, 2, "a ")
	isLaid(t, deep, 1, "a\n")
	const n = 571
	nested := slices.Concat(slices.Repeat(wordBits("OPEN ( IN SOFT"), n), wordBits("a"), slices.Repeat(wordBits("OUT ) CLOSE"), n))
	isLaid(t, nested, 65535, strings.Repeat("(", n)+"a"+strings.Repeat(")", n))
	isLaid(t, nested, 2*n+1, strings.Repeat("(", n)+"a"+strings.Repeat(")", n))
	var told strings.Builder
	for i := range n {
		told.WriteString("(\n" + strings.Repeat(" ", 2*i+2))
	}
	isLaid(t, nested, 1, told.String()+"a"+strings.Repeat(")", n))
	isLaid(t, slices.Repeat(wordBits("OPEN a COMMA b CLOSE"), 800), 4, strings.Repeat("a\nb", 800))
	in := slices.Concat(slices.Repeat(wordBits("IN HARD"), 1333), wordBits("x"), slices.Repeat(wordBits("OUT"), 1333))
	isLaid(t, in, 1, strings.Repeat("\n", 1333)+strings.Repeat(" ", 2666)+"x")
}

// Long texts deep within groups are not gone through for each of these.
func TestLongTexts(t *testing.T) {
	for _, s := range []string{"a", "\u20ac", "\U0001f600", "\xff"} {
		long := strings.Repeat(s, 2000000)
		deep := slices.Concat(slices.Repeat(wordBits("OPEN"), 1998), []api.Bit{text("b"), of(2), text(long), of(3)}, slices.Repeat(wordBits("CLOSE"), 1998))
		isLaid(t, deep, 80, "b\n"+long+"\n")
	}
	many := slices.Repeat([]api.Bit{text(strings.Repeat("ab", 5000)), of(1)}, 1000)
	isLaid(t, many, 80, strings.Repeat(strings.Repeat("ab", 5000)+" ", 1000))
}

// A list that is a part of a greater one is read as it is, not beyond, and nothing is changed.
func TestPart(t *testing.T) {
	whole := wordBits("OPEN OPEN a LINE bb CLOSE ccc CLOSE IN dd SOFT OUT e OPEN f COMMA g CLOSE HARD")
	kept := slices.Clone(whole)
	for from := range len(whole) + 1 {
		for to := from; to <= len(whole); to++ {
			part := whole[from:to]
			for w := 1; w < 12; w++ {
				if may(part) {
					isFitting(t, part, w)
				}
				isSaid(t, part, w)
			}
			if s, _ := Lay(part, 4); s != "" {
				again, _ := Lay(slices.Clone(part), 4)
				if s != again {
					t.Errorf("%s, a part: %q, not %q", brief(part), s, again)
				}
			}
		}
	}
	if !slices.Equal(whole, kept) {
		t.Errorf("%s was made %s", brief(kept), brief(whole))
	}
	isLaid(t, whole[:8], 7, "a bbccc")
	isNoRoom(t, whole[:7], 7)
}

// asked is all that the calls answer of some bits, as one text.
func asked(l []api.Bit) string {
	var told []string
	for _, w := range []int{-1, 0, 1, 5, 10, 20, 80, 65535, 65536} {
		s, is := Lay(l, w)
		told = append(told, s, strconv.FormatBool(is), strconv.FormatBool(Room(l, w)))
		for k := -1; k <= len(l)+1; k++ {
			told = append(told, strconv.Itoa(Col(l, w, k)))
		}
	}
	return strings.Join(told, " ")
}

func TestSameEachTime(t *testing.T) {
	first := map[string]string{}
	for range 10 {
		for _, src := range documents() {
			got := asked(bitsOf(t, src))
			if first[src] == "" {
				first[src] = got
			}
			if got != first[src] {
				t.Errorf("%q: %s, then %s", src, first[src], got)
			}
		}
	}
}

func TestAtOnce(t *testing.T) {
	l := wordBits("OPEN a LINE OPEN bb COMMA c CLOSE HARD CLOSE IN dd SP OPEN e OUT SOFT CLOSE")
	want := asked(l)
	var all sync.WaitGroup
	for range 16 {
		all.Go(func() {
			for range 20 {
				if got := asked(l); got != want {
					t.Errorf("%s, not %s", got, want)
				}
			}
		})
	}
	all.Wait()
}
