package flow

import (
	"math"
	"slices"
	"strconv"
	"strings"
	"sync"
	"testing"

	"copperplate/api"
	"copperplate/kind"
	"copperplate/lex"
	"copperplate/mark"
	"copperplate/parse"
	"copperplate/span"
	"copperplate/wide"
)

// Words of the marks, from number 1 on. ODD is a mark that there is not.
const markWords = "SP LINE SOFT COMMA HARD OPEN CLOSE IN OUT ODD"

func text(s string) api.Bit { return api.Bit{Mark: 0, Text: s} }

func of(mark int) api.Bit { return api.Bit{Mark: mark} }

// wordBits are those of words: of a word that is none of a mark it is the text, NONE the empty
// one.
func wordBits(words string) []api.Bit {
	var l []api.Bit
	for word := range strings.FieldsSeq(words) {
		if n := slices.Index(strings.Fields(markWords), word); n >= 0 {
			l = append(l, of(n+1))
		} else {
			l = append(l, text(strings.ReplaceAll(word, "NONE", "")))
		}
	}
	return l
}

// outside are numbers below 0, and n and above it. Those that differ from a number within by a
// power of 2 would be within, if they were cut short.
func outside(n int) []int {
	return []int{math.MinInt, math.MinInt + 1, math.MinInt + 6, math.MinInt32, -1 << 32, -1<<32 + 6, -1<<32 + 80, -65536, -65535, -65456, -256, -250, -128, -80, -n, -7, -6, -2, -1, n, n + 1, 2 * n, 10 * n, n + 128, n + 256, n + 1<<16, n + math.MaxInt32, 1<<32 + n, 1<<62 + n, math.MaxInt - 1, math.MaxInt}
}

// wrongWidths are all of outside, and 0.
func wrongWidths() []int {
	return append(outside(65536), 0, 65616, 131072, 131152, 1<<32, 1<<32+1, 1<<32+80, 1<<62+80)
}

// oddMarks are those that there are not, among them each one that there is, with more ahead.
func oddMarks() []int {
	l := outside(10)
	for mark := range 10 {
		l = append(l, mark+10, mark+16, mark+128, mark+256, mark+1<<16, mark+1<<32, mark-10, mark-16, mark-256, mark-1<<16, mark-1<<32, mark+math.MinInt)
	}
	return l
}

// oddTexts are of bytes of which none begins a source character, so that each one is a column.
func oddTexts() []string {
	return []string{"\x00", "\x08", "\x0b", "\x1f", "\x80", "\xbf", "\xc0", "\xc3", "\xe9", "\xff", "\xfe\xff", "\xc0\x80", "\xc1\xbf", "\xc3\xc3", "\xe0\x80\x80", "\xe0\x9f\xbf", "\xe2\x82", "\xed\xa0\x80", "\xed\xbf\xbf", "\xef\xbf", "\xf0\x80\x80\x80", "\xf0\x8f\xbf\xbf", "\xf0\x9f\x98", "\xf4\x90\x80\x80", "\xf5\x80\x80\x80", "\xf8\x88\x80\x80\x80", "\x00\x00\x00"}
}

// brief is the beginning of some bits, in words.
func brief(l []api.Bit) string {
	var all []string
	for _, b := range l[:min(len(l), 40)] {
		switch words := strings.Fields(markWords); {
		case b.Mark == 0:
			all = append(all, strconv.Quote(b.Text[:min(len(b.Text), 20)]))
		case b.Mark > 0 && b.Mark < 10:
			all = append(all, words[b.Mark-1])
		default:
			all = append(all, strconv.Itoa(b.Mark))
		}
	}
	return strings.Join(all, " ")
}

// example is that of the chapter.
func example() []api.Bit { return wordBits("OPEN ( IN SOFT a COMMA b OUT SOFT ) CLOSE") }

// notMay are bits that may not be printed.
func notMay() [][]api.Bit {
	all := [][]api.Bit{make([]api.Bit, 4001), slices.Repeat(wordBits("a"), 4001), slices.Repeat(wordBits("OPEN CLOSE"), 2001), slices.Repeat(wordBits("a LINE"), 50000)}
	for _, words := range []string{"OPEN", "CLOSE", "IN", "OUT", "OPEN OPEN CLOSE", "OPEN CLOSE CLOSE", "CLOSE OPEN", "OUT IN", "OPEN IN", "OPEN OUT", "IN CLOSE", "IN IN OUT", "IN OUT OUT", "OPEN a OUT CLOSE IN", "IN CLOSE OUT OPEN", "OPEN a CLOSE CLOSE b OPEN", "ODD", "a ODD b", "OPEN ODD CLOSE", "HARD OUT", "OPEN ( IN SOFT a COMMA b SOFT ) CLOSE", "OPEN ( IN SOFT a COMMA b OUT SOFT )"} {
		all = append(all, wordBits(words))
	}
	for mark := 1; mark < 10; mark++ {
		for _, s := range append(oddTexts(), "a", " ", "\n") {
			b := api.Bit{Mark: mark, Text: s}
			all = append(all, []api.Bit{b}, []api.Bit{text("a"), b, text("b")}, []api.Bit{of(6), of(8), b, of(9), of(7)})
		}
	}
	for _, mark := range oddMarks() {
		all = append(all, []api.Bit{of(mark)}, []api.Bit{text("a"), of(mark)}, []api.Bit{of(6), of(mark), of(7)}, []api.Bit{{Mark: mark, Text: "a"}}, []api.Bit{of(mark), of(7)}, []api.Bit{of(6), of(mark)}, []api.Bit{of(mark), of(9)}, []api.Bit{of(8), of(mark)})
	}
	return all
}

// colsSaid are those of a text that is of source characters alone.
func colsSaid(s string) int { return len([]rune(s)) }

func onLine(b api.Bit) string {
	return []string{b.Text, " ", " ", "", ", ", "", "", "", "", ""}[b.Mark]
}

// matchesSaid are the places where groups end, by the places where they begin.
func matchesSaid(l []api.Bit) map[int]int {
	all, open := map[int]int{}, []int{}
	for i, b := range l {
		switch b.Mark {
		case 6:
			open = append(open, i)
		case 7:
			all[open[len(open)-1]] = i
			open = open[:len(open)-1]
		}
	}
	return all
}

// mayBe tells whether bits of marks that there are may be printed.
func mayBe(l []api.Bit) bool {
	groups, indents := 0, 0
	for _, b := range l {
		groups += map[int]int{6: 1, 7: -1}[b.Mark]
		indents += map[int]int{8: 1, 9: -1}[b.Mark]
		if groups < 0 || indents < 0 {
			return false
		}
	}
	return groups == 0 && indents == 0
}

// all calls f with all lists of at most n of some bits of which no beginning has one too many.
func all(n int, of []api.Bit, f func([]api.Bit)) {
	var longer func(l []api.Bit, groups, indents int)
	longer = func(l []api.Bit, groups, indents int) {
		f(l)
		if len(l) == n || groups < 0 || indents < 0 {
			return
		}
		for _, b := range of {
			longer(append(l, b), groups+map[int]int{6: 1, 7: -1}[b.Mark], indents+map[int]int{8: 1, 9: -1}[b.Mark])
		}
	}
	longer(nil, 0, 0)
}

func documents() []string {
	return []string{
		"{a}",
		"{a(b:1 c:-2.5e3)@d(e:[1 2[3]]){f}}",
		"{a(b:{c:[] d:{e:\"f g\"}} h:\"é\\u20ac\"){i(j:$k)l(m:[])}}",
		"mutation a($b:[c!]!=1@d $e:f)@g(h:$b){i}",
		"{...a@b(c:d)...on e{f(g:[h i])}}",
		"\"\"\"t\"\"\" type a implements&b&c@d(e:[[]]){\"e\"f(\"g\"h:i=2 j:k=[1 2]):l! m(n:o):[p]@q}",
		"input a{b:c={d:[] e:{}}\"e\"f:g} union h=|i|j enum k{l@m(n:1)o}",
	}
}

// bitsOf are the bits of a source.
func bitsOf(t *testing.T, src string) []api.Bit {
	t.Helper()
	l, e, at := lex.Lex(src)
	if e != api.OK {
		t.Fatalf("%q: error %d at %d", src, e, at)
	}
	rules, at := parse.Parse(kind.All(l))
	if at != -1 {
		t.Fatalf("%q fails at %d", src, at)
	}
	bits, is := mark.Bits(rules, l)
	if !is {
		t.Fatalf("%q has no bits", src)
	}
	return bits
}

// isTold asks for what is told of the first k bits of l at w, and how many are held back.
func isTold(t *testing.T, l []api.Bit, w, k int, want string, held int) {
	t.Helper()
	kept := slices.Clone(l)
	if got, n, is := Flow(l, w, k); !is || got != want || n != held {
		t.Errorf("Flow(%s, %d, %d) = %.300q, %d, %v, not %.300q, %d", brief(l), w, k, got, n, is, want, held)
	}
	if !slices.Equal(l, kept) {
		t.Errorf("%s was made %s", brief(kept), brief(l))
	}
}

// isHeld asks how many of the first k bits of l are held back at w at most.
func isHeld(t *testing.T, l []api.Bit, w, k, want int) {
	t.Helper()
	kept := slices.Clone(l)
	if got := Held(l, w, k); got != want {
		t.Errorf("Held(%s, %d, %d) = %d, not %d", brief(l), w, k, got, want)
	}
	if !slices.Equal(l, kept) {
		t.Errorf("%s was made %s", brief(kept), brief(l))
	}
}

// isAll asks for what is told of all of l at w.
func isAll(t *testing.T, l []api.Bit, w int, want string) {
	t.Helper()
	kept := slices.Clone(l)
	if got, is := All(l, w); !is || got != want {
		t.Errorf("All(%s, %d) = %.300q, %v, not %.300q", brief(l), w, got, is, want)
	}
	if !slices.Equal(l, kept) {
		t.Errorf("%s was made %s", brief(kept), brief(l))
	}
}

// isNone asks of the first k bits of l at w that nothing is told.
func isNone(t *testing.T, l []api.Bit, w, k int) {
	t.Helper()
	kept := slices.Clone(l)
	if got, n, is := Flow(l, w, k); is || got != "" || n != 0 {
		t.Errorf("Flow(%s, %d, %d) = %.300q, %d, %v", brief(l), w, k, got, n, is)
	}
	if got := Held(l, w, k); got != -1 {
		t.Errorf("Held(%s, %d, %d) = %d", brief(l), w, k, got)
	}
	if !slices.Equal(l, kept) {
		t.Errorf("%s was made %s", brief(kept), brief(l))
	}
}

// isNoRoom asks of l at w that nothing is told of as many of its bits as may be, nor of all.
func isNoRoom(t *testing.T, l []api.Bit, w int) {
	t.Helper()
	for _, k := range append(outside(len(l)+1), 0, 1, len(l)/2, len(l)-1, len(l)) {
		isNone(t, l, w, k)
	}
	isNoAll(t, l, w)
}

// isNoAll asks that nothing is told of all of l at w.
func isNoAll(t *testing.T, l []api.Bit, w int) {
	t.Helper()
	kept := slices.Clone(l)
	if got, is := All(l, w); is || got != "" {
		t.Errorf("All(%s, %d) = %.300q, %v", brief(l), w, got, is)
	}
	if !slices.Equal(l, kept) {
		t.Errorf("%s was made %s", brief(kept), brief(l))
	}
}

// areTold asks what is told of the first bits of l at w, from none of them on: each one of want
// is how many are held back, a bar, and what is told. What is held back at most, and that there
// is nothing of numbers of bits that there are not, goes with it.
func areTold(t *testing.T, l []api.Bit, w int, want ...string) {
	t.Helper()
	if len(want) != len(l)+1 {
		t.Fatalf("%s has %d bits, %d answers are wanted", brief(l), len(l), len(want))
	}
	most := 0
	for k, s := range want {
		digits, told, _ := strings.Cut(s, "|")
		held, err := strconv.Atoi(digits)
		if err != nil {
			t.Fatal(err)
		}
		most = max(most, held)
		isTold(t, l, w, k, told, held)
		isHeld(t, l, w, k, most)
	}
	for _, k := range outside(len(l) + 1) {
		isNone(t, l, w, k)
	}
}

// counted are answers by which nothing is told, and all of the bits are held back, from from to
// to of them.
func counted(from, to int) []string {
	var want []string
	for n := from; n <= to; n++ {
		want = append(want, strconv.Itoa(n)+"|")
	}
	return want
}

func TestExample(t *testing.T) {
	areTold(t, example(), 6, counted(0, 11)...)
	areTold(t, example(), 80, counted(0, 11)...)
	areTold(t, example(), 65535, counted(0, 11)...)
	areTold(t, example(), 5, append(counted(0, 9), "0|(\n  a\n  b\n)", "0|(\n  a\n  b\n)")...)
	areTold(t, example(), 4, append(counted(0, 6), "0|(\n  a\n  b", "0|(\n  a\n  b", "0|(\n  a\n  b\n", "0|(\n  a\n  b\n)", "0|(\n  a\n  b\n)")...)
	isHeld(t, example(), 6, 11, 11)
	isHeld(t, example(), 5, 11, 9)
	isAll(t, example(), 6, "(a, b)")
	isAll(t, example(), 5, "(\n  a\n  b\n)")
	isAll(t, example(), 80, "(a, b)")
	isAll(t, example(), 1, "(\n  a\n  b\n)")
}

func TestP19_1Room(t *testing.T) {
	for _, l := range [][]api.Bit{nil, {}, example(), wordBits("a HARD b"), {text("")}, {text(strings.Repeat("a", 70000))}} {
		for _, w := range []int{1, 2, 6, 79, 80, 81, 255, 256, 257, 32767, 32768, 65534, 65535} {
			for k := range len(l) + 1 {
				if _, _, is := Flow(l, w, k); !is || Held(l, w, k) < 0 {
					t.Errorf("nothing of %d of %s at %d", k, brief(l), w)
				}
			}
			for _, k := range outside(len(l) + 1) {
				isNone(t, l, w, k)
			}
			if _, is := All(l, w); !is {
				t.Errorf("nothing of all of %s at %d", brief(l), w)
			}
		}
		for _, w := range wrongWidths() {
			isNoRoom(t, l, w)
		}
	}
}

func TestP19_1NoBits(t *testing.T) {
	for _, w := range []int{1, 80, 65535} {
		areTold(t, nil, w, "0|")
		areTold(t, []api.Bit{}, w, "0|")
		isAll(t, nil, w, "")
		isAll(t, []api.Bit{}, w, "")
	}
}

// That bits may not be printed is told even where those that may not have not come.
func TestP19_1MayNot(t *testing.T) {
	for _, l := range notMay() {
		for _, w := range []int{math.MinInt, -80, -1, 0, 1, 2, 6, 80, 65535, 65536, math.MaxInt} {
			isNoRoom(t, l, w)
		}
		for k := range min(len(l), 20) + 1 {
			isNone(t, l, 80, k)
		}
	}
}

// At most 4000 bits may be printed.
func TestP19_1MaxBits(t *testing.T) {
	isTold(t, slices.Repeat(wordBits("a"), 4000), 80, 4000, strings.Repeat("a", 4000), 0)
	isTold(t, slices.Repeat(wordBits("a"), 4000), 80, 3999, strings.Repeat("a", 3999), 0)
	isTold(t, make([]api.Bit, 4000), 1, 4000, "", 0)
	isTold(t, slices.Repeat(wordBits("a LINE"), 2000), 80, 4000, strings.Repeat("a\n", 2000), 0)
	isTold(t, slices.Repeat(wordBits("OPEN CLOSE"), 2000), 1, 4000, "", 4000)
	isTold(t, slices.Repeat(wordBits("OPEN CLOSE"), 2000), 1, 0, "", 0)
	isNoRoom(t, slices.Repeat(wordBits("a"), 4001), 80)
	isNoRoom(t, make([]api.Bit, 4001), 1)
	isNoRoom(t, append(slices.Repeat(wordBits("OPEN CLOSE"), 2000), text("a")), 80)
}

// What is in no group is told as it comes.
func TestP19_1NoGroup(t *testing.T) {
	areTold(t, wordBits("a SP b LINE c SOFT d COMMA e HARD f"), 80, "0|", "0|a", "0|a ", "0|a b", "0|a b\n", "0|a b\nc", "0|a b\nc\n", "0|a b\nc\nd", "0|a b\nc\nd\n", "0|a b\nc\nd\ne", "0|a b\nc\nd\ne\n", "0|a b\nc\nd\ne\nf")
	areTold(t, wordBits("aaaa SP bbbb LINE cccc"), 1, "0|", "0|aaaa", "0|aaaa ", "0|aaaa bbbb", "0|aaaa bbbb\n", "0|aaaa bbbb\ncccc")
	areTold(t, wordBits("IN HARD a OUT HARD b"), 80, "0|", "0|", "0|\n", "0|\n  a", "0|\n  a", "0|\n  a\n", "0|\n  a\nb")
	areTold(t, wordBits("IN IN a LINE b OUT SOFT c OUT COMMA d"), 80, "0|", "0|", "0|", "0|a", "0|a\n", "0|a\n    b", "0|a\n    b", "0|a\n    b\n", "0|a\n    b\n  c", "0|a\n    b\n  c", "0|a\n    b\n  c\n", "0|a\n    b\n  c\nd")
}

// A column, what has come within a group, and the texts and blanks behind it, are as much as the
// width, or one more, at each bit.
func TestP19_1Decided(t *testing.T) {
	l := wordBits("xx OPEN a LINE b CLOSE yy LINE z")
	for _, w := range []int{7, 8, 80, 65535} {
		areTold(t, l, w, "0|", "0|xx", "1|xx", "2|xx", "3|xx", "4|xx", "5|xx", "6|xx", "0|xxa byy\n", "0|xxa byy\nz")
	}
	for _, w := range []int{6, 5} {
		areTold(t, l, w, "0|", "0|xx", "1|xx", "2|xx", "3|xx", "4|xx", "5|xx", "0|xxa\nbyy", "0|xxa\nbyy\n", "0|xxa\nbyy\nz")
	}
	areTold(t, l, 4, "0|", "0|xx", "1|xx", "2|xx", "3|xx", "0|xxa\nb", "0|xxa\nb", "0|xxa\nbyy", "0|xxa\nbyy\n", "0|xxa\nbyy\nz")
	areTold(t, l, 3, "0|", "0|xx", "1|xx", "2|xx", "0|xxa\n", "0|xxa\nb", "0|xxa\nb", "0|xxa\nbyy", "0|xxa\nbyy\n", "0|xxa\nbyy\nz")
	areTold(t, l, 2, "0|", "0|xx", "1|xx", "0|xxa", "0|xxa\n", "0|xxa\nb", "0|xxa\nb", "0|xxa\nbyy", "0|xxa\nbyy\n", "0|xxa\nbyy\nz")
	areTold(t, l, 1, "0|", "0|xx", "0|xx", "0|xxa", "0|xxa\n", "0|xxa\nb", "0|xxa\nb", "0|xxa\nbyy", "0|xxa\nbyy\n", "0|xxa\nbyy\nz")
}

// A column that alone is above the width decides, of a group without columns, too.
func TestP19_1ColumnAlone(t *testing.T) {
	l := wordBits("abc OPEN SOFT CLOSE SOFT")
	areTold(t, l, 2, "0|", "0|abc", "0|abc", "0|abc\n", "0|abc\n", "0|abc\n\n")
	areTold(t, l, 3, "0|", "0|abc", "1|abc", "2|abc", "3|abc", "0|abc\n")
	areTold(t, wordBits("IN IN HARD OPEN SOFT CLOSE OUT OUT SOFT"), 3, "0|", "0|", "0|", "0|\n", "0|\n", "0|\n\n", "0|\n\n", "0|\n\n", "0|\n\n", "0|\n\n\n")
	areTold(t, wordBits("IN IN HARD OPEN SOFT CLOSE OUT OUT SOFT"), 4, "0|", "0|", "0|", "0|\n", "1|\n", "2|\n", "3|\n", "4|\n", "5|\n", "0|\n\n")
}

// Each bit that breaks, behind its match, decides of a group that it fits; what it is on one
// line is not counted.
func TestP19_1Breaks(t *testing.T) {
	for _, breaks := range []string{"LINE", "SOFT", "COMMA", "HARD"} {
		l := wordBits("OPEN a LINE b CLOSE " + breaks + " c")
		areTold(t, l, 3, append(counted(0, 5), "0|a b\n", "0|a b\nc")...)
		areTold(t, l, 2, append(counted(0, 3), "0|a\nb", "0|a\nb", "0|a\nb\n", "0|a\nb\nc")...)
		l = wordBits("OPEN a LINE b CLOSE SP dd " + breaks + " c")
		areTold(t, l, 6, append(counted(0, 7), "0|a b dd\n", "0|a b dd\nc")...)
		areTold(t, l, 5, append(counted(0, 6), "0|a\nb dd", "0|a\nb dd\n", "0|a\nb dd\nc")...)
		areTold(t, l, 4, append(counted(0, 6), "0|a\nb dd", "0|a\nb dd\n", "0|a\nb dd\nc")...)
		areTold(t, l, 3, append(counted(0, 5), "0|a\nb ", "0|a\nb dd", "0|a\nb dd\n", "0|a\nb dd\nc")...)
	}
}

// Texts and blanks behind the bit that breaks are not counted.
func TestP19_1BehindBreak(t *testing.T) {
	areTold(t, wordBits("OPEN a SOFT b CLOSE LINE cccc SP d"), 2, append(counted(0, 5), "0|ab\n", "0|ab\ncccc", "0|ab\ncccc ", "0|ab\ncccc d")...)
	areTold(t, wordBits("OPEN a CLOSE b SOFT c SOFT d"), 2, append(counted(0, 4), "0|ab\n", "0|ab\nc", "0|ab\nc\n", "0|ab\nc\nd")...)
}

// A bit that has no Flat decides, wherever it stands within a group.
func TestP19_1Hard(t *testing.T) {
	areTold(t, wordBits("OPEN HARD a CLOSE LINE b"), 80, "0|", "1|", "0|\n", "0|\na", "0|\na", "0|\na\n", "0|\na\nb")
	areTold(t, wordBits("OPEN a LINE b HARD CLOSE"), 80, append(counted(0, 4), "0|a\nb\n", "0|a\nb\n")...)
	areTold(t, wordBits("OPEN a HARD b LINE c CLOSE SOFT"), 80, "0|", "1|", "2|", "0|a\n", "0|a\nb", "0|a\nb\n", "0|a\nb\nc", "0|a\nb\nc", "0|a\nb\nc\n")
	areTold(t, wordBits("OPEN HARD CLOSE HARD"), 80, "0|", "1|", "0|\n", "0|\n", "0|\n\n")
	areTold(t, wordBits("OPEN OPEN a LINE b CLOSE HARD c CLOSE"), 80, append(counted(0, 6), "0|a b\n", "0|a b\nc", "0|a b\nc")...)
	areTold(t, wordBits("OPEN OPEN a LINE HARD CLOSE c CLOSE"), 80, append(counted(0, 4), "0|a\n\n", "0|a\n\n", "0|a\n\nc", "0|a\n\nc")...)
	areTold(t, wordBits("HARD OPEN a CLOSE HARD"), 80, "0|", "0|\n", "1|\n", "2|\n", "3|\n", "0|\na\n")
}

// What stands behind a match and is neither a text nor a blank, nor breaks, decides nothing.
func TestP19_1Behind(t *testing.T) {
	l := wordBits("OPEN a LINE b CLOSE IN OUT OPEN CLOSE SP SOFT")
	areTold(t, l, 4, append(counted(0, 10), "0|a b \n")...)
	areTold(t, l, 3, append(counted(0, 9), "3|a\nb", "0|a\nb \n")...)
	l = wordBits("OPEN a SOFT b CLOSE OPEN c LINE d CLOSE HARD")
	areTold(t, l, 5, append(counted(0, 7), "3|ab", "4|ab", "5|ab", "0|abc d\n")...)
	areTold(t, l, 4, append(counted(0, 7), "3|ab", "0|abc\nd", "0|abc\nd", "0|abc\nd\n")...)
	areTold(t, l, 3, append(counted(0, 7), "0|abc\n", "0|abc\nd", "0|abc\nd", "0|abc\nd\n")...)
	areTold(t, l, 2, append(counted(0, 6), "2|a\nb", "0|a\nbc\n", "0|a\nbc\nd", "0|a\nbc\nd", "0|a\nbc\nd\n")...)
}

// A match that is the last bit that has come decides nothing, however much room there is.
func TestP19_1MatchLast(t *testing.T) {
	areTold(t, wordBits("OPEN CLOSE"), 1, "0|", "1|", "2|")
	areTold(t, wordBits("OPEN a CLOSE"), 80, "0|", "1|", "2|", "3|")
	areTold(t, wordBits("OPEN a CLOSE b"), 80, "0|", "1|", "2|", "3|", "4|")
	areTold(t, wordBits("OPEN a CLOSE SP b"), 3, "0|", "1|", "2|", "3|", "4|", "5|")
	areTold(t, wordBits("OPEN a CLOSE SP b"), 2, "0|", "1|", "2|", "3|", "4|", "0|a b")
	areTold(t, wordBits("OPEN CLOSE LINE"), 1, "0|", "1|", "2|", "0|\n")
	areTold(t, wordBits("OPEN a CLOSE OPEN b CLOSE"), 80, counted(0, 6)...)
	areTold(t, wordBits("OPEN a CLOSE LINE OPEN b CLOSE"), 80, "0|", "1|", "2|", "3|", "0|a\n", "1|a\n", "2|a\n", "3|a\n")
}

// What stands behind its match decides of a group that it does not fit.
func TestP19_1ByBehind(t *testing.T) {
	areTold(t, wordBits("OPEN a LINE b CLOSE cc LINE"), 5, append(counted(0, 6), "0|a bcc\n")...)
	areTold(t, wordBits("OPEN a LINE b CLOSE cc LINE"), 4, append(counted(0, 5), "0|a\nbcc", "0|a\nbcc\n")...)
	areTold(t, wordBits("OPEN a LINE b CLOSE cc SP NONE dd"), 5, append(counted(0, 6), "0|a\nbcc ", "0|a\nbcc ", "0|a\nbcc dd")...)
	areTold(t, wordBits("OPEN a LINE b CLOSE IN cc OUT LINE"), 4, append(counted(0, 6), "0|a\nbcc", "0|a\nbcc", "0|a\nbcc\n")...)
}

// A group within one that is not decided is held back with it; one within a flat one is flat
// with it, and does not end it; one within one that does not fit is held back of its own.
func TestP19_1Within(t *testing.T) {
	l := wordBits("OPEN a LINE OPEN b LINE c CLOSE LINE d CLOSE HARD")
	areTold(t, l, 7, append(counted(0, 11), "0|a b c d\n")...)
	areTold(t, l, 6, append(counted(0, 9), "0|a\nb c\nd", "0|a\nb c\nd", "0|a\nb c\nd\n")...)
	areTold(t, l, 5, append(counted(0, 8), "0|a\nb c\n", "0|a\nb c\nd", "0|a\nb c\nd", "0|a\nb c\nd\n")...)
	areTold(t, l, 4, append(counted(0, 6), "4|a\n", "5|a\n", "0|a\nb c\n", "0|a\nb c\nd", "0|a\nb c\nd", "0|a\nb c\nd\n")...)
	areTold(t, l, 3, append(counted(0, 5), "3|a\n", "4|a\n", "5|a\n", "0|a\nb c\n", "0|a\nb c\nd", "0|a\nb c\nd", "0|a\nb c\nd\n")...)
	areTold(t, l, 2, append(counted(0, 4), "2|a\n", "3|a\n", "0|a\nb\nc", "0|a\nb\nc", "0|a\nb\nc\n", "0|a\nb\nc\nd", "0|a\nb\nc\nd", "0|a\nb\nc\nd\n")...)
	areTold(t, l, 1, append(counted(0, 2), "0|a\n", "1|a\n", "2|a\n", "0|a\nb\n", "0|a\nb\nc", "0|a\nb\nc", "0|a\nb\nc\n", "0|a\nb\nc\nd", "0|a\nb\nc\nd", "0|a\nb\nc\nd\n")...)
}

// Only the match of the group that made it flat ends it.
func TestP19_1Match(t *testing.T) {
	areTold(t, wordBits("OPEN OPEN a CLOSE LINE b CLOSE LINE c"), 80, append(counted(0, 7), "0|a b\n", "0|a b\nc")...)
	areTold(t, wordBits("OPEN OPEN OPEN a CLOSE LINE b CLOSE SOFT c CLOSE COMMA d"), 80, append(counted(0, 11), "0|a bc\n", "0|a bc\nd")...)
	areTold(t, wordBits("OPEN a CLOSE LINE b OPEN c CLOSE LINE"), 80, "0|", "1|", "2|", "3|", "0|a\n", "0|a\nb", "1|a\nb", "2|a\nb", "3|a\nb", "0|a\nbc\n")
	areTold(t, wordBits("OPEN OPEN a CLOSE HARD OPEN b COMMA c CLOSE LINE CLOSE"), 80, append(counted(0, 4), "0|a\n", "1|a\n", "2|a\n", "3|a\n", "4|a\n", "5|a\n", "0|a\nb, c\n", "0|a\nb, c\n")...)
}

// What goes in and out, ahead of what is held back and within it, changes the lines behind.
func TestP19_1Indent(t *testing.T) {
	l := wordBits("IN HARD OPEN ( IN SOFT a LINE b OUT SOFT ) CLOSE OUT HARD c")
	areTold(t, l, 7, "0|", "0|", "0|\n", "1|\n", "2|\n", "3|\n", "4|\n", "5|\n", "6|\n", "7|\n", "8|\n", "9|\n", "10|\n", "11|\n", "12|\n", "0|\n  (a b)\n", "0|\n  (a b)\nc")
	areTold(t, l, 6, "0|", "0|", "0|\n", "1|\n", "2|\n", "3|\n", "4|\n", "5|\n", "6|\n", "7|\n", "8|\n", "9|\n", "0|\n  (\n    a\n    b\n  )", "0|\n  (\n    a\n    b\n  )", "0|\n  (\n    a\n    b\n  )", "0|\n  (\n    a\n    b\n  )\n", "0|\n  (\n    a\n    b\n  )\nc")
	areTold(t, l, 3, "0|", "0|", "0|\n", "1|\n", "2|\n", "3|\n", "4|\n", "0|\n  (\n    a", "0|\n  (\n    a\n", "0|\n  (\n    a\n    b", "0|\n  (\n    a\n    b", "0|\n  (\n    a\n    b\n", "0|\n  (\n    a\n    b\n  )", "0|\n  (\n    a\n    b\n  )", "0|\n  (\n    a\n    b\n  )", "0|\n  (\n    a\n    b\n  )\n", "0|\n  (\n    a\n    b\n  )\nc")
	areTold(t, wordBits("OPEN IN a LINE b CLOSE HARD c OUT HARD d"), 80, append(counted(0, 6), "0|a b\n", "0|a b\n  c", "0|a b\n  c", "0|a b\n  c\n", "0|a b\n  c\nd")...)
	areTold(t, wordBits("IN IN OPEN a OUT LINE b OUT CLOSE HARD c"), 2, "0|", "0|", "0|", "1|", "2|", "3|", "4|", "0|a\n  b", "0|a\n  b", "0|a\n  b", "0|a\n  b\n", "0|a\n  b\nc")
	areTold(t, wordBits("IN IN OPEN a OUT LINE b OUT CLOSE HARD c"), 3, "0|", "0|", "0|", "1|", "2|", "3|", "4|", "5|", "6|", "7|", "0|a b\n", "0|a b\nc")
}

// Blanks that are due where what is told ends are not told, but ahead of the next text.
func TestP19_1Due(t *testing.T) {
	areTold(t, wordBits("IN HARD NONE HARD NONE a NONE OUT"), 80, "0|", "0|", "0|\n", "0|\n", "0|\n\n", "0|\n\n", "0|\n\n  a", "0|\n\n  a", "0|\n\n  a")
	areTold(t, wordBits("IN HARD OPEN a LINE b CLOSE OUT HARD"), 5, "0|", "0|", "0|\n", "1|\n", "2|\n", "3|\n", "4|\n", "5|\n", "6|\n", "0|\n  a b\n")
	areTold(t, wordBits("IN HARD OPEN a LINE b CLOSE OUT HARD"), 4, "0|", "0|", "0|\n", "1|\n", "2|\n", "3|\n", "0|\n  a\n  b", "0|\n  a\n  b", "0|\n  a\n  b", "0|\n  a\n  b\n")
	areTold(t, wordBits("IN HARD OPEN a LINE OPEN b CLOSE OUT HARD CLOSE"), 3, "0|", "0|", "0|\n", "1|\n", "2|\n", "0|\n  a\n", "1|\n  a\n", "2|\n  a\n", "3|\n  a\n", "4|\n  a\n", "0|\n  a\n  b\n", "0|\n  a\n  b\n")
	areTold(t, wordBits("IN HARD OPEN LINE a CLOSE HARD OUT"), 4, "0|", "0|", "0|\n", "1|\n", "2|\n", "3|\n", "4|\n", "0|\n   a\n", "0|\n   a\n")
	areTold(t, wordBits("IN HARD SP OUT HARD"), 4, "0|", "0|", "0|\n", "0|\n   ", "0|\n   ", "0|\n   \n")
}

// Characters of one, two, three and four bytes are a column each, as is each byte of none.
func TestP19_1Characters(t *testing.T) {
	for _, s := range []string{"a", "é", "\u20ac", "\U0001f600", "\u0080", "\u07ff", "\ufffd", "\U0010ffff"} {
		isOneColumn(t, s, 1)
	}
	for _, s := range oddTexts() {
		isOneColumn(t, s, len(s))
	}
	for b := range 256 {
		isOneColumn(t, string([]byte{byte(b)}), 1)
	}
}

// isOneColumn asks how a text of n columns counts ahead of a group, in it, and behind it.
func isOneColumn(t *testing.T, s string, n int) {
	t.Helper()
	ahead := []api.Bit{text(s), of(6), text("x"), of(2), text("y"), of(7), of(5)}
	areTold(t, ahead, n+3, "0|", "0|"+s, "1|"+s, "2|"+s, "3|"+s, "4|"+s, "5|"+s, "0|"+s+"x y\n")
	areTold(t, ahead, n+2, "0|", "0|"+s, "1|"+s, "2|"+s, "3|"+s, "0|"+s+"x\ny", "0|"+s+"x\ny", "0|"+s+"x\ny\n")
	within := []api.Bit{of(6), text("x"), of(2), text(s), of(7), of(5)}
	areTold(t, within, n+2, append(counted(0, 5), "0|x "+s+"\n")...)
	areTold(t, within, n+1, append(counted(0, 3), "0|x\n"+s, "0|x\n"+s, "0|x\n"+s+"\n")...)
	behind := []api.Bit{of(6), text("x"), of(2), of(7), text(s), text(s), of(4)}
	areTold(t, behind, 2*n+2, append(counted(0, 6), "0|x "+s+s+"\n")...)
	areTold(t, behind, 2*n+1, append(counted(0, 5), "0|x\n"+s+s, "0|x\n"+s+s+"\n")...)
	isAll(t, behind[:6], 2*n+2, "x "+s+s)
	isAll(t, behind[:6], 2*n+1, "x\n"+s+s)
}

// Texts with blanks and ends of lines in them are put as they are, and counted as columns.
func TestP19_1Texts(t *testing.T) {
	for _, s := range []string{" ", "\n", "  \n  ", "a\nb", "\r\n", "\t", ", ", "\x7f"} {
		n := len(s)
		l := []api.Bit{text(s), of(6), of(2), text(s), of(7), text(s), of(3)}
		areTold(t, l, 3*n+1, "0|", "0|"+s, "1|"+s, "2|"+s, "3|"+s, "4|"+s, "5|"+s, "0|"+s+" "+s+s+"\n")
		areTold(t, l, 3*n, "0|", "0|"+s, "1|"+s, "2|"+s, "3|"+s, "4|"+s, "0|"+s+"\n"+s+s, "0|"+s+"\n"+s+s+"\n")
	}
}

// At the greatest width, too, it is told by one column.
func TestP19_1GreatWidth(t *testing.T) {
	for _, n := range []int{65532, 65533, 65534, 65535, 65536, 131072, 200000, 300000} {
		for _, s := range []string{"b", "\u20ac", "\U0001f600", "\xff"} {
			long := strings.Repeat(s, n)
			l := []api.Bit{of(6), text("a"), of(2), text(long), of(7), of(5)}
			if n <= 65533 {
				areTold(t, l, 65535, append(counted(0, 5), "0|a "+long+"\n")...)
			} else {
				areTold(t, l, 65535, append(counted(0, 3), "0|a\n"+long, "0|a\n"+long, "0|a\n"+long+"\n")...)
			}
		}
	}
}

// Held is the most that any of the first bits leaves held back, not what the last one leaves.
func TestP19_2Held(t *testing.T) {
	l := wordBits("OPEN a LINE b CLOSE HARD c OPEN d CLOSE HARD")
	for k, want := range []int{0, 1, 2, 3, 4, 5, 5, 5, 5, 5, 5, 5} {
		isHeld(t, l, 80, k, want)
	}
	for k, want := range []int{0, 1, 2, 3, 3, 3, 3, 3, 3, 3, 3, 3} {
		isHeld(t, l, 2, k, want)
	}
	l = wordBits("OPEN d CLOSE HARD OPEN a LINE b CLOSE HARD OPEN CLOSE HARD")
	for k, want := range []int{0, 1, 2, 3, 3, 3, 3, 3, 4, 5, 5, 5, 5, 5} {
		isHeld(t, l, 80, k, want)
	}
	isHeld(t, nil, 80, 0, 0)
	isHeld(t, wordBits("a LINE b"), 80, 3, 0)
	isHeld(t, wordBits("OPEN a HARD b CLOSE"), 80, 5, 2)
	isHeld(t, wordBits("OPEN a CLOSE"), 80, 3, 3)
	isNone(t, l, 80, -1)
	isNone(t, l, 80, len(l)+1)
	isNone(t, l, 0, 3)
	isNone(t, l[1:], 80, 3)
	isNone(t, nil, 80, 1)
	isNone(t, nil, 80, -1)
}

// All is of groups that their end alone decides, and has no new line behind that is not of l.
func TestP19_2All(t *testing.T) {
	for _, x := range []struct {
		words string
		w     int
		want  string
	}{
		{"", 80, ""},
		{"a", 80, "a"},
		{"NONE", 1, ""},
		{"SP", 1, " "},
		{"HARD", 80, "\n"},
		{"LINE", 80, "\n"},
		{"a HARD", 80, "a\n"},
		{"a HARD HARD", 80, "a\n\n"},
		{"IN HARD OUT", 80, "\n"},
		{"IN HARD a HARD OUT", 80, "\n  a\n"},
		{"OPEN CLOSE", 1, ""},
		{"OPEN a LINE b CLOSE", 3, "a b"},
		{"OPEN a LINE b CLOSE", 2, "a\nb"},
		{"OPEN a LINE b CLOSE cc", 5, "a bcc"},
		{"OPEN a LINE b CLOSE cc", 4, "a\nbcc"},
		{"OPEN a LINE b CLOSE HARD", 3, "a b\n"},
		{"OPEN a LINE b CLOSE HARD", 2, "a\nb\n"},
		{"OPEN OPEN a LINE b CLOSE SOFT c CLOSE", 4, "a bc"},
		{"OPEN OPEN a LINE b CLOSE SOFT c CLOSE", 3, "a b\nc"},
		{"OPEN OPEN a LINE b CLOSE SOFT c CLOSE", 2, "a\nb\nc"},
		{"OPEN a HARD CLOSE", 80, "a\n"},
		{"x OPEN a LINE OPEN b LINE c CLOSE CLOSE SP d", 8, "xa b c d"},
		{"x OPEN a LINE OPEN b LINE c CLOSE CLOSE SP d", 7, "xa\nb c d"},
		{"x OPEN a LINE OPEN b LINE c CLOSE CLOSE SP d", 4, "xa\nb\nc d"},
	} {
		isAll(t, wordBits(x.words), x.w, x.want)
	}
}

// Behind 4000 bits there is no room for one more.
func TestP19_2AllMaxBits(t *testing.T) {
	isAll(t, slices.Repeat(wordBits("a"), 3999), 80, strings.Repeat("a", 3999))
	isAll(t, make([]api.Bit, 3999), 1, "")
	isAll(t, append(slices.Repeat(wordBits("OPEN a LINE b CLOSE HARD"), 666), wordBits("OPEN x CLOSE")...), 3, strings.Repeat("a b\n", 666)+"x")
	for _, l := range [][]api.Bit{slices.Repeat(wordBits("a"), 4000), make([]api.Bit, 4000), slices.Repeat(wordBits("OPEN CLOSE"), 2000), slices.Repeat(wordBits("a HARD"), 2000)} {
		isNoAll(t, l, 80)
		if _, _, is := Flow(l, 80, 4000); !is {
			t.Errorf("nothing of %s", brief(l))
		}
	}
	isNoAll(t, make([]api.Bit, 4001), 80)
}

// decidedSaid tells by the chapter's words whether it is decided, when the bits of l have come,
// that the group at open, which ends at match, fits at a column, or that it does not.
func decidedSaid(l []api.Bit, open, match, column, w int) (fits, is bool) {
	n, m := 0, 0
	for _, b := range l[open+1 : min(match, len(l))] {
		if b.Mark == 5 {
			return false, true
		}
		n += colsSaid(onLine(b))
	}
	if column+n > w {
		return false, true
	}
	if match >= len(l) {
		return false, false
	}
	broken := false
	for _, b := range l[match+1:] {
		if b.Mark >= 2 && b.Mark <= 5 {
			broken = true
			break
		}
		if b.Mark == 0 || b.Mark == 1 {
			m += colsSaid(onLine(b))
		}
	}
	if column+n+m > w {
		return false, true
	}
	return broken, broken
}

// flowSaid is what is told of the first k bits of l at w by the chapter's words, and how many
// are held back.
func flowSaid(l []api.Bit, w, k int) (string, int) {
	ends := matchesSaid(l)
	lines, indent, column, flat := []string{""}, 0, 0, -1
	for i, b := range l[:k] {
		if b.Mark == 6 && i > flat {
			fits, is := decidedSaid(l[:k], i, ends[i], column, w)
			if !is {
				return strings.Join(lines, "\n"), k - i
			}
			if fits {
				flat = ends[i]
			}
		}
		if b.Mark == 8 {
			indent += 2
		}
		if b.Mark == 9 {
			indent -= 2
		}
		if b.Mark == 5 || i > flat && b.Mark >= 2 && b.Mark <= 4 {
			lines, column = append(lines, ""), indent
			continue
		}
		if s := onLine(b); s != "" {
			last := &lines[len(lines)-1]
			for colsSaid(*last) < column {
				*last += " "
			}
			*last += s
			column += colsSaid(s)
		}
	}
	return strings.Join(lines, "\n"), 0
}

// isSaid holds what is told of l at w, of each number of its bits, against the chapter's words.
func isSaid(t *testing.T, l []api.Bit, w int) {
	t.Helper()
	if !mayBe(l) {
		for k := range len(l) + 1 {
			isNone(t, l, w, k)
		}
		isNoAll(t, l, w)
		return
	}
	most := 0
	for k := range len(l) + 1 {
		told, held := flowSaid(l, w, k)
		most = max(most, held)
		isTold(t, l, w, k, told, held)
		isHeld(t, l, w, k, most)
	}
	ended := append(slices.Clone(l), of(5))
	told, held := flowSaid(ended, w, len(ended))
	if held != 0 || !strings.HasSuffix(told, "\n") {
		t.Errorf("%s at %d: %q, and %d held back in the end", brief(l), w, told, held)
	}
	isAll(t, l, w, told[:len(told)-1])
}

// All short lists of each mark and texts, held against the words, at widths from one that is
// too narrow for all to one that none needs.
func TestAllShort(t *testing.T) {
	all(5, wordBits("bb SP LINE SOFT COMMA HARD OPEN CLOSE IN OUT"), func(l []api.Bit) {
		if !mayBe(l) {
			if len(l) < 5 {
				isSaid(t, l, 3)
			}
			return
		}
		for _, w := range []int{1, 2, 3, 5} {
			isSaid(t, l, w)
		}
	})
	all(8, wordBits("\u20ac LINE OPEN CLOSE"), func(l []api.Bit) {
		if mayBe(l) {
			for _, w := range []int{2, 3, 5} {
				isSaid(t, l, w)
			}
		}
	})
	all(7, wordBits("bb SP HARD OPEN CLOSE"), func(l []api.Bit) {
		if mayBe(l) {
			for _, w := range []int{2, 3, 4, 6} {
				isSaid(t, l, w)
			}
		}
	})
	all(8, wordBits("b HARD IN OUT"), func(l []api.Bit) {
		if mayBe(l) {
			isSaid(t, l, 3)
		}
	})
}

// closing are the bits that end what l has begun.
func closing(l []api.Bit) []api.Bit {
	var ends []api.Bit
	for _, b := range l {
		switch b.Mark {
		case 6, 8:
			ends = append(ends, of(b.Mark+1))
		case 7, 9:
			at := slices.Index(ends, of(b.Mark))
			ends = slices.Delete(ends, at, at+1)
		}
	}
	return ends
}

// What has not come is not known: whatever it is, the same is told of the bits that have.
func TestP19_1NotKnown(t *testing.T) {
	whole := wordBits("xx OPEN a LINE IN OPEN bb SOFT c CLOSE SP OPEN d CLOSE OUT e COMMA CLOSE f HARD OPEN CLOSE g")
	for k := range len(whole) + 1 {
		ends := closing(whole[:k])
		for _, more := range [][]api.Bit{nil, ends, append(wordBits("HARD"), ends...), append(wordBits("OPEN HARD CLOSE LINE"), ends...), append([]api.Bit{text(strings.Repeat("y", 99))}, ends...), slices.Concat(ends, wordBits("LINE")), slices.Concat(ends, wordBits("OPEN z CLOSE SP"))} {
			l := slices.Concat(whole[:k], more)
			if more == nil {
				l = whole
			}
			for w := 1; w < 22; w++ {
				told, held := flowSaid(whole, w, k)
				isTold(t, l, w, k, told, held)
				isHeld(t, l, w, k, Held(whole, w, k))
			}
		}
	}
}

// heldOn is how many columns bits have on one line.
func heldOn(l []api.Bit) int {
	n := 0
	for _, b := range l {
		s, _ := span.Flat(b)
		n += span.Cols(s)
	}
	return n
}

// isFlowing asks of what is told of l at w, as its bits come: it is the beginning of what is
// told of more of them, and of all of them at once; behind a bit that breaks, what is held back
// has not ended; and what is held back has no more columns than w. It answers how often some
// bits were held back.
func isFlowing(t *testing.T, l []api.Bit, w int) int {
	t.Helper()
	laid, _ := wide.Lay(l, w)
	last, times := "", 0
	for k := range len(l) + 1 {
		told, held, is := Flow(l, w, k)
		if !is || !strings.HasPrefix(told, last) || !strings.HasPrefix(laid, told) || held < 0 || held > k {
			t.Errorf("%s at %d: of %d bits %q, %d, %v, behind %q, of %q", brief(l), w, k, told, held, is, last, laid)
		}
		last = told
		if held == 0 {
			continue
		}
		times++
		open := k - held
		match := span.Match(l, open)
		if match == -1 || heldOn(l[open:k]) > w || wide.Col(l, w, open)+heldOn(l[open:k]) > w {
			t.Errorf("%s at %d: of %d bits %d are held back", brief(l), w, k, held)
		}
		for i := match + 1; i < k; i++ {
			if span.Breaks(l[i]) {
				t.Errorf("%s at %d: of %d bits %d are held back, behind the bit %d", brief(l), w, k, held, i)
			}
		}
	}
	if s, is := All(l, w); len(l) < api.MaxBits && (!is || s != laid) {
		t.Errorf("All(%s, %d) = %q, %v, not %q", brief(l), w, s, is, laid)
	}
	return times
}

func TestP19_3Flowing(t *testing.T) {
	times := 0
	hold := func(l []api.Bit) {
		if !mayBe(l) {
			return
		}
		for _, w := range []int{1, 2, 3, 5} {
			times += isFlowing(t, l, w)
		}
	}
	all(5, wordBits("bb SP LINE SOFT COMMA HARD OPEN CLOSE IN OUT"), hold)
	all(7, wordBits("bb LINE OPEN CLOSE"), hold)
	if times < 10000 {
		t.Errorf("only %d times bits were held back", times)
	}
}

// Behind a bit that breaks, what is held back is of a group that has not ended.
func TestP19_3Broken(t *testing.T) {
	l := wordBits("OPEN a LINE OPEN b CLOSE COMMA c SOFT CLOSE LINE d")
	areTold(t, l, 80, append(counted(0, 10), "0|a b, c\n", "0|a b, c\nd")...)
	areTold(t, l, 2, append(counted(0, 4), "2|a\n", "3|a\n", "0|a\nb\n", "0|a\nb\nc", "0|a\nb\nc\n", "0|a\nb\nc\n", "0|a\nb\nc\n\n", "0|a\nb\nc\n\nd")...)
}

// Bits as they are printed of sources, at each width up to one that all of them fit.
func TestDocuments(t *testing.T) {
	for _, src := range documents() {
		l := bitsOf(t, src)
		for w := 1; w < 100; w += 1 + w/20 {
			isSaid(t, l, w)
			isFlowing(t, l, w)
		}
		isSaid(t, l, 65535)
		isFlowing(t, l, 65535)
		for _, w := range wrongWidths() {
			isNoRoom(t, l, w)
		}
		for at := 1; at < len(l); at++ {
			isSaid(t, l[:at], 10)
			isSaid(t, l[at:], 10)
			isSaid(t, slices.Concat(l[at:], l[:at]), 10)
		}
	}
}

func TestDocumentsByHand(t *testing.T) {
	for _, x := range []struct {
		src  string
		w    int
		want string
	}{
		{"{a,b}", 80, "{\n  a\n  b\n}"},
		{"{a,b}", 1, "{\n  a\n  b\n}"},
		{"{f(a:1 b:[2])}", 80, "{\n  f(a: 1, b: [2])\n}"},
		{"{f(a:1 b:[2])}", 17, "{\n  f(a: 1, b: [2])\n}"},
		{"{f(a:1 b:[2])}", 16, "{\n  f(\n    a: 1\n    b: [2]\n  )\n}"},
		{"{f(a:1 b:[2])}", 12, "{\n  f(\n    a: 1\n    b: [2]\n  )\n}"},
	} {
		isAll(t, bitsOf(t, x.src), x.w, x.want)
	}
}

// Many groups, within each other and one behind the other, and many lines.
func TestLong(t *testing.T) {
	side := slices.Repeat(wordBits("OPEN a LINE b CLOSE HARD"), 666)
	isTold(t, side, 3, len(side), strings.Repeat("a b\n", 666), 0)
	isTold(t, side, 3, len(side)-1, strings.Repeat("a b\n", 665), 5)
	isHeld(t, side, 3, len(side), 5)
	isTold(t, side, 2, len(side), strings.Repeat("a\nb\n", 666), 0)
	isHeld(t, side, 2, len(side), 3)
	deep := slices.Concat(slices.Repeat(wordBits("OPEN"), 1998), wordBits("a LINE"), slices.Repeat(wordBits("CLOSE"), 1998), wordBits("LINE b"))
	isTold(t, deep, 2, 3998, "", 3998)
	isTold(t, deep, 2, 3999, "a \n", 0)
	isHeld(t, deep, 2, 4000, 3998)
	isTold(t, deep, 1, 1999, "", 1999)
	isTold(t, deep, 1, 2000, "a\n", 0)
	isHeld(t, deep, 1, 4000, 1999)
	isAll(t, deep[:3998], 2, "a ")
	isAll(t, deep[:3998], 1, "a\n")
	const n = 571
	nested := slices.Concat(slices.Repeat(wordBits("OPEN ( IN SOFT"), n), wordBits("a"), slices.Repeat(wordBits("OUT ) CLOSE"), n))
	isAll(t, nested, 2*n+1, strings.Repeat("(", n)+"a"+strings.Repeat(")", n))
	isHeld(t, nested, 2*n+1, len(nested), len(nested))
	isHeld(t, nested, 2*n, len(nested), len(nested)-2)
	var told strings.Builder
	for i := range n {
		told.WriteString("(\n" + strings.Repeat(" ", 2*i+2))
	}
	isAll(t, nested, 1, told.String()+"a"+strings.Repeat(")", n))
	in := slices.Concat(slices.Repeat(wordBits("IN HARD"), 1333), wordBits("x"), slices.Repeat(wordBits("OUT"), 1333))
	isTold(t, in, 1, len(in), strings.Repeat("\n", 1333)+strings.Repeat(" ", 2666)+"x", 0)
}

// Many groups that are not decided are held back again and again, and all of them within each
// other fit, or none of them.
func TestLongHeld(t *testing.T) {
	deep := slices.Concat(slices.Repeat(wordBits("OPEN"), 2000), slices.Repeat(wordBits("CLOSE"), 2000))
	for _, w := range []int{1, 80, 65535} {
		isHeld(t, deep, w, 4000, 4000)
		for k := 0; k <= 4000; k += 400 {
			isTold(t, deep, w, k, "", k)
		}
	}
	long := slices.Concat(slices.Repeat(wordBits("OPEN a"), 1000), slices.Repeat(wordBits("CLOSE LINE"), 1000))
	for _, w := range []int{1000, 1001, 1998} {
		isHeld(t, long, w, 4000, 2*w+1)
	}
	for _, w := range []int{1, 2, 10, 99, 100, 101, 199, 200, 65535} {
		isFlowing(t, long[1900:2100], w)
	}
}

// Long texts deep within groups are not gone through for each of these.
func TestLongTexts(t *testing.T) {
	for _, s := range []string{"a", "\u20ac", "\U0001f600", "\xff"} {
		long := strings.Repeat(s, 2000000)
		deep := slices.Concat(slices.Repeat(wordBits("OPEN"), 1998), []api.Bit{text("b"), of(2), text(long)}, slices.Repeat(wordBits("CLOSE"), 1998))
		isAll(t, deep, 80, "b\n"+long)
		isHeld(t, deep, 80, len(deep), 2000)
	}
	many := slices.Repeat([]api.Bit{text(strings.Repeat("ab", 5000)), of(1)}, 1000)
	isAll(t, many, 80, strings.Repeat(strings.Repeat("ab", 5000)+" ", 1000))
}

// A list that is a part of a greater one is read as it is, not beyond, and nothing is changed.
func TestPart(t *testing.T) {
	whole := wordBits("OPEN OPEN a LINE bb CLOSE ccc CLOSE IN dd SOFT OUT e OPEN f COMMA g CLOSE HARD")
	kept := slices.Clone(whole)
	for from := range len(whole) + 1 {
		for to := from; to <= len(whole); to++ {
			part := whole[from:to]
			for w := 1; w < 12; w++ {
				if mayBe(part) {
					isFlowing(t, part, w)
				}
				isSaid(t, part, w)
			}
		}
	}
	if !slices.Equal(whole, kept) {
		t.Errorf("%s was made %s", brief(kept), brief(whole))
	}
	isAll(t, whole[:8], 7, "a bbccc")
	isTold(t, whole[:8], 7, 8, "", 8)
	isNoRoom(t, whole[:7], 7)
	if !slices.Equal(whole, kept) {
		t.Errorf("%s was made %s", brief(kept), brief(whole))
	}
}

// asked is all that the calls answer of some bits, as one text.
func asked(l []api.Bit) string {
	var told []string
	for _, w := range []int{-1, 0, 1, 5, 10, 20, 80, 65535, 65536} {
		s, is := All(l, w)
		told = append(told, s, strconv.FormatBool(is))
		for k := -1; k <= len(l)+1; k++ {
			s, held, is := Flow(l, w, k)
			told = append(told, s, strconv.Itoa(held), strconv.FormatBool(is), strconv.Itoa(Held(l, w, k)))
		}
	}
	return strings.Join(told, " ")
}

func TestSameEachTime(t *testing.T) {
	first := map[string]string{}
	for range 5 {
		for _, src := range documents() {
			got := asked(bitsOf(t, src))
			if first[src] == "" {
				first[src] = got
			}
			if got != first[src] {
				t.Errorf("%q: %s, then %s", src, first[src], got)
			}
		}
	}
}

func TestAtOnce(t *testing.T) {
	l := wordBits("OPEN a LINE OPEN bb COMMA c CLOSE HARD CLOSE IN dd SP OPEN e OUT SOFT CLOSE")
	want := asked(l)
	var all sync.WaitGroup
	for range 16 {
		all.Go(func() {
			for range 20 {
				if got := asked(l); got != want {
					t.Errorf("%s, not %s", got, want)
				}
			}
		})
	}
	all.Wait()
}
