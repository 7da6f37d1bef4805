package span

import (
	"math"
	"slices"
	"strconv"
	"strings"
	"sync"
	"testing"
	"unicode/utf8"

	"copperplate/api"
	"copperplate/kind"
	"copperplate/lex"
	"copperplate/mark"
	"copperplate/parse"
	"copperplate/utf"
)

// Words of the marks, from number 1 on. ODD is a mark that there is not.
const markWords = "SP LINE SOFT COMMA HARD OPEN CLOSE IN OUT ODD"

func text(s string) api.Bit { return api.Bit{Mark: 0, Text: s} }

func of(mark int) api.Bit { return api.Bit{Mark: mark} }

// wordBits are those of words: of a word that is none of a mark it is the text.
func wordBits(words string) []api.Bit {
	var l []api.Bit
	for word := range strings.FieldsSeq(words) {
		if n := slices.Index(strings.Fields(markWords), word); n >= 0 {
			l = append(l, of(n+1))
		} else {
			l = append(l, text(word))
		}
	}
	return l
}

// outside are numbers below 0, and n and above it. Those that differ from a number within by a
// power of 2 would be within, if they were cut short.
func outside(n int) []int {
	return []int{math.MinInt, math.MinInt + 1, math.MinInt + 6, math.MinInt32, -1 << 32, -1<<32 + 6, -256, -250, -128, -n, -7, -6, -2, -1, n, n + 1, 2 * n, 10 * n, n + 128, n + 256, n + 1<<16, n + math.MaxInt32, 1<<32 + n, 1<<62 + n, math.MaxInt - 1, math.MaxInt}
}

// oddMarks are those that there are not, among them each one that there is, with more ahead.
func oddMarks() []int {
	l := outside(10)
	for mark := range 10 {
		l = append(l, mark+10, mark+16, mark+128, mark+256, mark+1<<16, mark+1<<32, mark-10, mark-16, mark-256, mark-1<<16, mark-1<<32, mark+math.MinInt)
	}
	return l
}

// oddTexts are of bytes of which none begins a source character, so that each one is a column.
func oddTexts() []string {
	return []string{"\x00", "\x08", "\x0b", "\x1f", "\x80", "\xbf", "\xc0", "\xc3", "\xe9", "\xff", "\xfe\xff", "\xc0\x80", "\xc1\xbf", "\xc3\xc3", "\xe0\x80\x80", "\xe0\x9f\xbf", "\xe2\x82", "\xed\xa0\x80", "\xed\xbf\xbf", "\xef\xbf", "\xf0\x80\x80\x80", "\xf0\x8f\xbf\xbf", "\xf0\x9f\x98", "\xf4\x90\x80\x80", "\xf5\x80\x80\x80", "\xf8\x88\x80\x80\x80", "\x00\x00\x00"}
}

// brief is the beginning of some bits, in words.
func brief(l []api.Bit) string {
	var all []string
	for _, b := range l[:min(len(l), 40)] {
		switch words := strings.Fields(markWords); {
		case b.Mark == 0:
			all = append(all, strconv.Quote(b.Text))
		case b.Mark > 0 && b.Mark < 10:
			all = append(all, words[b.Mark-1])
		default:
			all = append(all, strconv.Itoa(b.Mark))
		}
	}
	return strings.Join(all, " ")
}

func isCols(t *testing.T, s string, want int) {
	t.Helper()
	if got := Cols(s); got != want {
		t.Errorf("Cols(%.40q) = %d, not %d", s, got, want)
	}
}

func isFlat(t *testing.T, b api.Bit, want string, is bool) {
	t.Helper()
	if got, so := Flat(b); got != want || so != is {
		t.Errorf("Flat(%v) = %q, %v, not %q, %v", b, got, so, want, is)
	}
}

func isBreak(t *testing.T, b api.Bit, want bool) {
	t.Helper()
	if got := Breaks(b); got != want {
		t.Errorf("Breaks(%v) = %v", b, got)
	}
}

func isMatch(t *testing.T, l []api.Bit, i, want int) {
	t.Helper()
	kept := slices.Clone(l)
	if got := Match(l, i); got != want {
		t.Errorf("Match(%s, %d) = %d, not %d", brief(l), i, got, want)
	}
	if !slices.Equal(l, kept) {
		t.Errorf("%s was made %s", brief(kept), brief(l))
	}
}

func isNeed(t *testing.T, l []api.Bit, i, want int) {
	t.Helper()
	kept := slices.Clone(l)
	if got := Need(l, i); got != want {
		t.Errorf("Need(%s, %d) = %d, not %d", brief(l), i, got, want)
	}
	if !slices.Equal(l, kept) {
		t.Errorf("%s was made %s", brief(kept), brief(l))
	}
}

// group is the match and the need of a place that has an MkOpen.
type group struct{ match, need int }

// isGrouped asks for the match and the need of each place of l, and of some that are none: just
// those of groups have any.
func isGrouped(t *testing.T, l []api.Bit, groups map[int]group) {
	t.Helper()
	for i := range l {
		want, is := groups[i]
		if !is {
			want = group{-1, -1}
		}
		isMatch(t, l, i, want.match)
		isNeed(t, l, i, want.need)
	}
	isNoPlace(t, l)
}

func isNoPlace(t *testing.T, l []api.Bit) {
	t.Helper()
	for _, i := range outside(len(l)) {
		isMatch(t, l, i, -1)
		isNeed(t, l, i, -1)
	}
}

// flatSaid is Flat by the chapter's words, marks by their numbers.
func flatSaid(b api.Bit) (string, bool) {
	switch b.Mark {
	case 0:
		return b.Text, true
	case 1, 2:
		return " ", true
	case 4:
		return ", ", true
	case 3, 6, 7, 8, 9:
		return "", true
	}
	return "", false
}

// matchSaid is Match by the chapter's words, each place for itself.
func matchSaid(l []api.Bit, i int) int {
	if i < 0 || i >= len(l) || l[i].Mark != 6 {
		return -1
	}
	for k := i + 1; k < len(l); k++ {
		opens, closes := 0, 0
		for _, b := range l[i : k+1] {
			if b.Mark == 6 {
				opens++
			}
			if b.Mark == 7 {
				closes++
			}
		}
		if l[k].Mark == 7 && opens == closes {
			return k
		}
	}
	return -1
}

// needSaid is Need by the chapter's words.
func needSaid(l []api.Bit, i int) int {
	match := matchSaid(l, i)
	if match == -1 {
		return -1
	}
	n := 0
	for _, b := range l[i+1 : match] {
		s, is := flatSaid(b)
		if !is {
			return -1
		}
		n += utf8.RuneCountInString(s)
	}
	for _, b := range l[match+1:] {
		switch b.Mark {
		case 0:
			n += utf8.RuneCountInString(b.Text)
		case 1:
			n++
		case 2, 3, 4, 5:
			return n
		}
	}
	return n
}

func TestP17_1Cols(t *testing.T) {
	for s, n := range map[string]int{
		"":                       0,
		"a":                      1,
		" ":                      1,
		"\n":                     1,
		"\t":                     1,
		"\r\n":                   2,
		"\x7f":                   1,
		"abc":                    3,
		"a b":                    3,
		"é":                      1,
		"\u0080":                 1,
		"\u07ff":                 1,
		"\u0800":                 1,
		"\u20ac":                 1,
		"\ud7ff":                 1,
		"\ue000":                 1,
		"\ufffd":                 1,
		"\uffff":                 1,
		"\U00010000":             1,
		"\U0001f600":             1,
		"\U0010ffff":             1,
		"e\u0301":                2,
		"aé\u20ac\U0001f600":     4,
		"\U0001f600\u20acéa":     4,
		"éé":                     2,
		"\u20ac\u20ac\u20ac":     3,
		"\U0001f600 \U0001f600 ": 4,
	} {
		isCols(t, s, n)
		isCols(t, s+s, 2*n)
		isCols(t, "b"+s+"c", n+2)
	}
}

// Each character is one column, alone and among others; what is none has as many as bytes.
func TestP17_1ColsEachCharacter(t *testing.T) {
	for r := range 1114112 {
		s := utf.Put(r)
		if s == "" {
			continue
		}
		if n := Cols(s); n != 1 {
			t.Errorf("Cols of %d is %d", r, n)
		}
		if n := Cols("\xff" + s + "\xc3"); n != 3 {
			t.Errorf("Cols of %d among others is %d", r, n)
		}
	}
}

// Bytes that are no character: alone, ahead, in the middle, behind, and all of these.
func TestP17_1ColsNoCharacter(t *testing.T) {
	for _, s := range oddTexts() {
		n := len(s)
		isCols(t, s, n)
		isCols(t, s+"ab", n+2)
		isCols(t, "a"+s+"b", n+2)
		isCols(t, "ab"+s, n+2)
		isCols(t, s+"\u20ac"+s, 2*n+1)
		isCols(t, "é"+s+"\U0001f600", n+2)
		isCols(t, s+"é"+s+"é"+s, 3*n+2)
	}
	for b := range 256 {
		isCols(t, string([]byte{byte(b)}), 1)
		isCols(t, "a"+string([]byte{byte(b)})+"b", 3)
	}
}

// Characters that are cut short have as many columns as bytes are left, at the end, and where a
// byte stands behind that does not belong to them.
func TestP17_1ColsCutShort(t *testing.T) {
	for _, s := range []string{"é", "\u0080", "\u0800", "\u20ac", "\ud7ff", "\ufffd", "\U00010000", "\U0001f600", "\U0010ffff"} {
		for n := 1; n < len(s); n++ {
			isCols(t, s[:n], n)
			isCols(t, "a\u20ac"+s[:n], n+2)
			isCols(t, s[:n]+"a", n+1)
			isCols(t, s[:n]+s, n+1)
			isCols(t, s[:n]+"\xff", n+1)
			isCols(t, s[n:], len(s)-n)
			isCols(t, s[n:]+s, len(s)-n+1)
		}
	}
}

// All short texts of some bytes, held against the library's count, which has one for each byte
// that is of no character, too.
func TestP17_1ColsAllShort(t *testing.T) {
	const bytes = "\x00a\n\x7f\x80\x90\xa0\xbf\xc0\xc3\xe0\xe2\xed\xf0\xf4\xff"
	texts := []string{""}
	for len(texts) > 0 && len(texts[0]) < 5 {
		var longer []string
		for _, s := range texts {
			if n := Cols(s); n != utf8.RuneCountInString(s) {
				t.Errorf("Cols(%q) = %d", s, n)
			}
			if len(s) == 4 {
				continue
			}
			for i := range len(bytes) {
				longer = append(longer, s+bytes[i:i+1])
			}
		}
		texts = longer
	}
}

func TestP17_1ColsLong(t *testing.T) {
	const n = 300000
	for s, cols := range map[string]int{"a": 1, "é": 1, "\u20ac": 1, "\U0001f600": 1, "\xff": 1, "\xe2\x82": 2, "\xf0\x9f\x98": 3, "a\xc3\n": 3} {
		isCols(t, strings.Repeat(s, n), n*cols)
	}
}

func TestP17_1Flat(t *testing.T) {
	for _, s := range append(oddTexts(), "", "a", " ", ", ", "a b", "\n", "é", strings.Repeat("ab\n", 10000)) {
		isFlat(t, api.Bit{Mark: api.MkText, Text: s}, s, true)
		isFlat(t, api.Bit{Mark: api.MkSpace, Text: s}, " ", true)
		isFlat(t, api.Bit{Mark: api.MkLine, Text: s}, " ", true)
		isFlat(t, api.Bit{Mark: api.MkSoft, Text: s}, "", true)
		isFlat(t, api.Bit{Mark: api.MkComma, Text: s}, ", ", true)
		isFlat(t, api.Bit{Mark: api.MkHard, Text: s}, "", false)
		isFlat(t, api.Bit{Mark: api.MkOpen, Text: s}, "", true)
		isFlat(t, api.Bit{Mark: api.MkClose, Text: s}, "", true)
		isFlat(t, api.Bit{Mark: api.MkIn, Text: s}, "", true)
		isFlat(t, api.Bit{Mark: api.MkOut, Text: s}, "", true)
		for _, mark := range oddMarks() {
			isFlat(t, api.Bit{Mark: mark, Text: s}, "", false)
		}
	}
}

func TestP17_1Breaks(t *testing.T) {
	for _, s := range append(oddTexts(), "", "a", " ", "\n") {
		for _, mark := range []int{api.MkLine, api.MkSoft, api.MkComma, api.MkHard} {
			isBreak(t, api.Bit{Mark: mark, Text: s}, true)
		}
		for _, mark := range append(oddMarks(), api.MkText, api.MkSpace, api.MkOpen, api.MkClose, api.MkIn, api.MkOut) {
			isBreak(t, api.Bit{Mark: mark, Text: s}, false)
		}
	}
}

func TestP17_2Match(t *testing.T) {
	for words, matches := range map[string]map[int]int{
		"":                                       nil,
		"OPEN":                                   nil,
		"CLOSE":                                  nil,
		"a":                                      nil,
		"CLOSE OPEN":                             nil,
		"OPEN CLOSE":                             {0: 1},
		"OPEN a":                                 nil,
		"OPEN a CLOSE":                           {0: 2},
		"a OPEN b CLOSE c":                       {1: 3},
		"OPEN CLOSE CLOSE":                       {0: 1},
		"OPEN OPEN CLOSE":                        {1: 2},
		"OPEN OPEN CLOSE CLOSE":                  {0: 3, 1: 2},
		"OPEN CLOSE OPEN CLOSE":                  {0: 1, 2: 3},
		"OPEN a OPEN b CLOSE c CLOSE d":          {0: 6, 2: 4},
		"OPEN OPEN CLOSE OPEN CLOSE CLOSE":       {0: 5, 1: 2, 3: 4},
		"OPEN OPEN OPEN CLOSE CLOSE CLOSE":       {0: 5, 1: 4, 2: 3},
		"OPEN OPEN OPEN CLOSE":                   {2: 3},
		"CLOSE CLOSE OPEN CLOSE":                 {2: 3},
		"CLOSE OPEN CLOSE OPEN":                  {1: 2},
		"OPEN IN CLOSE OUT":                      {0: 2},
		"IN OPEN OUT CLOSE":                      {1: 3},
		"OPEN IN OUT CLOSE":                      {0: 3},
		"OPEN OUT OUT IN CLOSE":                  {0: 4},
		"OPEN IN OPEN IN CLOSE OUT OUT CLOSE":    {0: 7, 2: 4},
		"OPEN IN":                                nil,
		"OPEN OUT":                               nil,
		"IN OUT":                                 nil,
		"IN CLOSE":                               nil,
		"OPEN HARD ODD LINE SOFT COMMA SP CLOSE": {0: 7},
		"OPEN ODD OPEN HARD CLOSE ODD CLOSE":     {0: 6, 2: 4},
	} {
		l := wordBits(words)
		for i := range l {
			want, is := matches[i]
			if !is {
				want = -1
			}
			isMatch(t, l, i, want)
		}
		isNoPlace(t, l)
	}
}

// Places that have no MkOpen, each mark and some that there are not, with a MkClose behind.
func TestP17_2NoOpen(t *testing.T) {
	isNoPlace(t, nil)
	isNoPlace(t, []api.Bit{})
	for _, mark := range append(oddMarks(), 0, 1, 2, 3, 4, 5, 7, 8, 9) {
		isMatch(t, []api.Bit{of(mark), of(api.MkClose)}, 0, -1)
		isMatch(t, []api.Bit{of(mark), of(api.MkOpen), of(api.MkClose), of(api.MkClose)}, 0, -1)
		isMatch(t, []api.Bit{of(api.MkOpen), of(mark), of(api.MkClose)}, 1, -1)
		isNeed(t, []api.Bit{of(mark), of(api.MkClose)}, 0, -1)
		if mark != api.MkClose {
			isMatch(t, []api.Bit{of(api.MkOpen), of(mark), of(api.MkClose)}, 0, 2)
			isMatch(t, []api.Bit{of(api.MkOpen), of(mark)}, 0, -1)
			isNeed(t, []api.Bit{of(api.MkOpen), of(mark)}, 0, -1)
		}
	}
}

// A text on a mark that has none by right is nothing to Match.
func TestP17_2Texts(t *testing.T) {
	for _, s := range oddTexts() {
		l := []api.Bit{{Mark: api.MkOpen, Text: s}, text(s), {Mark: api.MkOpen, Text: s}, {Mark: api.MkClose, Text: "a"}, {Mark: api.MkClose, Text: s}}
		isMatch(t, l, 0, 4)
		isMatch(t, l, 2, 3)
		isMatch(t, l, 1, -1)
	}
}

func TestP17_3Example(t *testing.T) {
	l := []api.Bit{of(api.MkOpen), text("ab"), of(api.MkLine), text("c"), of(api.MkClose), text("d"), of(api.MkSoft), text("e")}
	isNeed(t, l, 0, 5)
	isMatch(t, l, 0, 4)
}

func TestP17_3Need(t *testing.T) {
	for words, groups := range map[string]map[int]group{
		"":                                          nil,
		"a":                                         nil,
		"OPEN":                                      nil,
		"OPEN a":                                    nil,
		"OPEN a LINE b":                             nil,
		"CLOSE a":                                   nil,
		"OPEN CLOSE":                                {0: {1, 0}},
		"OPEN a CLOSE":                              {0: {2, 1}},
		"OPEN abc CLOSE":                            {0: {2, 3}},
		"OPEN a SP b CLOSE":                         {0: {4, 3}},
		"OPEN a LINE b CLOSE":                       {0: {4, 3}},
		"OPEN a SOFT b CLOSE":                       {0: {4, 2}},
		"OPEN a COMMA b CLOSE":                      {0: {4, 4}},
		"OPEN LINE SOFT COMMA SP IN OUT CLOSE":      {0: {7, 4}},
		"OPEN HARD CLOSE":                           {0: {2, -1}},
		"OPEN ab HARD CLOSE":                        {0: {3, -1}},
		"OPEN HARD ab CLOSE cd":                     {0: {3, -1}},
		"OPEN ODD CLOSE":                            {0: {2, -1}},
		"OPEN ab ODD CLOSE":                         {0: {3, -1}},
		"OPEN ODD ab CLOSE":                         {0: {3, -1}},
		"OPEN OPEN HARD CLOSE a CLOSE":              {0: {5, -1}, 1: {3, -1}},
		"OPEN OPEN a CLOSE HARD CLOSE":              {0: {5, -1}, 1: {3, 1}},
		"OPEN HARD OPEN a CLOSE CLOSE b":            {0: {5, -1}, 2: {4, 2}},
		"HARD OPEN a CLOSE":                         {1: {3, 1}},
		"aaaa SP OPEN b CLOSE":                      {2: {4, 1}},
		"OPEN a CLOSE bb":                           {0: {2, 3}},
		"OPEN a CLOSE SP":                           {0: {2, 2}},
		"OPEN a CLOSE SP bb SP c":                   {0: {2, 6}},
		"OPEN a CLOSE bb LINE ccc":                  {0: {2, 3}},
		"OPEN a CLOSE bb SOFT ccc":                  {0: {2, 3}},
		"OPEN a CLOSE bb COMMA ccc":                 {0: {2, 3}},
		"OPEN a CLOSE bb HARD ccc":                  {0: {2, 3}},
		"OPEN a CLOSE LINE ccc":                     {0: {2, 1}},
		"OPEN a CLOSE SOFT ccc":                     {0: {2, 1}},
		"OPEN a CLOSE COMMA ccc":                    {0: {2, 1}},
		"OPEN a CLOSE HARD ccc":                     {0: {2, 1}},
		"OPEN a CLOSE SP SP LINE SP":                {0: {2, 3}},
		"OPEN a CLOSE IN bb OUT c ODD dd CLOSE e":   {0: {2, 7}},
		"OPEN a CLOSE OPEN bb CLOSE SP cc":          {0: {2, 6}, 3: {5, 5}},
		"OPEN a CLOSE OPEN bb SOFT cc CLOSE dd":     {0: {2, 3}, 3: {7, 6}},
		"OPEN a CLOSE CLOSE OPEN bb LINE c":         {0: {2, 3}},
		"OPEN a CLOSE ODD HARD b":                   {0: {2, 1}},
		"OPEN a CLOSE ODD b HARD c":                 {0: {2, 2}},
		"OPEN a CLOSE b LINE c HARD d":              {0: {2, 2}},
		"OPEN a OPEN b LINE c CLOSE d CLOSE e":      {0: {8, 6}, 2: {6, 5}},
		"OPEN a OPEN b CLOSE LINE d CLOSE e":        {0: {7, 5}, 2: {4, 1}},
		"OPEN a OPEN b CLOSE d CLOSE e SOFT f":      {0: {6, 4}, 2: {4, 3}},
		"OPEN OPEN CLOSE OPEN CLOSE CLOSE":          {0: {5, 0}, 1: {2, 0}, 3: {4, 0}},
		"OPEN ( IN SOFT a COMMA b OUT SOFT ) CLOSE": {0: {10, 6}},
		"f OPEN ( IN SOFT a : SP OPEN [ IN SOFT 1 COMMA 2 OUT SOFT ] CLOSE OUT SOFT ) CLOSE SP { IN HARD g": {1: {22, 13}, 8: {18, 6}},
	} {
		isGrouped(t, wordBits(words), groups)
	}
}

// Characters of one, two, three and four bytes are a column each, between and behind, and so is
// each byte that is none; a character whose bytes are those of two texts is none.
func TestP17_3Columns(t *testing.T) {
	for s, n := range map[string]int{"": 0, "a": 1, "é": 1, "\u20ac": 1, "\U0001f600": 1, "aé\u20ac\U0001f600": 4, "\xff": 1, "\xe2\x82": 2, "\n": 1, "\x00\x00": 2, "éé\xc3": 3} {
		l := []api.Bit{of(api.MkOpen), text(s), of(api.MkClose)}
		isGrouped(t, l, map[int]group{0: {2, n}})
		l = []api.Bit{text(s), of(api.MkOpen), of(api.MkClose), text(s), of(api.MkLine), text(s)}
		isGrouped(t, l, map[int]group{1: {2, n}})
		l = []api.Bit{of(api.MkOpen), text(s), of(api.MkComma), text(s), of(api.MkClose), text(s), of(api.MkSpace), text(s)}
		isGrouped(t, l, map[int]group{0: {4, 4*n + 3}})
	}
	for _, s := range []string{"é", "\u20ac", "\U0001f600"} {
		for i := 1; i < len(s); i++ {
			isNeed(t, []api.Bit{of(api.MkOpen), text(s[:i]), text(s[i:]), of(api.MkClose)}, 0, len(s))
			isNeed(t, []api.Bit{of(api.MkOpen), text(s[:i]), of(api.MkClose), text(s[i:])}, 0, len(s))
			isNeed(t, []api.Bit{of(api.MkOpen), of(api.MkClose), text(s[:i]), of(api.MkIn), text(s[i:])}, 0, len(s))
		}
	}
}

// What a mark other than MkText has as its text is counted nowhere.
func TestP17_3TextsOfMarks(t *testing.T) {
	flat := map[int]int{api.MkSpace: 1, api.MkLine: 1, api.MkSoft: 0, api.MkComma: 2, api.MkIn: 0, api.MkOut: 0}
	for mark, n := range flat {
		isNeed(t, []api.Bit{{Mark: api.MkOpen, Text: "abc"}, {Mark: mark, Text: "abcd"}, {Mark: api.MkClose, Text: "abc"}}, 0, n)
		isNeed(t, []api.Bit{of(api.MkOpen), {Mark: api.MkOpen, Text: "abc"}, {Mark: mark, Text: "abcd"}, {Mark: api.MkClose, Text: "abc"}, text("a"), of(api.MkClose)}, 0, n+1)
	}
	isNeed(t, []api.Bit{of(api.MkOpen), of(api.MkClose), {Mark: api.MkSpace, Text: "abc"}}, 0, 1)
	for _, mark := range []int{api.MkLine, api.MkSoft, api.MkComma, api.MkHard} {
		isNeed(t, []api.Bit{of(api.MkOpen), of(api.MkClose), {Mark: mark, Text: "abc"}, text("d")}, 0, 0)
	}
	for _, mark := range append(oddMarks(), api.MkOpen, api.MkClose, api.MkIn, api.MkOut) {
		isNeed(t, []api.Bit{of(api.MkOpen), of(api.MkClose), {Mark: mark, Text: "abc"}, text("d")}, 0, 1)
	}
}

// Marks that there are not: between, there is no need; behind, they are passed over; behind what
// breaks, and ahead of the group, they are nothing to it.
func TestP17_3OddMarks(t *testing.T) {
	l := wordBits("OPEN a LINE OPEN b CLOSE CLOSE cc LINE d")
	for _, mark := range oddMarks() {
		for at := range len(l) + 1 {
			outer, inner := group{6, 5}, group{5, 3}
			if 1 <= at && at <= outer.match {
				outer.need = -1
			}
			if 4 <= at && at <= inner.match {
				inner.need = -1
			}
			for _, s := range []string{"", "abc", "\xff"} {
				with := slices.Insert(slices.Clone(l), at, api.Bit{Mark: mark, Text: s})
				opens := places(with, api.MkOpen)
				isNeed(t, with, opens[0], outer.need)
				isNeed(t, with, opens[1], inner.need)
				isNeed(t, with, at, -1)
			}
		}
	}
}

// places are where bits have a mark.
func places(l []api.Bit, mark int) []int {
	var all []int
	for i, b := range l {
		if b.Mark == mark {
			all = append(all, i)
		}
	}
	return all
}

// All short lists of each mark, texts, and a mark that there is not, held against the words.
func TestAllShort(t *testing.T) {
	each(4, wordBits("bb SP LINE SOFT COMMA HARD OPEN CLOSE IN OUT ODD"), func(l []api.Bit) { isSaid(t, l) })
	each(6, wordBits("bb COMMA HARD OPEN CLOSE IN"), func(l []api.Bit) { isSaid(t, l) })
	each(11, wordBits("OPEN CLOSE"), func(l []api.Bit) { isSaid(t, l) })
}

// each calls f with all lists of at most n of some bits.
func each(n int, of []api.Bit, f func([]api.Bit)) {
	var longer func(l []api.Bit)
	longer = func(l []api.Bit) {
		f(l)
		if len(l) == n {
			return
		}
		for _, b := range of {
			longer(append(l, b))
		}
	}
	longer(nil)
}

func isSaid(t *testing.T, l []api.Bit) {
	t.Helper()
	for i := -1; i <= len(l); i++ {
		if match := Match(l, i); match != matchSaid(l, i) {
			t.Errorf("Match(%v, %d) = %d", l, i, match)
		}
		if need := Need(l, i); need != needSaid(l, i) {
			t.Errorf("Need(%v, %d) = %d", l, i, need)
		}
	}
}

func documents() []string {
	return []string{
		"{a}",
		"{a(b:1 c:-2.5e3)@d(e:[1 2[3]]){f}}",
		"{a(b:{c:[] d:{e:\"f g\"}} h:\"é\\u20ac\"){i(j:$k)l(m:[])}}",
		"mutation a($b:[c!]!=1@d $e:f)@g(h:$b){i}",
		"{...a@b(c:d)...on e{f(g:[h i])}}",
		"\"\"\"t\"\"\" type a implements&b&c@d(e:[[]]){\"e\"f(\"g\"h:i=2 j:k=[1 2]):l! m(n:o):[p]@q}",
		"input a{b:c={d:[] e:{}}\"e\"f:g} union h=|i|j enum k{l@m(n:1)o}",
	}
}

// printed are the bits of a source.
func printed(t *testing.T, src string) []api.Bit {
	t.Helper()
	l, e, at := lex.Lex(src)
	if e != api.OK {
		t.Fatalf("%q: error %d at %d", src, e, at)
	}
	rules, at := parse.Parse(kind.All(l))
	if at != -1 {
		t.Fatalf("%q fails at %d", src, at)
	}
	bits, is := mark.Bits(rules, l)
	if !is {
		t.Fatalf("%q has no bits", src)
	}
	return bits
}

// Bits as they are printed, whole and cut at each place, ahead and behind.
func TestDocuments(t *testing.T) {
	needs := 0
	for _, src := range documents() {
		l := printed(t, src)
		for at := range l {
			isSaid(t, l[:at])
			isSaid(t, l[at:])
			isWithin(t, l[at:])
			if Need(l, at) >= 0 {
				needs++
			}
		}
	}
	if needs < 20 {
		t.Errorf("only %d groups have a need", needs)
	}
}

// isWithin asks of each group of l that has a need whether the groups within have one, without
// what stands behind, that is no greater. It answers how many there were.
func isWithin(t *testing.T, l []api.Bit) int {
	t.Helper()
	inner := 0
	for i := range l {
		outer, match := Need(l, i), Match(l, i)
		if outer == -1 {
			continue
		}
		if alone := Need(l[:match+1], i); alone < 0 || alone > outer {
			t.Errorf("%v: the group at %d needs %d, alone %d", l, i, outer, alone)
		}
		for k := i + 1; k < match; k++ {
			if l[k].Mark != api.MkOpen {
				continue
			}
			inner++
			end := Match(l, k)
			if end <= k || end >= match {
				t.Errorf("%v: the group at %d ends at %d, that within, at %d, at %d", l, i, match, k, end)
				continue
			}
			if need := Need(l[k:end+1], 0); need < 0 || need > outer {
				t.Errorf("%v: the group at %d needs %d, that within, at %d, %d", l, i, outer, k, need)
			}
			if need := Need(l, k); need < 0 || need > outer {
				t.Errorf("%v: the group at %d needs %d, that within, at %d, with what stands behind %d", l, i, outer, k, need)
			}
		}
	}
	return inner
}

func TestP17_4Within(t *testing.T) {
	inner := 0
	each(5, wordBits("bb SP LINE SOFT COMMA HARD OPEN CLOSE IN OUT ODD"), func(l []api.Bit) { inner += isWithin(t, l) })
	each(7, wordBits("bb COMMA HARD OPEN CLOSE"), func(l []api.Bit) { inner += isWithin(t, l) })
	for _, src := range documents() {
		inner += isWithin(t, printed(t, src))
	}
	if inner < 1000 {
		t.Errorf("only %d groups within others", inner)
	}
}

// The need of what stands within is that of all of it, put together of its parts.
func TestP17_4ByHand(t *testing.T) {
	l := wordBits("OPEN aa OPEN bb LINE OPEN c CLOSE CLOSE dd CLOSE ee SOFT f")
	for i, x := range map[int][2]int{0: {10, 8}, 2: {8, 4}, 5: {5, 1}} {
		isNeed(t, l, i, x[0])
		isNeed(t, l[i:Match(l, i)+1], 0, x[1])
	}
	l = wordBits("OPEN aa OPEN bb CLOSE HARD OPEN c CLOSE CLOSE")
	for i, n := range map[int]int{0: -1, 2: 2, 6: 1} {
		isNeed(t, l, i, n)
	}
}

func TestLong(t *testing.T) {
	const n = 100000
	open, end := []api.Bit{of(api.MkOpen)}, []api.Bit{of(api.MkClose)}
	deep := slices.Concat(slices.Repeat(open, n), []api.Bit{text("a")}, slices.Repeat(end, n))
	for i, match := range map[int]int{0: 2 * n, 1: 2*n - 1, n - 1: n + 1, n / 2: 2*n - n/2, n: -1, n + 1: -1, 2 * n: -1} {
		isMatch(t, deep, i, match)
		isNeed(t, deep, i, min(match, 1))
	}
	isMatch(t, deep[:2*n], 0, -1)
	isNeed(t, deep[:2*n], 0, -1)
	isMatch(t, deep[:2*n], 1, 2*n-1)
	isNeed(t, deep[:2*n], 1, 1)
	isMatch(t, slices.Repeat(open, n), 0, -1)
	isMatch(t, slices.Repeat(end, n), 0, -1)
	flat := slices.Concat(open, slices.Repeat(wordBits("abc COMMA IN"), n), end, slices.Repeat(wordBits("d SP OUT CLOSE"), n), wordBits("LINE e"))
	isMatch(t, flat, 0, 3*n+1)
	isNeed(t, flat, 0, 5*n+2*n)
	isNeed(t, append(flat[:3*n:3*n], of(api.MkHard), of(api.MkClose)), 0, -1)
	isNeed(t, []api.Bit{of(api.MkOpen), text(strings.Repeat("\u20ac", n)), of(api.MkClose), text(strings.Repeat("\xff\xfe", n))}, 0, 3*n)
	side := slices.Repeat(wordBits("OPEN a CLOSE"), n)
	isMatch(t, side, 3*n-3, 3*n-1)
	isNeed(t, side, 0, n)
	isNeed(t, side, 3*n-3, 1)
}

// A list that is a part of a greater one is read as it is, not beyond, and nothing is changed.
func TestPart(t *testing.T) {
	all := wordBits("OPEN OPEN a LINE bb CLOSE ccc CLOSE dd SOFT e CLOSE HARD")
	kept := slices.Clone(all)
	for from := range len(all) + 1 {
		for to := from; to <= len(all); to++ {
			part, alone := all[from:to], slices.Clone(all[from:to])
			for i := -1; i <= len(part)+1; i++ {
				if Match(part, i) != matchSaid(alone, i) || Need(part, i) != needSaid(alone, i) {
					t.Errorf("%v at %d, a part: %d, %d", alone, i, Match(part, i), Need(part, i))
				}
			}
		}
	}
	if !slices.Equal(all, kept) {
		t.Errorf("%v was made %v", kept, all)
	}
	isMatch(t, all[:7], 0, -1)
	isMatch(t, all[:8], 0, 7)
	isNeed(t, all[:7], 0, -1)
	isNeed(t, all[:8], 0, 7)
	isNeed(t, all[:9], 0, 9)
	isNeed(t, all[:8], 1, 7)
	isNeed(t, all[1:6], 0, 4)
}

// asked is all that the calls answer of some bits, as one text.
func asked(l []api.Bit) string {
	var all []string
	for i, b := range l {
		s, is := Flat(b)
		all = append(all, s, strconv.FormatBool(is), strconv.FormatBool(Breaks(b)), strconv.Itoa(Cols(b.Text)), strconv.Itoa(Match(l, i)), strconv.Itoa(Need(l, i)))
	}
	return strings.Join(all, " ")
}

func TestSameEachTime(t *testing.T) {
	first := map[string]string{}
	for range 20 {
		for _, src := range documents() {
			got := asked(printed(t, src))
			if first[src] == "" {
				first[src] = got
			}
			if got != first[src] {
				t.Errorf("%q: %s, then %s", src, first[src], got)
			}
		}
	}
}

func TestAtOnce(t *testing.T) {
	l := wordBits("OPEN a LINE OPEN bb COMMA c CLOSE HARD CLOSE ODD IN dd SP OPEN e OUT SOFT CLOSE")
	want := asked(l)
	var all sync.WaitGroup
	for range 16 {
		all.Go(func() {
			for range 50 {
				if got := asked(l); got != want {
					t.Errorf("%s, not %s", got, want)
				}
			}
		})
	}
	all.Wait()
}
