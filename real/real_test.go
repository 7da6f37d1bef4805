package real

import (
	"math"
	"math/big"
	"regexp"
	"strconv"
	"strings"
	"testing"
)

// numberText, worthOf say the chapter's words once more, apart from the program's own.
var numberText = regexp.MustCompile(`^(-?)([0-9]+)(?:\.([0-9]+))?(?:[eE]([+-]?)([0-9]+))?$`)

func worthOf(s string) float64 {
	parts := numberText.FindStringSubmatch(s)
	if parts == nil {
		return math.NaN()
	}
	m, _ := new(big.Int).SetString(parts[2]+parts[3], 10)
	f := sizeOf(m, powerNumber(parts[4], parts[5])-len(parts[3]))
	if parts[1] == "-" && f == f {
		return math.Copysign(f, -1)
	}
	return f
}

func powerNumber(sign, digits string) int {
	e, ok := new(big.Int).SetString(digits, 10)
	if !ok {
		return 0
	}
	if top := big.NewInt(1000000); e.Cmp(top) > 0 {
		e = top
	}
	if sign == "-" {
		e.Neg(e)
	}
	return int(e.Int64())
}

func sizeOf(m *big.Int, x int) float64 {
	n := len(m.String())
	switch {
	case m.Sign() == 0:
		return 0
	case n+x > 400:
		return math.Inf(1)
	case n+x < -400:
		return 0
	case n > 15 || x > 22 || x < -22:
		return math.NaN()
	}
	ten := new(big.Int).Exp(big.NewInt(10), big.NewInt(int64(max(x, -x))), nil)
	worth := new(big.Rat).SetInt(m)
	if x < 0 {
		worth.Quo(worth, new(big.Rat).SetInt(ten))
	} else {
		worth.Mul(worth, new(big.Rat).SetInt(ten))
	}
	f, _ := worth.Float64()
	return f
}

// alike tells whether a and b are one float: any two NaNs are, 0 and the negative 0 are not.
func alike(a, b float64) bool {
	if a != a || b != b {
		return a != a && b != b
	}
	return math.Float64bits(a) == math.Float64bits(b)
}

func sameReal(t *testing.T, s string, want float64) {
	t.Helper()
	if got := Real(s); !alike(got, want) {
		t.Errorf("Real(%s) = %v, not %v", shown(s), got, want)
	}
}

func shown(s string) string {
	if len(s) > 60 {
		return strconv.Quote(s[:30]) + ".." + strconv.Quote(s[len(s)-20:])
	}
	return strconv.Quote(s)
}

// texts hands on every text of the bytes of set with up to n of them.
func texts(set string, n int, tell func(s string)) {
	var grow func(s []byte)
	grow = func(s []byte) {
		tell(string(s))
		if len(s) == n {
			return
		}
		for i := range len(set) {
			grow(append(s[:len(s):len(s)], set[i]))
		}
	}
	grow(nil)
}

func zeros(n int) string { return strings.Repeat("0", n) }

func minusZero() float64 { return math.Copysign(0, -1) }

func TestP3_1Ordinary(t *testing.T) {
	for _, x := range []struct {
		s    string
		want float64
	}{
		{"1.5e1", 15}, {"7", 7}, {"-7", -7}, {"10", 10}, {"42", 42}, {"-12", -12}, {"1.5", 1.5}, {"-2.25", -2.25},
		{"0.1", 0.1}, {"0.3", 0.3}, {"0.7", 0.7}, {"3.14159", 3.14159}, {"0.000001", 1e-6}, {"1500E-3", 1.5},
		{"1e2", 100}, {"1E2", 100}, {"1e+2", 100}, {"1E+2", 100}, {"1e-2", 0.01}, {"1E-2", 0.01}, {"-1e-2", -0.01},
		{"1e0", 1}, {"1e-0", 1}, {"1e+0", 1}, {"12.5e1", 125}, {"12.5e-1", 1.25}, {"1.0", 1}, {"1.00e2", 100},
		{"6.02e20", 6.02e20}, {"100", 100}, {"900719925474.993", 900719925474.993},
	} {
		sameReal(t, x.s, x.want)
	}
}

func TestP3_1Zero(t *testing.T) {
	for _, s := range []string{
		"0", "00", "0.0", "0.00", "000.000", "0e0", "0e5", "0e-5", "0E+5", "0e22", "0e23", "0e-23", "0e400", "0e401",
		"0e-401", "0e999999999999", "0e-999999999999", "0.0e1000000", zeros(500), "0." + zeros(500), zeros(20) + "e30",
	} {
		sameReal(t, s, 0)
		sameReal(t, "-"+s, minusZero())
	}
}

func TestP3_1Lengths(t *testing.T) {
	for _, x := range []struct {
		s    string
		want float64
	}{
		{"123456789012345", 123456789012345}, {"999999999999999", 999999999999999}, {"100000000000000", 1e14},
		{"1234567890123456", math.NaN()}, {"1000000000000000", math.NaN()}, {"12345678901234567", math.NaN()},
		{"-1234567890123456", math.NaN()}, {"12345678.9012345", 12345678.9012345}, {"12345678.90123456", math.NaN()},
		{"1.00000000000000", 1}, {"1.000000000000000", math.NaN()}, {"0.123456789012345", 0.123456789012345},
		{"0.1234567890123456", math.NaN()}, {"999999999999999e22", 999999999999999e22}, {"999999999999999e-22", 999999999999999e-22},
		{"1234567890123456e1", math.NaN()}, {"1234567890123456e-1", math.NaN()}, {"1e14", 1e14}, {"1e15", 1e15}, {"1e16", 1e16},
	} {
		sameReal(t, x.s, x.want)
	}
}

func TestP3_1Exponents(t *testing.T) {
	for e := -60; e <= 60; e++ {
		for _, m := range []string{"1", "3", "7", "17", "123456789012345", "999999999999999", "1.5", "0.25", "0.001"} {
			s := m + "e" + strconv.Itoa(e)
			sameReal(t, s, worthOf(s))
			sameReal(t, "-"+s, worthOf("-"+s))
		}
	}
	for _, x := range []struct {
		s    string
		want float64
	}{
		{"1e21", 1e21}, {"1e22", 1e22}, {"1e23", math.NaN()}, {"-1e22", -1e22}, {"-1e23", math.NaN()},
		{"1e-21", 1e-21}, {"1e-22", 1e-22}, {"1e-23", math.NaN()}, {"-1e-22", -1e-22},
		{"1.0e23", 1e23}, {"1.0e24", math.NaN()}, {"1.5e-21", 1.5e-21}, {"1.5e-22", math.NaN()},
		{"10e22", 1e23}, {"0.1e23", 1e22}, {"0.1e24", math.NaN()}, {"0.1e-21", 1e-22}, {"0.1e-22", math.NaN()},
		{"0.0000000000000000000001", 1e-22}, {"0.00000000000000000000001", math.NaN()},
		{"0.00000000000000000000001e1", 1e-22}, {"0.00000000000000000000001e23", 1},
	} {
		sameReal(t, x.s, x.want)
	}
}

func TestP3_1LengthAndExponent(t *testing.T) {
	inf := math.Inf(1)
	for _, x := range []struct {
		s    string
		want float64
	}{
		{"1e399", math.NaN()}, {"1e400", inf}, {"1e401", inf}, {"9e399", math.NaN()}, {"12e398", math.NaN()}, {"12e399", inf},
		{"1.2e399", math.NaN()}, {"1.2e400", inf}, {"0.1e400", math.NaN()}, {"0.1e401", inf}, {"123456789012345e385", math.NaN()},
		{"123456789012345e386", inf}, {"1" + zeros(399), math.NaN()}, {"1" + zeros(400), inf}, {"12345678901234567e384", inf},
		{"12345678901234567e383", math.NaN()}, {"1e-401", math.NaN()}, {"1e-402", 0}, {"1e-400", math.NaN()}, {"12e-402", math.NaN()},
		{"12e-403", 0}, {"0.1e-400", math.NaN()}, {"0.1e-401", 0}, {"0." + zeros(400) + "1", math.NaN()}, {"0." + zeros(401) + "1", 0},
		{"12345678901234567e-417", math.NaN()}, {"12345678901234567e-418", 0}, {"1e999", inf}, {"1e-999", 0},
		{"1" + zeros(500) + "e-101", math.NaN()}, {"1" + zeros(500) + "e-100", inf},
	} {
		sameReal(t, x.s, x.want)
		if x.want == x.want {
			sameReal(t, "-"+x.s, math.Copysign(x.want, -1))
		} else {
			sameReal(t, "-"+x.s, x.want)
		}
	}
}

func TestP3_1ExponentsOfManyDigits(t *testing.T) {
	inf := math.Inf(1)
	for _, x := range []struct {
		s    string
		want float64
	}{
		{"1e99999999999", inf}, {"-1e99999999999", -inf}, {"1e-99999999999", 0}, {"-1e-99999999999", minusZero()},
		{"1e9223372036854775807", inf}, {"1e9223372036854775808", inf}, {"1e18446744073709551616", inf},
		{"1e18446744073709551618", inf}, {"1e4294967298", inf}, {"1e-4294967298", 0}, {"1e-18446744073709551618", 0},
		{"1e1" + zeros(5000), inf}, {"1e-1" + zeros(5000), 0}, {"1e+" + strings.Repeat("9", 5000), inf},
		{"1e" + zeros(5000), 1}, {"1e" + zeros(5000) + "2", 100}, {"1e-" + zeros(5000) + "2", 0.01},
	} {
		sameReal(t, x.s, x.want)
	}
}

// TestP3_1ExponentAtMost has so many digits behind the dot, or ahead of it, that it shows
// at which exponent it counts no further.
func TestP3_1ExponentAtMost(t *testing.T) {
	small := "0." + zeros(1000000) + "1" // 10 to the power of -1000001
	great := "1" + zeros(1000399)        // of 1000400 digits
	for _, x := range []struct {
		s    string
		want float64
	}{
		{small + "e999998", 0.001}, {small + "e999999", 0.01}, {small + "e1000000", 0.1}, {small + "e1000001", 0.1},
		{small + "e1000003", 0.1}, {small + "e9999999999999999999999", 0.1}, {small + "e-1000003", 0},
		{great + "e-999999", math.Inf(1)}, {great + "e-1000000", math.NaN()}, {great + "e-1000001", math.NaN()},
		{great + "e-2000000", math.NaN()}, {great + "e-99999999999999999999", math.NaN()}, {great + "0e-99999999", math.Inf(1)},
	} {
		sameReal(t, x.s, x.want)
	}
}

func TestP3_1MinusAhead(t *testing.T) {
	texts("0159.e-", 6, func(s string) {
		f := Real(s)
		if f == f && math.Signbit(f) != (s[0] == '-') {
			t.Errorf("Real(%q) = %v: its sign", s, f)
		}
		if f != f && math.Signbit(f) {
			t.Errorf("Real(%q) is a negative NaN", s)
		}
	})
}

func TestP3_1Texts(t *testing.T) {
	texts("-+.eE0159a ", 5, func(s string) { sameReal(t, s, worthOf(s)) })
	texts("-.e029", 7, func(s string) { sameReal(t, s, worthOf(s)) })
	for whole := 1; whole <= 17; whole++ {
		for part := 0; part <= 17; part++ {
			for e := -45; e <= 45; e++ {
				s := "98765432109876543"[:whole] + ("." + "12345678901234567"[:part])[:min(part, 1)*(part+1)] + "e" + strconv.Itoa(e)
				sameReal(t, s, worthOf(s))
			}
		}
	}
}

func TestP3_2Sort(t *testing.T) {
	for _, x := range []struct {
		f        float64
		sort     int
		negative bool
	}{
		{math.NaN(), 0, false}, {math.Copysign(math.NaN(), -1), 0, false}, {math.Float64frombits(0x7ff0000000000001), 0, false},
		{math.Float64frombits(0xffffffffffffffff), 0, false}, {math.Inf(1), 1, false}, {math.Inf(-1), 1, true},
		{0, 2, false}, {minusZero(), 2, true}, {1, 3, false}, {-1, 3, true}, {0.1, 3, false}, {-0.1, 3, true},
		{math.MaxFloat64, 3, false}, {-math.MaxFloat64, 3, true}, {math.SmallestNonzeroFloat64, 3, false},
		{-math.SmallestNonzeroFloat64, 3, true}, {0x1p-1022, 3, false}, {-0x1p-1022, 3, true}, {1e-310, 3, false}, {-1e-310, 3, true},
	} {
		if got := Sort(x.f); got != x.sort {
			t.Errorf("Sort(%v) = %d, not %d", x.f, got, x.sort)
		}
		if got := Negative(x.f); got != x.negative {
			t.Errorf("Negative(%v) = %v", x.f, got)
		}
	}
}

func TestP3_2Same(t *testing.T) {
	all := []float64{
		math.NaN(), math.Inf(1), math.Inf(-1), 0, minusZero(), 1, -1, 0.1, -0.1, math.Nextafter(1, 2), math.MaxFloat64,
		-math.MaxFloat64, math.SmallestNonzeroFloat64, -math.SmallestNonzeroFloat64,
	}
	for i, a := range all {
		for j, b := range all {
			if got := Same(a, b); got != (i == j) {
				t.Errorf("Same(%v, %v) = %v", a, b, got)
			}
		}
	}
	others := []float64{math.Copysign(math.NaN(), -1), math.Float64frombits(0x7ff0000000000001), math.Float64frombits(0xfff8000000000005)}
	for _, nan := range others {
		if !Same(nan, math.NaN()) || !Same(math.NaN(), nan) || Same(nan, 0) || Same(0, nan) {
			t.Errorf("%x: a NaN is as any other one, and as nothing else", math.Float64bits(nan))
		}
	}
}

func TestP3_3NoNumbersText(t *testing.T) {
	for _, s := range []string{
		"", "-", "+", ".", "e", "E", "-.", "-e", ".e", // no digit
		".5", "-.5", "1.", "-1.", "1..5", "1.e5", "1.-5", ".e1", "1.2.", "1.2.3", // a dot without digits, or two
		"1e", "1E", "1e+", "1e-", "1.5e", "1.5e+", "1e5e", "1e5e5", "e5", "1e.5", "1e1.5", "1e+-5", "1e--5", "1e++5", "1e5-", // an e likewise
		"--1", "-+1", "+1", "+0", "1-", "1-1", "1+1", "- 1", // more signs than one, or elsewhere
		"a", "1a", "a1", "1 ", " 1", "1 2", "1\n", "\n1", "1\x00", "\x001", "1,5", "1_000", "0x1", "0b1", "0o7", "1f", "1d", "1p3", "1i",
		"NaN", "nan", "Inf", "-Inf", "inf", "+Inf", "Infinity", "1e5\xff", "\xff", "\xc3\xa9", "\xd9\xa1", "\xef\xbc\x91", "1\xe2\x88\x922",
		"1e5 ", "1/", "1:", "/", ":",
	} {
		if f := Real(s); Sort(f) != 0 {
			t.Errorf("Real(%q) = %v", s, f)
		}
	}
	for b := range 256 {
		c := string([]byte{byte(b)})
		for _, s := range []string{c, c + "1", "1" + c, "1" + c + "1", "1.5" + c, "1.5" + c + "2", "1e1" + c, "1e" + c + "1", "1." + c + "2"} {
			sameReal(t, s, worthOf(s))
		}
	}
}

func TestP3_3MinusMakesItNegative(t *testing.T) {
	texts("0259.eE+", 5, func(s string) {
		f, g := Real(s), Real("-"+s)
		if Sort(f) != Sort(g) || Sort(f) != 0 && (Negative(f) || !Negative(g) || !Same(f, -g)) {
			t.Errorf("Real(%q) = %v, and with a minus %v", s, f, g)
		}
	})
}

func TestP3_3ZerosAhead(t *testing.T) {
	for _, s := range []string{
		"0", "7", "12", "1.5", "0.1", "00.10", "0.0", "123456789012345", "1234567890123456", "999999999999999e22", "1e22", "1e23", "1e-22", "1e-23",
		"1e399", "1e400", "1e-401", "1e-402", "1e999999999999", "1.5e1", "12345678.9012345", "1.", "1e", "1a", "5e-7",
	} {
		for _, n := range []int{1, 2, 14, 15, 16, 17, 399, 400, 401, 5000} {
			if got, want := Real(zeros(n)+s), Real(s); !Same(got, want) {
				t.Errorf("Real(%q) = %v, and with %d zeros ahead %v", s, want, n, got)
			}
			if got, want := Real("-"+zeros(n)+s), Real("-"+s); !Same(got, want) {
				t.Errorf("Real(%q) = %v, and with %d zeros ahead %v", "-"+s, want, n, got)
			}
		}
	}
}

// TestP1 calls at odd arguments, twice: each call ends, and answers the same again.
func TestP1(t *testing.T) {
	for _, s := range []string{"", "-", "\x00", strings.Repeat("-", 100000), strings.Repeat("9", 100000), "1." + strings.Repeat("7", 100000), "1e" + strings.Repeat("9", 100000), strings.Repeat("1e1", 30000)} {
		if !Same(Real(s), Real(s)) {
			t.Errorf("%s: another answer", shown(s))
		}
		sameReal(t, s, worthOf(s))
	}
	for _, bits := range []uint64{0, 1, 1 << 63, 0x7ff0000000000000, 0xfff0000000000000, 0x7ff8000000000000, math.MaxUint64, 1<<63 + 1} {
		f := math.Float64frombits(bits)
		if Sort(f) != Sort(f) || Negative(f) != Negative(f) || !Same(f, f) {
			t.Errorf("%x: another answer", bits)
		}
	}
}
