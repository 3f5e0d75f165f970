package words_test

import (
	"math"
	"math/big"
	"math/rand"
	"regexp"
	"strconv"
	"strings"
	"testing"

	"landaid/api"
	"landaid/words"
)

// longestName is a name with as many bytes as a name may have.
const longestName = "abcdefghij01"

// P2.1: names, and what is none.
func TestP21Name(t *testing.T) {
	for _, s := range []string{"a", "z", "aa", "a0", "z9", "a1b2", "wheat", "x0000", longestName} {
		if !words.Name(s) {
			t.Errorf("%q is no name", s)
		}
	}
	for _, s := range []string{
		"", "0", "9", "0a", "1a", "007", "A", "Z", "aA", "Aa", "a b", " a", "a ", "a-b", "-a", "a_b", "_", "a#",
		"a\n", "\x00", "a\x00", "\xe4", "ä", "aä", "a٣", "a\xff",
		longestName + "2", longestName + "z", "0" + longestName, strings.Repeat("a", 1000),
	} {
		if words.Name(s) {
			t.Errorf("%q is a name", s)
		}
	}
}

// P2.1: the limit of the length counts bytes.
func TestP21NameLength(t *testing.T) {
	if len(longestName) != api.MaxName {
		t.Fatalf("%q has %d bytes", longestName, len(longestName))
	}
	for n := range 3 * api.MaxName {
		want := n >= 1 && n <= api.MaxName
		if got := words.Name(strings.Repeat("q", n)); got != want {
			t.Errorf("a name of %d letters: %v", n, got)
		}
	}
}

// P2.1: every byte as the first one, in the middle, and as the last one.
func TestP21NameBytes(t *testing.T) {
	for c := range 256 {
		s := string([]byte{byte(c)})
		letter := strings.Contains("abcdefghijklmnopqrstuvwxyz", s)
		digit := strings.Contains("0123456789", s)
		if got := words.Name(s); got != letter {
			t.Errorf("%q: %v", s, got)
		}
		if got := words.Name(s + "b"); got != letter {
			t.Errorf("%q: %v", s+"b", got)
		}
		if got := words.Name("a" + s + "b"); got != (letter || digit) {
			t.Errorf("%q: %v", "a"+s+"b", got)
		}
		if got := words.Name("abcdefghijk" + s); got != (letter || digit) {
			t.Errorf("%q: %v", "abcdefghijk"+s, got)
		}
	}
}

// P2.1: numbers, each of them at its limits, and one below and above.
func TestP21Number(t *testing.T) {
	for _, c := range []struct {
		s           string
		least, most int
		want        int
		ok          bool
	}{
		{"0", 0, 0, 0, true},
		{"7", 0, 9, 7, true},
		{"9", 0, 9, 9, true},
		{"10", 0, 9, 0, false},
		{"10", 0, 10, 10, true},
		{"10", 11, 20, 0, false},
		{"10", 10, 20, 10, true},
		{"-1", 0, 9, 0, false},
		{"-1", -1, 9, -1, true},
		{"-5", -5, -5, -5, true},
		{"-5", -4, 9, 0, false},
		{"-5", -9, -6, 0, false},
		{"-10", -10, -1, -10, true},
		{"100", 0, 1000, 100, true},
		{"1024", 1024, 1024, 1024, true},
		{"0", 1, 9, 0, false},
		{"0", -9, -1, 0, false},
		{"5", 9, 0, 0, false},
		{"5", 6, 5, 0, false},
		{"5", math.MaxInt, math.MinInt, 0, false},
		{"9223372036854775807", math.MinInt, math.MaxInt, math.MaxInt, true},
		{"9223372036854775807", math.MaxInt, math.MaxInt, math.MaxInt, true},
		{"9223372036854775807", 0, math.MaxInt - 1, 0, false},
		{"9223372036854775806", 0, math.MaxInt - 1, math.MaxInt - 1, true},
		{"-9223372036854775808", math.MinInt, math.MaxInt, math.MinInt, true},
		{"-9223372036854775808", math.MinInt, math.MinInt, math.MinInt, true},
		{"-9223372036854775808", math.MinInt + 1, 0, 0, false},
		{"-9223372036854775807", math.MinInt + 1, 0, math.MinInt + 1, true},
	} {
		if n, ok := words.Number(c.s, c.least, c.most); n != c.want || ok != c.ok {
			t.Errorf("Number(%q, %d, %d): %d, %v; want %d, %v", c.s, c.least, c.most, n, ok, c.want, c.ok)
		}
	}
}

// P2.1: texts that are the decimal text of no integer.
func TestP21NumberForm(t *testing.T) {
	for _, s := range []string{
		"", " ", "-", "--", "--1", "+", "+1", "+0", "-0", "-00", "00", "01", "007", "-01", "-007", "- 1", "1-", "1-1", "-+1", "+-1",
		" 1", "1 ", "1\n", "\n1", "1 2", "a", "1a", "a1", "0x1", "0b1", "0o7", "1_000", "1,000", "1.0", "1.", ".1", "1e3", "1E3",
		"inf", "nan", "1\x00", "\x001", "٣", "１", "1\xff", "−1",
		"9223372036854775808", "9223372036854775809", "-9223372036854775809", "18446744073709551616", "18446744073709551617",
		"-18446744073709551615", "10000000000000000000", "99999999999999999999", "-99999999999999999999",
		"09223372036854775807", "-09223372036854775808", "00000000000000000001", "000000000000000000001",
		strings.Repeat("0", 1000) + "1", strings.Repeat("9", 1000), "-" + strings.Repeat("9", 1000),
	} {
		if n, ok := words.Number(s, math.MinInt, math.MaxInt); n != 0 || ok {
			t.Errorf("Number(%q): %d, %v; want 0, false", s, n, ok)
		}
	}
}

// P2.1: texts of the bytes of numbers, and of some others, against numbers without limits.
func TestP21NumberAgainstBig(t *testing.T) {
	decimal := regexp.MustCompile(`^(0|-?[1-9][0-9]*)\z`)
	random := rand.New(rand.NewSource(1))
	for range 300000 {
		bytes, length := "-0123456789", 1+random.Intn(5)
		switch random.Intn(4) {
		case 0:
			bytes = "-+01 _a\n"
		case 1:
			length = 18 + random.Intn(4)
		}
		var b strings.Builder
		for range length {
			b.WriteByte(bytes[random.Intn(len(bytes))])
		}
		s := b.String()
		least, most := random.Intn(2000)-1000, random.Intn(2000)-1000
		if random.Intn(2) == 0 {
			least, most = math.MinInt, math.MaxInt
		}
		want, wantOK := 0, false
		if n, ok := new(big.Int).SetString(s, 10); ok && decimal.MatchString(s) && n.IsInt64() {
			if i := int(n.Int64()); least <= i && i <= most {
				want, wantOK = i, true
			}
		}
		if n, ok := words.Number(s, least, most); n != want || ok != wantOK {
			t.Fatalf("Number(%q, %d, %d): %d, %v; want %d, %v", s, least, most, n, ok, want, wantOK)
		}
	}
}

// P2.1: the decimal texts of integers, the least one and the greatest one among them.
func TestP21Decimal(t *testing.T) {
	for _, c := range []struct {
		n    int
		want string
	}{
		{0, "0"},
		{1, "1"},
		{-1, "-1"},
		{9, "9"},
		{10, "10"},
		{-10, "-10"},
		{99, "99"},
		{100, "100"},
		{365, "365"},
		{-1000, "-1000"},
		{1 << 50, "1125899906842624"},
		{math.MaxInt - 1, "9223372036854775806"},
		{math.MaxInt, "9223372036854775807"},
		{math.MinInt + 1, "-9223372036854775807"},
		{math.MinInt, "-9223372036854775808"},
	} {
		if s := words.Decimal(c.n); s != c.want {
			t.Errorf("Decimal(%d): %q, want %q", c.n, s, c.want)
		}
	}
}

// P2.1, its consequence: Number of Decimal is the number, within just itself, and not beside it.
func TestP21NumberOfDecimal(t *testing.T) {
	check := func(n int) {
		s := words.Decimal(n)
		if got, ok := words.Number(s, n, n); got != n || !ok {
			t.Errorf("Number(%q, %d, %d): %d, %v", s, n, n, got, ok)
		}
		if n > math.MinInt {
			if got, ok := words.Number(s, math.MinInt, n-1); got != 0 || ok {
				t.Errorf("Number(%q) up to %d: %d, %v", s, n-1, got, ok)
			}
		}
		if n < math.MaxInt {
			if got, ok := words.Number(s, n+1, math.MaxInt); got != 0 || ok {
				t.Errorf("Number(%q) from %d on: %d, %v", s, n+1, got, ok)
			}
		}
	}
	for n := -1100; n <= 1100; n++ {
		check(n)
	}
	for n := range 1100 {
		check(math.MinInt + n)
		check(math.MaxInt - n)
	}
	random := rand.New(rand.NewSource(2))
	for range 10000 {
		n := int(random.Uint64()) >> random.Intn(64)
		if s := words.Decimal(n); s != big.NewInt(int64(n)).String() || s != strconv.Itoa(n) {
			t.Fatalf("Decimal(%d): %q", n, s)
		}
		check(n)
	}
}
