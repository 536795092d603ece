package rational_test

import (
	"math"
	"math/big"
	"strings"
	"testing"

	"exodus/api"
	"exodus/rational"
)

// P3.5
func TestText(t *testing.T) {
	each(func(a api.Rat) {
		s := value(a).RatString()
		if got := rational.Text(a); got != s {
			t.Fatal(a, got, s)
		}
		back, err := rational.Parse(s)
		if err != api.OK {
			t.Fatal(s, err)
		}
		expect(t, "parsed fraction", back, value(a), s)
	})
	for _, x := range []struct {
		a, b int64
		text string
	}{
		{6, -4, "-3/2"}, {-6, -4, "3/2"}, {6, 3, "2"}, {-6, 3, "-2"}, {0, -7, "0"}, {1, math.MinInt64, "-1/9223372036854775808"}, {math.MinInt64, -1, "9223372036854775808"},
		{math.MinInt64, math.MaxInt64, "-9223372036854775808/9223372036854775807"}, {math.MinInt64, math.MinInt64, "1"},
	} {
		a, err := rational.Frac(x.a, x.b)
		if got := rational.Text(a); got != x.text || err != api.OK {
			t.Error(x, got, err)
		}
	}
}

// P3.5
func TestParse(t *testing.T) {
	for _, s := range []string{"0", "7", "-7", "1/2", "-1/2", "10/3", "3/10", "-18446744073709551616/18446744073709551615", "1/4294967296"} {
		want, _ := new(big.Rat).SetString(s)
		a, err := rational.Parse(s)
		if err != api.OK {
			t.Error(s, err)
		}
		expect(t, "parsed fraction", a, want, s)
		if rational.Text(a) != s {
			t.Error(s, rational.Text(a))
		}
	}
}

// P3.5: texts of other forms than the one of a value, among them fractions that are not in lowest terms.
func TestParseInvalid(t *testing.T) {
	for _, s := range []string{
		"", "/", "-", "-/", "1/", "/2", "-/2", "1//2", "1/2/3", "1/2/", "/1/2", "+1/2", "1/+2", "1/-2", "-1/-2", "--1/2", "1-/2", "- 1/2",
		"2/4", "-2/4", "6/3", "3/1", "-3/1", "1/1", "0/1", "0/2", "-0/2", "1/0", "0/0", "-1/0", "-0", "00", "01/2", "1/02", "1/00", "18446744073709551616/4294967296",
		" 1/2", "1/2 ", "1 /2", "1/ 2", "1/2\n", "1/2\x00", "1.5", "1/2.0", "1e3", "0x1/2", "1\\2", "1:2", "a/b", "1/a", "a/2", "\u0661/2", "1\u20442", "1\u22152",
	} {
		if a, err := rational.Parse(s); !zero(a) || err != api.ErrSyntax {
			t.Errorf("%q %v %v", s, a, err)
		}
	}
}

// P3.5: each of the two numbers has at most 4000 bytes, and a hyphen is one more.
func TestParseLength(t *testing.T) {
	nines, tens := strings.Repeat("9", 4000), "1"+strings.Repeat("0", 3999)
	for _, s := range []string{nines, "-" + nines, nines + "/2", "1/" + nines, "-" + nines + "/" + tens} {
		a, err := rational.Parse(s)
		if err != api.OK {
			t.Fatal(len(s), err)
		}
		want, _ := new(big.Rat).SetString(s)
		expect(t, "parsed fraction", a, want)
		if rational.Text(a) != s {
			t.Error(len(s), "another text")
		}
	}
	for _, s := range []string{nines + "9", "-" + nines + "9", nines + "9/2", "-" + nines + "9/2", "1/" + nines + "9", nines + "9/" + nines + "9", strings.Repeat("/", 4000)} {
		if a, err := rational.Parse(s); !zero(a) || err != api.ErrSyntax {
			t.Error(len(s), err)
		}
	}
}
