package integer_test

import (
	"math"
	"math/big"
	"math/rand"
	"strconv"
	"strings"
	"testing"

	"exodus/api"
	"exodus/integer"
)

// P2.5
func TestText(t *testing.T) {
	for _, a := range forms() {
		s := value(a).String()
		if got := integer.Text(a); got != s {
			t.Error(a, got, s)
		}
		back, err := integer.Parse(s)
		expect(t, "parsed integer", back, value(a), s)
		if err != api.OK {
			t.Error(s, err)
		}
	}
	for _, n := range numbers() {
		s := strconv.FormatInt(n, 10)
		if got := integer.Text(integer.From(n)); got != s {
			t.Error(n, got)
		}
		a, err := integer.Parse(s)
		if m, ok := integer.Int64(a); m != n || !ok || err != api.OK {
			t.Error(n, a, err)
		}
	}
	if got := integer.Text(integer.Sub(integer.From(math.MinInt64), integer.From(1))); got != "-9223372036854775809" {
		t.Error(got)
	}
	r := rand.New(rand.NewSource(2))
	for range 300 {
		a := random(r, 40)
		if got, want := integer.Text(a), value(a).String(); got != want {
			t.Fatal(a, got, want)
		}
	}
}

// P2.5
func TestParseInvalid(t *testing.T) {
	for _, s := range []string{
		"", "-", "--", "--1", "-+1", "+1", "+", "+0", "-0", "-00", "00", "01", "-01", "-007", "1-", "1-1", " 1", "- 1", " -1", "-1 ", "1.5", "-1/2", "1e9", "0x1", "-0x1",
		"a", "-a", "1a", "-1a", "\u22121", "\u20101", "-\u0661", "\x00", "-\x00", "1\n",
	} {
		if a, err := integer.Parse(s); a.Neg || len(a.Mag) != 0 || err != api.ErrSyntax {
			t.Errorf("%q %v %v", s, a, err)
		}
	}
}

// P2.5: 4000 bytes, and one more with a hyphen.
func TestParseLength(t *testing.T) {
	nines := strings.Repeat("9", 4000)
	for _, s := range []string{nines, "-" + nines, "1" + strings.Repeat("0", 3999), "-1" + strings.Repeat("0", 3999)} {
		want, _ := new(big.Int).SetString(s, 10)
		a, err := integer.Parse(s)
		if err != api.OK {
			t.Fatal(len(s), err)
		}
		expect(t, "parsed integer", a, want)
		if integer.Text(a) != s {
			t.Error("another text")
		}
	}
	for _, s := range []string{nines + "9", "-" + nines + "9", "-" + strings.Repeat("0", 4000), strings.Repeat("-", 4001)} {
		if a, err := integer.Parse(s); a.Neg || len(a.Mag) != 0 || err != api.ErrSyntax {
			t.Error(len(s), err)
		}
	}
}
