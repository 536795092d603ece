package natural_test

import (
	"math/big"
	"math/rand"
	"strings"
	"testing"

	"exodus/api"
	"exodus/natural"
)

// P1.6
func TestText(t *testing.T) {
	for s, a := range map[string]api.Nat{
		"0": nil, "1": {1}, "9": {9}, "10": {10}, "4294967295": {4294967295}, "4294967296": {0, 1},
		"18446744065119617025": {1, 4294967294}, "18446744073709551616": {0, 0, 1},
	} {
		for zeros := range 3 {
			if got := natural.Text(padded(a, zeros)); got != s {
				t.Error(s, zeros, got)
			}
		}
		if got, err := natural.Parse(s); err != api.OK || natural.Cmp(got, a) != 0 {
			t.Error(s, got, err)
		}
	}
	for _, a := range forms() {
		if got, want := natural.Text(a), value(a).String(); got != want {
			t.Error(a, got, want)
		}
	}
	r := rand.New(rand.NewSource(2))
	for range 500 {
		a := random(r, 60)
		if got, want := natural.Text(a), value(a).String(); got != want {
			t.Fatal(a, got, want)
		}
	}
}

// P1.6: texts of all short lengths, with zeros inside and at the end.
func TestParse(t *testing.T) {
	for n := range 60 {
		zeros := strings.Repeat("0", n)
		nines := strings.Repeat("9", n)
		for _, s := range []string{"1" + zeros, "1" + zeros + "1", "70" + nines, "2" + nines + zeros, "3" + nines} {
			got, err := natural.Parse(s)
			want, _ := new(big.Int).SetString(s, 10)
			if err != api.OK {
				t.Fatal(s, err)
			}
			expect(t, "parsed number", got, want, s)
			if natural.Text(got) != s {
				t.Fatal(s, natural.Text(got))
			}
		}
	}
}

// P1.6
func TestParseInvalid(t *testing.T) {
	for _, s := range []string{
		"", "00", "01", "000", "-1", "-0", "+1", "+", "-", " 1", "1 ", "1\n", "\t1", "1a", "a1", "0x10", "1e3", "1.0", "1,000", "1_000", "1/2",
		"12/", "12:", "1\x00", "\x00", "\xff", "1\xff", "½", "١", "１", "1²",
		"0" + strings.Repeat("1", 30), strings.Repeat("1", 50) + "x", strings.Repeat("1", 50) + "x" + strings.Repeat("1", 50),
	} {
		if a, err := natural.Parse(s); len(a) != 0 || err != api.ErrSyntax {
			t.Errorf("%q %v %v", s, a, err)
		}
	}
}

// P1.6: 4000 bytes are parsed, 4001 are not; a text may be longer.
func TestParseLength(t *testing.T) {
	for _, s := range []string{strings.Repeat("9", 4000), "1" + strings.Repeat("0", 3999), strings.Repeat("123456789", 444) + "1234", strings.Repeat("8", 3999)} {
		want, _ := new(big.Int).SetString(s, 10)
		a, err := natural.Parse(s)
		if err != api.OK {
			t.Fatal(len(s), err)
		}
		expect(t, "parsed number", a, want)
		if natural.Text(a) != s {
			t.Error("another text")
		}
		longer := natural.Mul(a, api.Nat{1000})
		if natural.Text(longer) != s+"000" {
			t.Error("another text after multiplication")
		}
	}
	for _, s := range []string{strings.Repeat("9", 4001), "1" + strings.Repeat("0", 4000), strings.Repeat("0", 4001), strings.Repeat("1", 10000), strings.Repeat("1", 4000) + " "} {
		if a, err := natural.Parse(s); len(a) != 0 || err != api.ErrSyntax {
			t.Error(len(s), len(a), err)
		}
	}
}
