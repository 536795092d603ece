package columns

import (
	"math/big"
	"math/rand"
	"slices"
	"testing"

	"exodus/api"
	"exodus/duality"
	"exodus/linear"
	"exodus/rational"
)

// parsed returns the fraction with a text.
func parsed(s string) api.Rat {
	a, _ := rational.Parse(s)
	return a
}

// long returns a random integer of up to bits bits.
func long(r *rand.Rand, bits int) api.Rat {
	n := new(big.Int).Rand(r, new(big.Int).Lsh(big.NewInt(1), uint(r.Intn(bits))))
	if r.Intn(2) == 0 {
		n.Neg(n)
	}
	return parsed(n.String())
}

// The digits of an integer make it up, and short ones are digits.
func TestCut(t *testing.T) {
	r := rand.New(rand.NewSource(1))
	list := []api.Rat{{}, rational.From(base), rational.From(-base), rational.From(base + 1), rational.From(-base - 1)}
	for range 2000 {
		list = append(list, long(r, 200))
	}
	for _, n := range list {
		rest, digit := cut(n)
		sum := rational.Add(rational.Mul(rest, rational.From(base)), rational.From(digit))
		short := rational.Cmp(n, rational.From(base)) <= 0 && rational.Cmp(n, rational.From(-base)) >= 0
		if rational.Cmp(sum, n) != 0 || digit < -base || digit > base || short != (rational.Sign(rest) == 0) {
			t.Fatal(rational.Text(n), rational.Text(rest), digit)
		}
	}
}

// The least common denominator.
func TestWhole(t *testing.T) {
	for _, c := range []struct {
		list, want []string
		scale      string
	}{
		{nil, nil, "1"},
		{[]string{"0", "-7", "3"}, []string{"0", "-7", "3"}, "1"},
		{[]string{"1/4", "-5/6", "2", "0"}, []string{"3", "-10", "24", "0"}, "12"},
	} {
		list, want := []api.Rat{}, []string{}
		for _, s := range c.list {
			list = append(list, parsed(s))
		}
		integers, scale := whole(list)
		for _, a := range integers {
			want = append(want, rational.Text(a))
		}
		if !slices.Equal(want, c.want) || rational.Text(scale) != c.scale {
			t.Error(c, want, rational.Text(scale))
		}
	}
}

// The terms have the sum at every point that satisfies the further rows, and all of them stay within the limits.
func TestSpell(t *testing.T) {
	r := rand.New(rand.NewSource(2))
	for range 300 {
		p, integers, x, want := api.Program{}, []api.Rat{}, []api.Rat{}, api.Rat{}
		for range r.Intn(5) {
			p.Vars = append(p.Vars, api.Var{Upper: 9})
			integers, x = append(integers, long(r, 200)), append(x, long(r, 4))
			want = rational.Add(want, rational.Mul(integers[len(integers)-1], x[len(x)-1]))
		}
		terms := spell(&p, integers)
		for i, line := range p.Rows {
			// The variables of the row are the two last ones so far.
			sum := linear.Dot(line.Terms, x)
			if rational.Sign(sum) > 0 {
				x = append(x, sum, api.Rat{})
			} else {
				x = append(x, api.Rat{}, rational.Neg(sum))
			}
			if len(linear.Violated(api.Program{Vars: p.Vars, Rows: p.Rows[:i+1]}, x)) > 0 {
				t.Fatal(p, i)
			}
		}
		p.Rows = append(p.Rows, api.Row{Terms: terms})
		if len(x) != len(p.Vars) || !linear.Valid(p) || rational.Cmp(linear.Dot(terms, x), want) != 0 {
			t.Fatal(p, integers)
		}
	}
}

// What is long in the search does not end it: corners and prices with long denominators.
func TestGenerateLong(t *testing.T) {
	r := rand.New(rand.NewSource(3))
	kinds := [2]int{}
	for range 30 {
		p, blocks := api.Program{}, []int{}
		for i := range 9 {
			p.Vars = append(p.Vars, api.Var{Upper: 1 << 30, Cost: r.Int63n(1<<36) - 1<<35})
			blocks = append(blocks, i/3)
		}
		for k := range 9 {
			line := api.Row{Kind: r.Intn(2), Bound: r.Int63n(1<<39) - 1<<37}
			for i := range p.Vars {
				if k%3 == blocks[i] || k < 3 {
					line.Terms = append(line.Terms, api.Term{Var: i, Coef: r.Int63n(1<<36) - 1<<35})
				}
			}
			p.Rows = append(p.Rows, line)
		}
		o, ok := generate(p, blocks)
		if !ok || duality.Check(p, o) != api.OK {
			t.Fatal(p, o, ok)
		}
		kinds[o.Kind]++
	}
	if slices.Min(kinds[:]) < 3 {
		t.Error(kinds)
	}
}

// Beyond the greatest effort, the search ends without an outcome.
func TestGenerateTooMuch(t *testing.T) {
	p, blocks := api.Program{}, []int{}
	for i := range 128 {
		p.Vars = append(p.Vars, api.Var{Upper: 1})
		p.Rows = append(p.Rows, api.Row{Kind: api.Eq, Terms: []api.Term{{Var: i, Coef: 2}}, Bound: 1})
		blocks = append(blocks, 0)
	}
	if o, ok := generate(p, blocks); ok || len(o.Point)+len(o.Multipliers) > 0 {
		t.Error(o)
	}
	if o, err := Solve(p, blocks); err != api.OK || duality.Check(p, o) != api.OK {
		t.Error(o, err)
	}
}
