package simplex

import (
	"math/big"
	"math/rand"
	"slices"
	"testing"

	"exodus/api"
	"exodus/integer"
)

// exact returns the value of a number.
func exact(a number) *big.Int {
	v, _ := new(big.Int).SetString(integer.Text(wide(a)), 10)
	return v
}

// made returns the number with a value.
func made(v *big.Int) number {
	n, _ := integer.Parse(v.String())
	return packed(n)
}

// sound reports whether a number is in its only form: with more than room bits it is large.
func sound(a number) bool {
	return (a.large != nil) == (exact(a).BitLen() > room) && (a.large == nil || a.small == 0)
}

// near returns numbers that are near powers of 2, of up to bits bits.
func near(r *rand.Rand, bits int) *big.Int {
	v := new(big.Int).Lsh(big.NewInt(1), uint(r.Intn(bits+1)))
	v.Add(v, big.NewInt(r.Int63n(3)-1))
	if r.Intn(4) == 0 {
		v.Rand(r, new(big.Int).Add(v, big.NewInt(1)))
	}
	if r.Intn(2) == 0 {
		v.Neg(v)
	}
	return v
}

// P5.1: all outcomes are exact, as numbers are, whether they are small or large.
func TestNumbers(t *testing.T) {
	r := rand.New(rand.NewSource(1))
	for range 40000 {
		x, y, z, w := near(r, 64), near(r, 64), near(r, 64), near(r, 64)
		a, b, c, d := made(x), made(y), made(z), made(w)
		for i, pair := range []struct {
			got  number
			want *big.Int
		}{
			{a, x}, {plus(a, b), new(big.Int).Add(x, y)}, {minus(a, b), new(big.Int).Sub(x, y)}, {times(a, b), new(big.Int).Mul(x, y)},
			{negative(a), new(big.Int).Neg(x)}, {absolute(a), new(big.Int).Abs(x)}, {quotient(times(a, plus(times(b, b), number{small: 1})), plus(times(b, b), number{small: 1})), x},
		} {
			if !sound(pair.got) || exact(pair.got).Cmp(pair.want) != 0 {
				t.Fatal(i, x, y, pair.got)
			}
		}
		if y.Sign() != 0 {
			part, rest := divide(a, b)
			wantPart, wantRest := new(big.Int).QuoRem(x, y, new(big.Int))
			if !sound(part) || !sound(rest) || exact(part).Cmp(wantPart) != 0 || exact(rest).Cmp(wantRest) != 0 {
				t.Fatal("divide", x, y, part, rest)
			}
		}
		if sign(a) != x.Sign() {
			t.Fatal("sign", x)
		}
		order := new(big.Int).Mul(x, y).CmpAbs(new(big.Int).Mul(z, w))
		if got := compareProducts(a, b, c, d); got*order < 0 || (got == 0) != (order == 0) {
			t.Fatal("order", x, y, z, w)
		}
		if compareProducts(a, b, negative(b), a) != 0 {
			t.Fatal("order", x, y)
		}
		if sign(a) > 0 && sign(b) != 0 {
			if got := common(a, b); !sound(got) || exact(got).Cmp(new(big.Int).GCD(nil, nil, x, new(big.Int).Abs(y))) != 0 {
				t.Fatal("common", x, y)
			}
		}
	}
}

// list returns the values of the numbers of an equation.
func (e *equation) list() []*big.Int {
	out := []*big.Int{}
	for place := range e.size() {
		out = append(out, exact(e.at(place)))
	}
	return out
}

// consistent fails unless the numbers of an equation have no common divisor, and its form fits them.
func (e *equation) consistent(t *testing.T) {
	t.Helper()
	shared, large := new(big.Int), false
	for _, v := range e.list() {
		shared.GCD(nil, nil, shared, new(big.Int).Abs(v))
		large = large || v.BitLen() > room
		if e.mixed == nil && v.CmpAbs(new(big.Int).Lsh(big.NewInt(1), uint(e.width))) > 0 {
			t.Fatal("width", e.width, v)
		}
	}
	if shared.Cmp(big.NewInt(1)) != 0 || (e.mixed != nil) != large || (e.small == nil) == (e.mixed == nil) {
		t.Fatal(shared, large, e.list())
	}
}

// filled returns an equation with numbers near powers of 2.
func filled(r *rand.Rand, bits int) equation {
	e := newEquation(3)
	e.put(scale, absolute(plus(made(near(r, bits)), made(near(r, 2)))))
	if e.signAt(scale) == 0 {
		e.put(scale, number{small: 1})
	}
	for place := constant; place < e.size(); place++ {
		e.put(place, made(near(r, bits)))
	}
	e.reduce()
	return e
}

// P5.1: equations are added exactly, whatever the size of their numbers.
func TestEquations(t *testing.T) {
	r := rand.New(rand.NewSource(2))
	for i := range 40000 {
		bits := []int{3, 20, 31, 60, 61, 62, 70}[i%7]
		e, other := filled(r, bits), filled(r, bits)
		e.consistent(t)
		p, q := absolute(made(near(r, 62-bits%60))), made(near(r, 62-bits%60))
		if sign(p) == 0 || sign(q) == 0 {
			continue
		}
		before, added := e.list(), other.list()
		e.add(p, &other, q)
		e.consistent(t)
		after := e.list()
		// The sum is only determined up to a factor: the ratios to the scale are compared.
		below := new(big.Int).Mul(before[scale], exact(p))
		for place := constant; place < len(before); place++ {
			want := new(big.Int).Add(new(big.Int).Mul(before[place], exact(p)), new(big.Int).Mul(added[place], exact(q)))
			if want.Mul(want, after[scale]).Cmp(new(big.Int).Mul(after[place], below)) != 0 {
				t.Fatal(bits, place, before, added, exact(p), exact(q), after)
			}
		}
		if !slices.EqualFunc(other.list(), added, func(a, b *big.Int) bool { return a.Cmp(b) == 0 }) {
			t.Fatal("the other equation has changed")
		}
	}
}

// P1: where costs do not change, the least variable comes first, which is known to end.
func TestCareful(t *testing.T) {
	lines := []*line{{7, newEquation(0)}, {4, newEquation(0)}, {9, newEquation(0)}}
	for i, l := range lines {
		l.put(constant, number{small: int64(10 * (i - 3))})
	}
	free := bounds{upper: 90, hasLower: true, hasUpper: true}
	tab := &tableau{bounds: slices.Repeat([]bounds{free}, 10), lines: lines}
	for careful, want := range map[bool]int{true: 4, false: 7} {
		if got, broken := tab.greatest(careful); !broken || got.line.variable != want || got.side != 1 {
			t.Error(careful, got)
		}
	}
	// Two equal breaches: only the rule for careful steps chooses the second one.
	lines[0].put(constant, number{small: -20})
	lines[2].put(constant, number{small: 95})
	for careful, want := range map[bool]int{true: 4, false: 7} {
		if got, broken := tab.greatest(careful); !broken || got.line.variable != want {
			t.Error(careful, got)
		}
	}
	for _, l := range lines {
		l.put(constant, number{small: 5})
	}
	if got, broken := tab.greatest(true); broken {
		t.Error(got)
	}
}

// P1: columns are ordered by how fast the cost falls, or by their variables; those that make it rise do not count.
func TestFalling(t *testing.T) {
	tab := newTableau(api.Program{Vars: []api.Var{{Open: true}, {Open: true, Cost: -1}, {Open: true, Cost: -9}, {Open: true, Cost: -9}, {Open: true, Cost: 20}}})
	tab.columns = []int{4, 3, 0, 2, 1}
	for column, variable := range tab.columns {
		tab.cost.put(first+column, number{small: tab.program.Vars[variable].Cost})
	}
	if column, falls := tab.falling(tab.least); !falls || column != 4 {
		t.Error("least", column, falls)
	}
	if column, falls := tab.falling(tab.steepest); !falls || column != 3 {
		t.Error("steepest", column, falls)
	}
	for column := range tab.columns {
		tab.cost.put(first+column, number{small: int64(column)})
	}
	if column, falls := tab.falling(tab.least); falls {
		t.Error("none", column)
	}
}
