package cuts_test

import (
	"math"
	"math/rand"
	"slices"
	"testing"

	"exodus/api"
	"exodus/cuts"
)

// P7.2: covers of rows.
func TestCover(t *testing.T) {
	p := program(bits(6), row(api.Le, 7, 3, 4, 5), row(api.Ge, -7, -3, -4, -5), row(api.Eq, 7, 3, 4, 5), row(api.Le, 9, 0, 5, 5, 5, 5, 5), row(api.Le, 2, -1, 2, 3, -4), row(api.Ge, 3, 2, 2, 2, -2))
	outside := program(slices.Concat(bits(3), []api.Var{{Open: true}, {Lower: 5, Upper: 4, Integer: true}, {Upper: 7}}, bits(1)), row(api.Le, 7, 3, 4, 5))
	mixed := program(slices.Concat(bits(2), []api.Var{{Upper: 9, Integer: true}, {Upper: 1}, {Upper: 1, Integer: true, Open: true}}), row(api.Le, 3, 3, 2, 9, 9, 9))
	mixed.Vars[4].Upper = 0
	never := program(bits(3), row(api.Le, -1, 1, 1, 1), row(api.Ge, 1), row(api.Eq, -1, 0, -1, 0))
	for _, c := range []struct {
		name string
		p    api.Program
		row  int
		x    []api.Rat
		want []int
	}{
		{"the example", p, 0, point("1", "1/2", "2/5"), []int{0, 2}},
		{"the last one is dropped", p, 0, point("1/2", "1/3", "1/4"), []int{0, 2}},
		{"the first ones are enough", p, 0, point("0", "1/3", "1/4"), []int{1, 2}},
		{"one in the middle is dropped", p, 0, point("2/5", "1/2", "1"), []int{1, 2}},
		{"equal components, by their indices", p, 3, point("0", "1/2", "1/2", "1/2", "1/2", "1/2"), []int{1, 2}},
		{"the greatest are taken", p, 3, point("1", "0", "1/2", "1/3", "1", "1/2"), []int{2, 4}},
		{"at least", p, 1, point("1", "1/2", "2/5"), []int{0, 2}},
		{"equal", p, 2, point("1", "1/2", "2/5"), []int{0, 2}},
		{"no point", p, 0, nil, []int{0, 2}},
		{"a short point", p, 3, point("1", "0", "0", "1/9"), []int{1, 3}},
		{"a long point", p, 0, point("0", "1/3", "1/4", "0", "0", "0", "9", "9"), []int{1, 2}},
		{"components beyond the bounds", p, 0, point("-5", "-1", "17"), []int{1, 2}},
		{"fractions that are not valid", p, 3, []api.Rat{{}, {Num: api.Int{Mag: api.Nat{2, 0}}, Den: api.Nat{4}}, {Num: api.Int{Neg: true}}, point("1/3")[0], {Num: api.Int{Mag: api.Nat{1}}, Den: api.Nat{0}}}, []int{1, 4}},
		{"no cover without all", p, 4, point("1", "1", "1", "1"), nil},
		{"negative coefficients", program(bits(4), row(api.Le, -1, -1, 2, 3, -4)), 0, point("1", "1", "1", "1"), []int{1, 2}},
		{"at least, with a negative coefficient", p, 5, point("1", "1/2", "1/4", "1"), nil},
		{"at least, with two cover variables", program(bits(4), row(api.Ge, 3, 2, 2, -2, -2)), 0, point("1", "1", "1/2", "3/4"), []int{3}},
		{"variables outside the row", outside, 0, point("1", "1/2", "2/5", "9", "9", "9", "9"), []int{0, 2}},
		{"others are not binary", mixed, 0, point("1/4", "1/2", "9", "1", "7"), []int{0, 1}},
		{"a row that never holds", never, 0, point("1/4", "1/2", "0"), []int{1}},
		{"a row without terms that never holds", never, 1, point("1/4", "1/2", "0"), nil},
		{"a row that only 1 satisfies", never, 2, point("1/4", "1/2", "0"), nil},
		{"no such row", p, 6, point("1", "1/2", "2/5"), nil},
		{"a negative row", p, -1, point("1", "1/2", "2/5"), nil},
		{"the least row", p, math.MinInt, point("1", "1/2", "2/5"), nil},
		{"no rows", program(bits(3)), 0, point("1", "1/2", "2/5"), nil},
		{"no variables", program(nil, row(api.Ge, 1)), 0, nil, nil},
		{"no least value: open", program(append(bits(2), api.Var{Open: true}), row(api.Le, -99, 1, 1, -1)), 0, point("1", "1"), nil},
		{"no least value: Lower greater than Upper", program(append(bits(2), api.Var{Lower: 1}), row(api.Le, -99, 1, 1, 1)), 0, point("1", "1"), nil},
		{"no greatest value: open", program(append(bits(2), api.Var{Open: true}), row(api.Ge, 99, 1, 1, 1)), 0, point("1", "1"), nil},
		{"no greatest value: Lower greater than Upper", program(append(bits(2), api.Var{Lower: 1}), row(api.Ge, 99, 1, 1, 1)), 0, point("1", "1"), nil},
		{"open in the other direction", program(append(bits(2), api.Var{Open: true}), row(api.Ge, 99, 1, 1, -1)), 0, point("1/2", "1"), []int{1}},
		{"the greatest numbers", program(append(bits(2), api.Var{Lower: -api.MaxCoef, Upper: api.MaxCoef}), row(api.Le, -api.MaxCoef, api.MaxCoef, api.MaxCoef, api.MaxCoef)), 0, point("1", "1"), nil},
		{"the greatest numbers, never", program(append(bits(2), api.Var{Lower: api.MaxCoef, Upper: api.MaxCoef}), row(api.Le, 1, 1, 1, api.MaxCoef)), 0, point("0", "1"), []int{1}},
	} {
		got, ok := cuts.Cover(c.p, c.row, c.x)
		want := api.Cut{}
		if c.want != nil {
			want = cover(c.row, c.want...)
		}
		if ok != (c.want != nil) || !sameCut(got, want) {
			t.Error(c.name, got, ok)
		}
	}
}

// P7.2: programs that are not valid.
func TestCoverInvalid(t *testing.T) {
	for i, p := range invalid() {
		if c, ok := cuts.Cover(p, 0, point("1", "1", "1")); ok || !sameCut(c, api.Cut{}) {
			t.Error(i, c, ok)
		}
	}
}

// definedCoverFor returns the cover of a row for a point as the chapter finds it.
func definedCoverFor(p api.Program, index int, x []api.Rat) ([]int, bool) {
	line, order := p.Rows[index], []int{}
	for _, term := range line.Terms {
		if isBinary(p.Vars[term.Var]) {
			order = append(order, term.Var)
		}
	}
	slices.SortStableFunc(order, func(a, b int) int { return at(x, b).Cmp(at(x, a)) })
	n := 0
	for n < len(order) && !isCover(p, line, order[:n]) {
		n++
	}
	taken := order[:n]
	if !isCover(p, line, taken) {
		return nil, false
	}
	for i := n - 1; i >= 0; i-- {
		others := slices.Concat(taken[:i], taken[i+1:])
		if isCover(p, line, others) {
			taken = others
		}
	}
	slices.Sort(taken)
	return taken, true
}

// P7.2 and P7.4: random rows and points; no variable of a cover can be left out.
func TestCoverDefinition(t *testing.T) {
	found := 0
	programs(8000, func(r *rand.Rand, p api.Program) {
		x := randomPoint(r, len(p.Vars))
		for i, line := range p.Rows {
			vars, wanted := definedCoverFor(p, i, x)
			want := api.Cut{}
			if wanted {
				want = cover(i, vars...)
				found++
			}
			c, ok := cuts.Cover(p, i, x)
			if ok != wanted || !sameCut(c, want) {
				t.Fatal(p, i, x, c, ok, want)
			}
			for k := range c.Vars {
				if isCover(p, line, slices.Concat(c.Vars[:k], c.Vars[k+1:])) {
					t.Fatal("not minimal", p, i, x, c)
				}
			}
			if _, err := cuts.Derive(p, c); ok && err != api.OK {
				t.Fatal(p, c, err)
			}
		}
	})
	if found < 1500 {
		t.Error("only", found)
	}
}
