package columns_test

import (
	"math/rand"
	"reflect"
	"slices"
	"testing"

	"exodus/api"
	"exodus/columns"
	"exodus/rational"
)

// P11.2: all outcomes are proved; many programs of both kinds are among these.
func TestSolve(t *testing.T) {
	kinds := [2]int{}
	programs(4000, func(r *rand.Rand, p api.Program, blocks []int) {
		kinds[solved(t, p, blocks).Kind]++
	})
	if slices.Min(kinds[:]) < 1000 {
		t.Error(kinds)
	}
}

// P11.2: programs that take several rounds.
func TestSolveLonger(t *testing.T) {
	r := rand.New(rand.NewSource(2))
	kinds := [2]int{}
	for i := range 120 {
		s := shape{2 + r.Intn(4), 2 + r.Intn(6), r.Intn(4), 1 + r.Intn(6), []int64{1, 3, 20, 1000}[i%4], 2 + r.Intn(7)}
		p, blocks := s.random(r)
		kinds[solved(t, p, blocks).Kind]++
	}
	if slices.Min(kinds[:]) < 20 {
		t.Error(kinds)
	}
}

// outcome is what a program with blocks leads to.
type outcome struct {
	name   string
	p      api.Program
	blocks []int
	value  string // of an optimum; empty for programs that are infeasible
}

// check fails unless the outcomes are as they have to be.
func check(t *testing.T, list []outcome) {
	t.Helper()
	for _, c := range list {
		o := solved(t, c.p, c.blocks)
		if (o.Kind == api.Optimal) != (c.value != "") || c.value != "" && rational.Text(o.Value) != c.value {
			t.Error(c.name, o.Kind, rational.Text(o.Value))
		}
	}
}

// P11.2: programs without variables, without rows, and with rows without terms.
func TestEmpty(t *testing.T) {
	check(t, []outcome{
		{"nothing", program(nil), nil, "0"},
		{"no variables, rows that hold", program(nil, row(api.Le, 0), row(api.Ge, -2), row(api.Eq, 0)), nil, "0"},
		{"0 <= -1", program(nil, row(api.Eq, 0), row(api.Le, -1)), nil, ""},
		{"0 >= 1", program(nil, row(api.Ge, 1)), nil, ""},
		{"0 = 1", program(nil, row(api.Eq, 1)), nil, ""},
		{"0 = -1", program(nil, row(api.Eq, -1)), nil, ""},
		{"no rows", program(box(3, -2, 5, 0)), []int{1, 2, 3}, "-6"},
		{"a row without terms that holds", program(box(3, -2, 5), row(api.Ge, -7)), []int{1, 2}, "-6"},
		{"a row without terms that does not hold", program(box(3, -2, 5), row(api.Le, 9, 1, 1), row(api.Eq, 7)), []int{1, 2}, ""},
		{"within one block", program(box(3, -2, 5), row(api.Ge, 7)), []int{1, 1}, ""},
	})
}

// P11.2: rows of blocks, and linking rows.
func TestRows(t *testing.T) {
	two := []int{0, 1}
	check(t, []outcome{
		{"a block that is infeasible", program(box(3, 1, 1), row(api.Ge, 4, 0, 1), row(api.Le, 4, 1, 1)), two, ""},
		{"a block of two rows", program(box(3, 1, 1, 1), row(api.Ge, 4, 1, 1), row(api.Le, 3, 1, 1), row(api.Eq, 2, 1, 0, 1)), []int{5, 5, 4}, ""},
		{"only together", program(box(3, -1, -2), row(api.Ge, 7, 1, 1)), two, ""},
		{"at most and at least", program(box(3, 0, 0), row(api.Ge, 5, 1, 1), row(api.Le, 4, 1, 1)), two, ""},
		{"an equation beyond both", program(box(3, 0, 0), row(api.Eq, -1, 1, 1)), two, ""},
		{"with the rows of a block", program(box(3, 0, 0, 0), row(api.Le, 2, 1, 1), row(api.Le, 2, 1, 0, 1), row(api.Ge, 6, 1, 1, 1)), []int{0, 0, 1}, ""},
		{"just together", program(box(3, 5, 2), row(api.Ge, 6, 1, 1)), two, "21"},
		{"an equation", program(box(3, 1, 1), row(api.Eq, 5, 2, 3)), two, "5/3"},
		{"two equations", program(box(9, 1, -1), row(api.Eq, 7, 1, 2), row(api.Eq, 5, 1, 1)), two, "1"},
		{"the same equation three times", program(box(9, 1, 2), row(api.Eq, 7, 1, 1), row(api.Eq, 7, 1, 1), row(api.Eq, -7, -1, -1)), two, "7"},
		{"corners that are no integers", program(box(3, -1, -1, -2), row(api.Le, 4, 2, 1), row(api.Le, 4, 1, 2), row(api.Le, 3, 1, 1, 1)), []int{0, 0, 1}, "-6"},
		{"integers do not matter", program([]api.Var{{Upper: 1, Cost: -1, Integer: true}, {Upper: 1, Integer: true}}, row(api.Le, 1, 3), row(api.Eq, 1, 3, 2)), two, "-1/3"},
	})
}

// P11.2: bounds that leave nothing or one value, and numbers of blocks.
func TestBounds(t *testing.T) {
	least, most := int64(-1<<40), int64(1<<40)
	check(t, []outcome{
		{"nothing", program([]api.Var{{Lower: 1}}), []int{0}, ""},
		{"nothing in the second block", program([]api.Var{{Upper: 3}, {Lower: 1}}, row(api.Le, 4, 1, 1)), []int{0, 31}, ""},
		{"nothing behind a block that is infeasible", program([]api.Var{{Upper: 3}, {Lower: 1}}, row(api.Ge, 4, 1)), []int{0, 31}, ""},
		{"far apart", program([]api.Var{{Lower: most, Upper: least, Cost: -1}, {Upper: 1}}), []int{4, 2}, ""},
		{"one value each", program([]api.Var{{Lower: 4, Upper: 4, Cost: -3}, {Lower: -2, Upper: -2, Cost: 1}}, row(api.Eq, 2, 1, 1)), []int{1, 0}, "-14"},
		{"one value each that violates", program([]api.Var{{Lower: 4, Upper: 4}, {Lower: -2, Upper: -2}}, row(api.Eq, 3, 1, 1)), []int{1, 0}, ""},
		{"the greatest numbers", program([]api.Var{{Lower: least, Upper: most, Cost: least}, {Lower: least, Upper: most, Cost: most}}), []int{0, 1}, "-2417851639229258349412352"},
		{"the greatest numbers in a row", program([]api.Var{{Lower: least, Upper: most, Cost: 1}, {Lower: least, Upper: most, Cost: 1}}, row(api.Ge, most, most, most-1)), []int{0, 1}, "0"},
		{"the greatest numbers in a block", program([]api.Var{{Lower: least, Upper: most, Cost: most}, {Lower: least, Upper: most, Cost: least}, {Upper: most, Cost: most}}, row(api.Eq, 1, most, most-1), row(api.Ge, 1, 0, most-1, most)), []int{0, 0, 1}, "-2417851639228158837784575"},
	})
}

// P11.3: the blocks do not matter, nor how many of them there are: from one to as many as variables.
func TestAnyBlocks(t *testing.T) {
	programs(600, func(r *rand.Rand, p api.Program, _ []int) {
		o := solved(t, p, make([]int, len(p.Vars)))
		for range 3 {
			blocks := []int{}
			for range p.Vars {
				blocks = append(blocks, r.Intn(4)*10)
			}
			if other := solved(t, p, blocks); other.Kind != o.Kind || rational.Cmp(other.Value, o.Value) != 0 {
				t.Fatal(p, blocks)
			}
		}
		if other := solved(t, p, r.Perm(32)[:len(p.Vars)]); other.Kind != o.Kind || rational.Cmp(other.Value, o.Value) != 0 {
			t.Fatal(p)
		}
	})
}

// P11.3: without linking rows, the values of the blocks add up, and one that is infeasible is enough.
func TestSeparate(t *testing.T) {
	kinds := [2]int{}
	programs(1500, func(r *rand.Rand, p api.Program, blocks []int) {
		for _, i := range slices.Backward(columns.Linking(p, blocks)) {
			p.Rows = slices.Delete(p.Rows, i, i+1)
		}
		kind, sum := api.Optimal, api.Rat{}
		for b := range 32 {
			q := columns.Block(p, blocks, b)
			o := solved(t, q, make([]int, len(q.Vars)))
			kind, sum = max(kind, o.Kind), rational.Add(sum, o.Value)
		}
		o := solved(t, p, blocks)
		if o.Kind != kind || kind == api.Optimal && rational.Cmp(o.Value, sum) != 0 {
			t.Fatal(p, blocks, o)
		}
		kinds[kind]++
	})
	if slices.Min(kinds[:]) < 200 {
		t.Error(kinds)
	}
}

// P11.2: programs that are too large for the search.
func TestLarge(t *testing.T) {
	r := rand.New(rand.NewSource(3))
	greatest := api.Program{Vars: make([]api.Var, api.MaxVars)}
	blocks := []int{}
	for i := range greatest.Vars {
		greatest.Vars[i] = api.Var{Upper: 2, Cost: -1 - int64(i%3)}
		blocks = append(blocks, i%32)
	}
	for i := range api.MaxRows {
		list := []api.Term{{Var: i % 399, Coef: 1}, {Var: 399, Coef: int64(1 + i/399)}}
		greatest.Rows = append(greatest.Rows, api.Row{Kind: api.Le, Terms: list, Bound: 3})
	}
	check(t, []outcome{{"as many rows as there may be", greatest, blocks, "-17557/11"}})
	for _, s := range []shape{{32, 12, 3, 10, 1, 3}, {4, 20, 0, 50, 1, 3}, {2, 150, 5, 10, 1, 1}, {5, 5, 2, 5, 1 << 36, 9}} {
		p, blocks := s.random(r)
		solved(t, p, blocks)
	}
}

// P11.2: also if the lists are copies, and if empty ones are nil.
func TestEqualArguments(t *testing.T) {
	programs(500, func(_ *rand.Rand, p api.Program, blocks []int) {
		q := api.Program{Vars: append([]api.Var{}, p.Vars...), Rows: append([]api.Row{}, p.Rows...)}
		for i, line := range q.Rows {
			q.Rows[i].Terms = append([]api.Term{}, line.Terms...)
		}
		first, _ := columns.Solve(p, blocks)
		second, _ := columns.Solve(q, append([]int{}, blocks...))
		if !reflect.DeepEqual(first, second) {
			t.Fatal(p, blocks, first, second)
		}
	})
}
