package columns_test

import (
	"math"
	"math/rand"
	"reflect"
	"slices"
	"testing"

	"exodus/api"
	"exodus/columns"
	"exodus/linear"
)

// The example of the chapter.
func TestExample(t *testing.T) {
	p, blocks := example()
	if !columns.Fits(p, blocks) || !slices.Equal(columns.Linking(p, blocks), []int{0}) {
		t.Error("the blocks do not fit, or nothing is linking")
	}
	if q := columns.Block(p, blocks, 1); !slices.Equal(q.Vars, box(3, -2)) || len(q.Rows) > 0 {
		t.Error(q)
	}
	o := solved(t, p, blocks)
	if !slices.Equal(texts([]api.Rat{o.Value, o.Multipliers[0]}), []string{"-7", "-1"}) || !slices.Equal(texts(o.Point), []string{"1", "3"}) {
		t.Error(o)
	}
}

// P11.1: blocks that fit.
func TestFits(t *testing.T) {
	p, _ := example()
	for _, blocks := range [][]int{{0, 0}, {0, 1}, {31, 0}, {7, 7}, {30, 31}} {
		if !columns.Fits(p, blocks) {
			t.Error(blocks)
		}
	}
	empty := program([]api.Var{{Lower: 1}})
	if !columns.Fits(program(nil), nil) || !columns.Fits(program(nil, row(api.Ge, 1)), []int{}) || !columns.Fits(empty, []int{3}) {
		t.Error("no variables, or bounds that leave nothing")
	}
}

// P11.1 and the section Errors: blocks that do not fit.
func TestMisfits(t *testing.T) {
	for _, m := range misfits() {
		if columns.Fits(m.p, m.blocks) || len(columns.Linking(m.p, m.blocks)) > 0 {
			t.Error(m.name)
		}
		for b := -1; b <= 32; b++ {
			if q := columns.Block(m.p, m.blocks, b); len(q.Vars)+len(q.Rows) > 0 {
				t.Error(m.name, b, q)
			}
		}
		if o, err := columns.Solve(m.p, m.blocks); err != api.ErrArg || !reflect.DeepEqual(o, api.Outcome{}) {
			t.Error(m.name, o, err)
		}
	}
}

// P11.1: rows within one block and over several, and rows without terms.
func TestLinking(t *testing.T) {
	rows := []api.Row{row(api.Le, 1, 1, 0, 1), row(api.Le, 1, 1, 1), row(api.Eq, 0), row(api.Ge, 0, 0, 5), row(api.Ge, 3, 1, 1, 1, 1), row(api.Le, 9, 0, 2, 0, -2), row(api.Eq, 1, 0, 0, 1, 1)}
	p := program(box(2, 1, 1, 1, 1), rows...)
	for i, c := range []struct {
		blocks []int
		want   []int
	}{
		{[]int{0, 1, 0, 1}, []int{1, 2, 4, 6}},
		{[]int{4, 4, 4, 4}, []int{2}},
		{[]int{0, 1, 2, 3}, []int{0, 1, 2, 4, 5, 6}},
		{[]int{9, 8, 8, 8}, []int{0, 1, 2, 4}},
	} {
		if list := columns.Linking(p, c.blocks); !slices.Equal(list, c.want) {
			t.Error(i, list)
		}
	}
}

// P11.1: variables and rows stay in their order, and rows keep all but the numbers of their variables.
func TestBlock(t *testing.T) {
	vars := []api.Var{{Lower: -1, Upper: 5, Cost: 3}, {Lower: 2, Upper: 1}, {Upper: 9, Cost: -8, Integer: true}, {Cost: 7}}
	rows := []api.Row{
		{Name: "a", Group: 4, Kind: api.Ge, Bound: -6, Terms: terms(0, 0, 2)},
		{Name: "b", Group: 5, Kind: api.Eq, Bound: 6, Terms: terms(0, 0, 0, 1)},
		{Name: "c", Group: 6, Kind: api.Le, Bound: 1, Terms: terms(-3, 0, 7)},
		{Name: "d", Group: 7, Kind: api.Ge, Bound: 2, Terms: terms(1, 1)},
		{Name: "e", Kind: api.Ge, Bound: 2},
	}
	p, blocks := program(vars, rows...), []int{3, 31, 3, 0}
	for b, want := range map[int]api.Program{
		3:  program([]api.Var{vars[0], vars[2]}, api.Row{Name: "a", Group: 4, Kind: api.Ge, Bound: -6, Terms: terms(0, 2)}, api.Row{Name: "c", Group: 6, Kind: api.Le, Bound: 1, Terms: terms(-3, 7)}),
		31: program([]api.Var{vars[1]}),
		0:  program([]api.Var{vars[3]}, api.Row{Name: "b", Group: 5, Kind: api.Eq, Bound: 6, Terms: terms(1)}),
		1:  {}, 30: {}, 32: {}, -1: {}, math.MinInt: {}, math.MaxInt: {},
	} {
		if q := columns.Block(p, blocks, b); !same(q, want) {
			t.Error(b, q)
		}
	}
}

// same reports whether two programs are equal, apart from the difference of nil and empty lists.
func same(p, q api.Program) bool {
	return slices.Equal(p.Vars, q.Vars) && slices.EqualFunc(p.Rows, q.Rows, func(a, b api.Row) bool {
		return a.Name == b.Name && a.Group == b.Group && a.Kind == b.Kind && a.Bound == b.Bound && slices.Equal(a.Terms, b.Terms)
	})
}

// P11.1: each variable is in exactly one block, and each row is linking or in exactly one block.
func TestPartition(t *testing.T) {
	programs(1500, func(r *rand.Rand, p api.Program, blocks []int) {
		vars, rows := 0, 0
		for b := range 32 {
			q := columns.Block(p, blocks, b)
			if !linear.Valid(q) {
				t.Fatal(p, blocks, b, q)
			}
			vars, rows = vars+len(q.Vars), rows+len(q.Rows)
		}
		list := columns.Linking(p, blocks)
		if vars != len(p.Vars) || rows+len(list) != len(p.Rows) || !slices.IsSorted(list) {
			t.Fatal(p, blocks, vars, rows, list)
		}
		for i, line := range p.Rows {
			found := map[int]bool{}
			for _, term := range line.Terms {
				found[blocks[term.Var]] = true
			}
			if slices.Contains(list, i) != (len(found) != 1) {
				t.Fatal(p, blocks, i)
			}
		}
	})
}
