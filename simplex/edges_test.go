package simplex_test

import (
	"testing"

	"exodus/api"
	"exodus/rational"
)

// outcome is what a program leads to.
type outcome struct {
	name  string
	p     api.Program
	kind  int
	value string // of an optimum
}

// check fails unless the outcomes are as they have to be.
func check(t *testing.T, list []outcome) {
	t.Helper()
	for _, c := range list {
		o := solved(t, c.p)
		if o.Kind != c.kind || c.kind == api.Optimal && rational.Text(o.Value) != c.value {
			t.Error(c.name, o.Kind, rational.Text(o.Value))
		}
	}
}

// P5.1: programs without variables, without rows, or with rows without terms.
func TestEmpty(t *testing.T) {
	check(t, []outcome{
		{"nothing", api.Program{}, api.Optimal, "0"},
		{"no variables, rows that hold", api.Program{Rows: []api.Row{row(api.Le, 0), row(api.Ge, 0), row(api.Eq, 0), row(api.Le, 5), row(api.Ge, -5)}}, api.Optimal, "0"},
		{"0 <= -1", api.Program{Rows: []api.Row{row(api.Eq, 0), row(api.Le, -1)}}, api.Infeasible, ""},
		{"0 >= 1", api.Program{Rows: []api.Row{row(api.Ge, 1)}}, api.Infeasible, ""},
		{"0 = 1", api.Program{Rows: []api.Row{row(api.Eq, 1)}}, api.Infeasible, ""},
		{"0 = -1", api.Program{Rows: []api.Row{row(api.Eq, -1)}}, api.Infeasible, ""},
		{"no rows", api.Program{Vars: box(3, -2, 5, 0)}, api.Optimal, "-6"},
		{"no rows, open", api.Program{Vars: open(2, 0)}, api.Optimal, "0"},
		{"no rows, no least cost", api.Program{Vars: open(2, -1)}, api.Unbounded, ""},
		{"a row without terms in an unbounded program", api.Program{Vars: open(-1), Rows: []api.Row{row(api.Ge, 1)}}, api.Infeasible, ""},
		{"a row that holds without terms", api.Program{Vars: open(-1), Rows: []api.Row{row(api.Le, 1)}}, api.Unbounded, ""},
		{"a row without terms among others", api.Program{Vars: box(3, -1), Rows: []api.Row{row(api.Le, 2, 1), row(api.Eq, 3)}}, api.Infeasible, ""},
	})
}

// P5.1: bounds that leave nothing, one value, or all values from one on.
func TestBounds(t *testing.T) {
	least, most := int64(-1<<40), int64(1<<40)
	check(t, []outcome{
		{"a Lower greater than its Upper", api.Program{Vars: []api.Var{{Lower: 1}}}, api.Infeasible, ""},
		{"with rows", api.Program{Vars: []api.Var{{Lower: 1}, {Upper: 2}}, Rows: []api.Row{row(api.Le, 1, 1, 1), row(api.Ge, 9, 0, 1)}}, api.Infeasible, ""},
		{"far apart", api.Program{Vars: []api.Var{{Lower: most, Upper: least, Cost: -1}}}, api.Infeasible, ""},
		{"open and Lower greater than 0", api.Program{Vars: []api.Var{{Lower: 4, Open: true, Cost: 3}}}, api.Optimal, "12"},
		{"open and Lower less than 0", api.Program{Vars: []api.Var{{Lower: -4, Open: true, Cost: 3}}}, api.Optimal, "-12"},
		{"one value", api.Program{Vars: []api.Var{{Lower: 4, Upper: 4, Cost: -3}}}, api.Optimal, "-12"},
		{"one value that violates", api.Program{Vars: []api.Var{{Lower: 4, Upper: 4, Cost: -3}}, Rows: []api.Row{row(api.Le, 3, 1)}}, api.Infeasible, ""},
		{"one value among others", api.Program{Vars: []api.Var{{Lower: 4, Upper: 4}, {Open: true, Cost: 1}}, Rows: []api.Row{row(api.Eq, 7, 1, 2)}}, api.Optimal, "3/2"},
		{"integers do not matter", api.Program{Vars: []api.Var{{Upper: 1, Cost: -1, Integer: true}}, Rows: []api.Row{row(api.Le, 1, 3)}}, api.Optimal, "-1/3"},
		{"the greatest numbers", api.Program{Vars: []api.Var{{Lower: least, Upper: most, Cost: least}, {Lower: least, Upper: most, Cost: most}}}, api.Optimal, "-2417851639229258349412352"},
		{"the greatest numbers in a row", api.Program{Vars: []api.Var{{Lower: least, Upper: most, Cost: 1}}, Rows: []api.Row{row(api.Ge, most, most)}}, api.Optimal, "1"},
		{"beyond the reach of the bounds", api.Program{Vars: []api.Var{{Lower: least, Upper: most, Cost: 1}}, Rows: []api.Row{row(api.Ge, most, 1), row(api.Le, most-1, 1)}}, api.Infeasible, ""},
		{"thin", api.Program{Vars: open(1, 1), Rows: []api.Row{row(api.Ge, 1, most, most-1), row(api.Le, 1, most-1, most)}}, api.Optimal, "1/1099511627776"},
	})
}

// P5.1: costs that have no least value in some direction, and rows that close it.
func TestUnbounded(t *testing.T) {
	check(t, []outcome{
		{"along both variables", api.Program{Vars: open(-3, 2), Rows: []api.Row{row(api.Le, 1, 1, -1)}}, api.Unbounded, ""},
		{"too dear", api.Program{Vars: open(-3, 3), Rows: []api.Row{row(api.Le, 1, 1, -1)}}, api.Optimal, "-3"},
		{"the row does not matter", api.Program{Vars: open(-1, 1), Rows: []api.Row{row(api.Le, 5, 0, 1)}}, api.Unbounded, ""},
		{"a second row", api.Program{Vars: open(-3, 2), Rows: []api.Row{row(api.Le, 1, 1, -1), row(api.Le, 4, 1)}}, api.Optimal, "-6"},
		{"an equation", api.Program{Vars: open(-1, 0), Rows: []api.Row{row(api.Eq, -2, 1, -1)}}, api.Unbounded, ""},
		{"at least", api.Program{Vars: open(1, -2), Rows: []api.Row{row(api.Ge, 0, 1, -1), row(api.Ge, -7, -1)}}, api.Optimal, "-7"},
		{"infeasible, though the costs fall", api.Program{Vars: open(-1, -1), Rows: []api.Row{row(api.Ge, 1, 1, -1), row(api.Ge, 1, -1, 1)}}, api.Infeasible, ""},
		{"a bounded variable gives the way", api.Program{Vars: []api.Var{{Open: true, Cost: -1}, {Upper: 9, Cost: 1}}, Rows: []api.Row{row(api.Le, 0, 1, -1)}}, api.Optimal, "0"},
		{"from a point that is not a corner of the bounds", api.Program{Vars: open(0, -1), Rows: []api.Row{row(api.Eq, 3, 2)}}, api.Unbounded, ""},
	})
}

// P5.1: programs that are degenerate: with the steepest column, some of the first ones would repeat the same exchanges for ever.
func TestDegenerate(t *testing.T) {
	chvatal := api.Program{Vars: open(-10, 57, 9, 24), Rows: []api.Row{row(api.Le, 0, 1, -11, -5, 18), row(api.Le, 0, 1, -3, -1, 2), row(api.Le, 1, 1)}}
	beale := api.Program{Vars: open(-75, 15000, -2, 600), Rows: []api.Row{row(api.Le, 0, 25, -6000, -4, 900), row(api.Le, 0, 50, -9000, -2, 300), row(api.Le, 1, 0, 0, 1)}}
	kuhn := api.Program{Vars: open(-2, -3, 1, 12), Rows: []api.Row{row(api.Le, 0, -2, -9, 1, 9), row(api.Le, 0, 1, 3, -1, -6), row(api.Le, 2, 2, 3, -1, -12)}}
	cone := api.Program{Vars: open(-1, -1, -1)}
	for i := range int64(40) {
		cone.Rows = append(cone.Rows, row(api.Le, 0, 20-i, i-3, 5-i%7), row(api.Ge, 0, i%5-2, i%3-9, -i))
	}
	same := api.Program{Vars: box(1, -1, -1, -1, -1)}
	for range 30 {
		same.Rows = append(same.Rows, row(api.Le, 2, 1, 1, 1, 1), row(api.Eq, 0, 1, -1), row(api.Ge, 0, 0, 0, 1, -1), row(api.Ge, 0, 0, 0, -1, 1))
	}
	assignment := api.Program{}
	for i := range int64(144) {
		assignment.Vars = append(assignment.Vars, api.Var{Open: true, Cost: 1 + i*i%7})
	}
	for i := range 12 {
		from, to := api.Row{Kind: api.Eq, Bound: 1}, api.Row{Kind: api.Eq, Bound: 1}
		for j := range 12 {
			from.Terms = append(from.Terms, api.Term{Var: 12*i + j, Coef: 1})
			to.Terms = append(to.Terms, api.Term{Var: 12*j + i, Coef: 1})
		}
		assignment.Rows = append(assignment.Rows, from, to)
	}
	check(t, []outcome{
		{"Chvatal", chvatal, api.Optimal, "-1"},
		{"Beale", beale, api.Optimal, "-5"},
		{"Kuhn", kuhn, api.Optimal, "-2"},
		{"a cone", cone, api.Optimal, "0"},
		{"equal rows", same, api.Optimal, "-2"},
		{"an assignment", assignment, api.Optimal, "14"},
	})
}

// P5.1: as many variables and rows as there may be.
func TestGreatest(t *testing.T) {
	p := api.Program{Vars: make([]api.Var, api.MaxVars), Rows: make([]api.Row, 0, api.MaxRows)}
	for i := range p.Vars {
		p.Vars[i] = api.Var{Upper: 2, Cost: -1 - int64(i%3)}
	}
	for i := range api.MaxRows {
		list := []api.Term{{Var: i % 399, Coef: 1}, {Var: 399, Coef: int64(1 + i/399)}}
		p.Rows = append(p.Rows, api.Row{Kind: api.Le, Terms: list, Bound: 3})
	}
	check(t, []outcome{{"pairs", p, api.Optimal, "-17557/11"}})
}

// P5.1: a distorted cube, through all corners of which a search that looks at the steepest column only would go.
func TestCube(t *testing.T) {
	p, power := api.Program{}, int64(1)
	for i := range 17 {
		p.Vars = append(p.Vars, api.Var{Open: true, Cost: -1 << (16 - i)})
		coefs := []int64{}
		for j := range i {
			coefs = append(coefs, 1<<(i-j+1))
		}
		power *= 5
		p.Rows = append(p.Rows, row(api.Le, power, append(coefs, 1)...))
	}
	check(t, []outcome{{"cube", p, api.Optimal, "-762939453125"}})
}
