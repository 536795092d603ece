package columns_test

import (
	"math"
	"math/rand"
	"slices"
	"testing"

	"exodus/api"
	"exodus/columns"
	"exodus/duality"
	"exodus/rational"
	"exodus/simplex"
)

// terms returns terms with the given coefficients of the variables 0, 1 and so on; those that are 0 are left out.
func terms(coefs ...int64) []api.Term {
	list := []api.Term{}
	for i, coef := range coefs {
		if coef != 0 {
			list = append(list, api.Term{Var: i, Coef: coef})
		}
	}
	return list
}

// row returns a row.
func row(kind int, bound int64, coefs ...int64) api.Row {
	return api.Row{Kind: kind, Bound: bound, Terms: terms(coefs...)}
}

// box returns variables from 0 to upper with the given costs.
func box(upper int64, costs ...int64) []api.Var {
	list := []api.Var{}
	for _, cost := range costs {
		list = append(list, api.Var{Upper: upper, Cost: cost})
	}
	return list
}

// program returns a program.
func program(vars []api.Var, rows ...api.Row) api.Program {
	return api.Program{Vars: vars, Rows: rows}
}

// example returns the program of the chapter's example, and its blocks.
func example() (api.Program, []int) {
	return program(box(3, -1, -2), row(api.Le, 4, 1, 1)), []int{0, 1}
}

// shape describes random programs with blocks.
type shape struct {
	blocks, vars, rows, links int   // vars and rows are those of each block
	size                      int64 // of the coefficients and costs
	dense                     int   // how many of ten coefficients are not 0
}

// random returns a random program of a shape, most rows of which are near a point within the bounds, and its blocks.
func (s shape) random(r *rand.Rand) (api.Program, []int) {
	p, blocks, names := api.Program{}, []int{}, r.Perm(32)
	number := func() int64 { return r.Int63n(2*s.size+1) - s.size }
	for range s.blocks * s.vars {
		lower := r.Int63n(7) - 3
		p.Vars = append(p.Vars, api.Var{Lower: lower, Upper: lower + r.Int63n(7), Cost: number(), Integer: r.Intn(2) == 0})
		blocks = append(blocks, names[r.Intn(max(1, s.blocks))])
	}
	add := func(block int) {
		line := api.Row{Name: "row", Group: r.Intn(3), Kind: r.Intn(7) / 3}
		for i, v := range p.Vars {
			if (block < 0 || blocks[i] == block) && r.Intn(10) < s.dense {
				coef := number() | 1
				line.Terms = append(line.Terms, api.Term{Var: i, Coef: coef})
				line.Bound += coef * min(v.Upper, v.Lower+int64(i%2))
			}
		}
		line.Bound += r.Int63n(3) - 1
		p.Rows = append(p.Rows, line)
	}
	for k := range s.blocks * s.rows {
		add(names[k%s.blocks])
	}
	for range s.links {
		add(-1)
	}
	r.Shuffle(len(p.Rows), func(i, j int) { p.Rows[i], p.Rows[j] = p.Rows[j], p.Rows[i] })
	return p, blocks
}

// programs calls check for many programs of few variables and rows, and their blocks.
func programs(count int, check func(r *rand.Rand, p api.Program, blocks []int)) {
	r := rand.New(rand.NewSource(1))
	for i := range count {
		size := []int64{1, 2, 9, 1000, 1 << 35}[i%5]
		p, blocks := shape{r.Intn(5), 1 + r.Intn(3), r.Intn(2), r.Intn(4), size, 3 + r.Intn(8)}.random(r)
		if len(p.Vars) > 0 && r.Intn(20) == 0 {
			v := &p.Vars[r.Intn(len(p.Vars))]
			v.Lower = v.Upper + 1
		}
		check(r, p, blocks)
	}
}

// misfit is a program with blocks that do not fit it.
type misfit struct {
	name   string
	p      api.Program
	blocks []int
}

// misfits returns programs with blocks that do not fit them.
func misfits() []misfit {
	p, _ := example()
	list := []misfit{}
	for name, blocks := range map[string][]int{
		"none": nil, "too few": {0}, "too many": {0, 1, 2}, "below 0": {-1, 0}, "above 31": {0, 32}, "far below": {math.MinInt, 0}, "far above": {0, math.MaxInt},
	} {
		list = append(list, misfit{name, p, blocks})
	}
	list = append(list, misfit{"one for no variable", program(nil), []int{0}})
	for name, v := range map[string]api.Var{"open": {Open: true}, "too great": {Upper: 1<<40 + 1}, "too dear": {Cost: math.MinInt64}} {
		list = append(list, misfit{name, program([]api.Var{{}, v}), []int{0, 0}})
	}
	for name, line := range map[string]api.Row{
		"kind": {Kind: 3}, "group": {Group: 61}, "name": {Name: "\n"}, "no such variable": row(api.Le, 0, 0, 0, 1), "bound": row(api.Le, math.MaxInt64),
		"negative variable": {Terms: []api.Term{{Var: -1, Coef: 1}}}, "twice": {Terms: []api.Term{{Coef: 1}, {Coef: 1}}}, "coefficient 0": {Terms: []api.Term{{}}},
	} {
		list = append(list, misfit{name, program(box(3, 1, 1), line), []int{0, 1}})
	}
	list = append(list, misfit{"many rows", api.Program{Rows: make([]api.Row, api.MaxRows+1)}, nil})
	return append(list, misfit{"many variables", api.Program{Vars: make([]api.Var, api.MaxVars+1)}, make([]int, api.MaxVars+1)})
}

// solved returns the outcome of a program, and fails unless it is proved, has valid fractions, and has the kind and the value of layer 5.
func solved(t *testing.T, p api.Program, blocks []int) api.Outcome {
	t.Helper()
	o, err := columns.Solve(p, blocks)
	if err != api.OK || duality.Check(p, o) != api.OK {
		t.Fatal("not proved:", p, blocks, o, err)
	}
	for _, a := range slices.Concat([]api.Rat{o.Value}, o.Point, o.Multipliers) {
		if !rational.Valid(a) {
			t.Fatal("not valid:", p, blocks, a)
		}
	}
	if direct, _ := simplex.Solve(p); direct.Kind != o.Kind || rational.Cmp(direct.Value, o.Value) != 0 {
		t.Fatal("another outcome:", p, blocks, o, direct)
	}
	return o
}

// texts returns the texts of fractions.
func texts(list []api.Rat) []string {
	out := []string{}
	for _, a := range list {
		out = append(out, rational.Text(a))
	}
	return out
}
