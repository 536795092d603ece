package duality_test

import (
	"math"
	"math/rand"
	"reflect"
	"slices"
	"testing"

	"exodus/api"
	"exodus/duality"
	"exodus/rational"
	"exodus/simplex"
)

// want returns what Check has to return for a valid program.
func want(p api.Program, o api.Outcome) api.Errno {
	n, m := len(p.Vars), len(p.Rows)
	sizes := [3]int{len(o.Point), len(o.Multipliers), len(o.Ray)}
	proved := false
	switch o.Kind {
	case api.Optimal:
		proved = sizes == [3]int{n, m, 0} && optimal(p, o.Point, o.Multipliers) && value(o.Value).Cmp(cost(p, values(o.Point, n))) == 0
	case api.Infeasible:
		proved = sizes == [3]int{0, m, 0} && infeasible(p, o.Multipliers) && value(o.Value).Sign() == 0
	case api.Unbounded:
		proved = sizes == [3]int{n, 0, n} && unbounded(p, o.Point, o.Ray) && value(o.Value).Sign() == 0
	default:
		return api.ErrArg
	}
	if proved {
		return api.OK
	}
	return api.ErrRejected
}

// nothing is a fraction that counts as 0.
func nothing() api.Rat {
	return api.Rat{Num: api.Int{Neg: true, Mag: api.Nat{0, 0}}, Den: api.Nat{7}}
}

// P6.2: outcomes of the simplex method, and these with one part changed.
func TestCheck(t *testing.T) {
	counts := map[api.Errno]int{}
	programs(4000, func(r *rand.Rand, p api.Program) {
		verify := func(o api.Outcome) {
			got := duality.Check(p, o)
			if got != want(p, o) {
				t.Fatal(p, o, got)
			}
			counts[got]++
		}
		o, _ := simplex.Solve(p)
		if duality.Check(p, o) != api.OK {
			t.Fatal(p, o)
		}
		for _, change := range []func(c *api.Outcome){
			func(c *api.Outcome) { c.Kind = r.Intn(5) - 1 },
			func(c *api.Outcome) { c.Value = rational.Add(c.Value, frac(1, 3)) },
			func(c *api.Outcome) { c.Value = api.Rat{} },
			func(c *api.Outcome) { c.Point = changed(r, c.Point) },
			func(c *api.Outcome) { c.Multipliers = changed(r, c.Multipliers) },
			func(c *api.Outcome) { c.Ray = changed(r, c.Ray) },
			func(c *api.Outcome) { c.Point = append(slices.Clone(c.Point), api.Rat{}) },
			func(c *api.Outcome) { c.Multipliers = append(slices.Clone(c.Multipliers), api.Rat{}) },
			func(c *api.Outcome) { c.Ray = append(slices.Clone(c.Ray), api.Rat{}) },
			func(c *api.Outcome) { c.Point = c.Point[:max(0, len(c.Point)-1)] },
			func(c *api.Outcome) { c.Multipliers = c.Multipliers[:max(0, len(c.Multipliers)-1)] },
			func(c *api.Outcome) { c.Ray = c.Ray[:max(0, len(c.Ray)-1)] },
			func(c *api.Outcome) { c.Point, c.Ray = c.Ray, c.Point },
		} {
			c := o
			change(&c)
			verify(c)
		}
		if rational.Sign(o.Value) == 0 {
			o.Value = nothing()
			verify(o)
		}
	})
	if min(counts[api.OK], counts[api.ErrArg], counts[api.ErrRejected]) < 1000 {
		t.Error(counts)
	}
}

// P6.2: the conditions of each kind one by one.
func TestCheckParts(t *testing.T) {
	crowded := example()
	crowded.Rows = append(crowded.Rows, row(api.Ge, 7, 1, 1))
	best := api.Outcome{Value: rational.From(-7), Point: list(1, 3), Multipliers: list(-1)}
	none := api.Outcome{Kind: api.Infeasible, Multipliers: list(-1, 1)}
	endless := api.Outcome{Kind: api.Unbounded, Point: list(0, 0, 1), Ray: list(1, 1, 0)}
	for i, c := range []struct {
		p      api.Program
		o      api.Outcome
		change func(o *api.Outcome)
		want   api.Errno
	}{
		{example(), best, func(o *api.Outcome) {}, api.OK},
		{example(), best, func(o *api.Outcome) { o.Ray = []api.Rat{} }, api.OK},
		{example(), best, func(o *api.Outcome) { o.Value, o.Point = odd(-14, 2), []api.Rat{odd(2, 2), odd(9, 3)} }, api.OK},
		{example(), best, func(o *api.Outcome) { o.Value = rational.From(-8) }, api.ErrRejected},
		{example(), best, func(o *api.Outcome) { o.Value = api.Rat{} }, api.ErrRejected},
		{example(), best, func(o *api.Outcome) { o.Point = list(1, 3, 0) }, api.ErrRejected},
		{example(), best, func(o *api.Outcome) { o.Multipliers = list(-1, 0) }, api.ErrRejected},
		{example(), best, func(o *api.Outcome) { o.Multipliers = nil }, api.ErrRejected},
		{example(), best, func(o *api.Outcome) { o.Ray = list(0) }, api.ErrRejected},
		{example(), best, func(o *api.Outcome) { o.Ray = list(0, 0) }, api.ErrRejected},
		{example(), best, func(o *api.Outcome) { o.Kind = api.Infeasible }, api.ErrRejected},
		{example(), best, func(o *api.Outcome) { o.Kind = 3 }, api.ErrArg},
		{example(), best, func(o *api.Outcome) { o.Kind = -1 }, api.ErrArg},
		{example(), best, func(o *api.Outcome) { o.Kind = math.MinInt }, api.ErrArg},
		{crowded, none, func(o *api.Outcome) {}, api.OK},
		{crowded, none, func(o *api.Outcome) { o.Value = nothing() }, api.OK},
		{crowded, none, func(o *api.Outcome) { o.Value = rational.From(1) }, api.ErrRejected},
		{crowded, none, func(o *api.Outcome) { o.Point = list(0, 0) }, api.ErrRejected},
		{crowded, none, func(o *api.Outcome) { o.Ray = list(0, 0) }, api.ErrRejected},
		{crowded, none, func(o *api.Outcome) { o.Multipliers = list(-1, 1, 0) }, api.ErrRejected},
		{crowded, none, func(o *api.Outcome) { o.Multipliers = list(-1) }, api.ErrRejected},
		{crowded, none, func(o *api.Outcome) { o.Kind = api.Optimal }, api.ErrRejected},
		{cone(), endless, func(o *api.Outcome) {}, api.OK},
		{cone(), endless, func(o *api.Outcome) { o.Value = nothing() }, api.OK},
		{cone(), endless, func(o *api.Outcome) { o.Value = frac(-1, 2) }, api.ErrRejected},
		{cone(), endless, func(o *api.Outcome) { o.Ray = list(1, 1) }, api.ErrRejected},
		{cone(), endless, func(o *api.Outcome) { o.Ray = list(1, 1, 0, 0) }, api.ErrRejected},
		{cone(), endless, func(o *api.Outcome) { o.Point = list(0, 0, 1, 0) }, api.ErrRejected},
		{cone(), endless, func(o *api.Outcome) { o.Multipliers = list(0, 0, 0) }, api.ErrRejected},
		{cone(), endless, func(o *api.Outcome) { o.Multipliers = list(0) }, api.ErrRejected},
		{cone(), endless, func(o *api.Outcome) { o.Kind = api.Infeasible }, api.ErrRejected},
		{api.Program{}, api.Outcome{}, func(o *api.Outcome) {}, api.OK},
		{api.Program{}, api.Outcome{}, func(o *api.Outcome) { o.Kind = api.Infeasible }, api.ErrRejected},
		{api.Program{}, api.Outcome{}, func(o *api.Outcome) { o.Kind = api.Unbounded }, api.ErrRejected},
	} {
		o := c.o
		c.change(&o)
		if got := duality.Check(c.p, o); got != c.want {
			t.Error(i, got)
		}
	}
}

// The section Errors: programs that are not valid, also with outcomes that are rejected for all others.
func TestCheckErrors(t *testing.T) {
	for i, p := range broken() {
		for kind := range 4 {
			if got := duality.Check(p, api.Outcome{Kind: kind, Point: list(1, 3), Multipliers: list(-1)}); got != api.ErrArg {
				t.Error(i, kind, got)
			}
		}
	}
}

// P6.3: points do not cost less than bounds, and there are no proofs of two kinds.
func TestKindsExcludeEachOther(t *testing.T) {
	programs(4000, func(r *rand.Rand, p api.Program) {
		x, found, _ := simplex.Feasible(p)
		o, _ := simplex.Solve(p)
		for _, y := range [][]api.Rat{o.Multipliers, changed(r, o.Multipliers), fractions(r, len(p.Rows)), nil} {
			b, ok := duality.Bound(p, y)
			if ok && found && value(b).Cmp(cost(p, values(x, len(p.Vars)))) > 0 {
				t.Fatal("a point costs less", p, x, y)
			}
			if found && duality.Infeasible(p, y) {
				t.Fatal("there is a point", p, x, y)
			}
			if ok && o.Kind == api.Unbounded {
				t.Fatal("there is a bound", p, y)
			}
		}
		if o.Kind != api.Unbounded {
			return
		}
		for steps := range int64(4) {
			before, after := along(o, steps), along(o, steps+1)
			if !feasible(p, values(after, len(p.Vars))) || cost(p, values(after, len(p.Vars))).Cmp(cost(p, values(before, len(p.Vars)))) >= 0 {
				t.Fatal("the ray ends", p, o)
			}
		}
	})
}

// along returns the point that lies some steps in the direction of the ray.
func along(o api.Outcome, steps int64) []api.Rat {
	out := []api.Rat{}
	for i, a := range o.Point {
		out = append(out, rational.Add(a, rational.Mul(o.Ray[i], rational.From(steps))))
	}
	return out
}

// P6.4
func TestProofsStay(t *testing.T) {
	proofs := 0
	programs(6000, func(r *rand.Rand, p api.Program) {
		o, _ := simplex.Solve(p)
		if o.Kind != api.Infeasible {
			return
		}
		proofs++
		q, y := api.Program{Vars: slices.Clone(p.Vars)}, []api.Rat{}
		for i, line := range p.Rows {
			if rational.Sign(o.Multipliers[i]) != 0 {
				q.Rows, y = append(q.Rows, line), append(y, o.Multipliers[i])
			}
		}
		if !duality.Infeasible(q, y) {
			t.Fatal("without rows", p, o)
		}
		q.Rows = append(q.Rows, random(r).Rows...)
		for i, line := range q.Rows[len(y):] {
			line.Terms = slices.DeleteFunc(slices.Clone(line.Terms), func(a api.Term) bool { return a.Var >= len(q.Vars) })
			q.Rows[len(y)+i] = line
		}
		for i, v := range q.Vars {
			if v.Lower++; v.Open && r.Intn(2) == 0 {
				v.Open, v.Upper = false, v.Lower+r.Int63n(3)
			}
			q.Vars[i] = v
		}
		if !duality.Infeasible(q, y) {
			t.Fatal("with more rows and narrower bounds", p, q, y)
		}
	})
	if proofs < 1000 {
		t.Error(proofs)
	}
}

// The last sentence of the guarantees: arguments stay as they are, and results have memory of their own.
func TestMemory(t *testing.T) {
	programs(1000, func(r *rand.Rand, p api.Program) {
		o, _ := simplex.Solve(p)
		x, y := changed(r, o.Point), changed(r, o.Multipliers)
		before := reflect.ValueOf(copied(p, x, y, o))
		first, ok := duality.Bound(p, o.Multipliers)
		text := rational.Text(first)
		duality.Optimal(p, x, y)
		duality.Infeasible(p, y)
		duality.Unbounded(p, x, o.Ray)
		duality.Check(p, o)
		for _, digits := range []api.Nat{first.Num.Mag, first.Den} {
			for i := range digits[:cap(digits)] {
				digits[:cap(digits)][i] = 0xdeadbeef
			}
		}
		again, okAgain := duality.Bound(p, o.Multipliers)
		if !reflect.DeepEqual(before.Interface(), copied(p, x, y, o)) || rational.Text(again) != text || ok != okAgain {
			t.Fatal(p, o)
		}
	})
}

// copied returns arguments in other memory.
func copied(p api.Program, lists ...any) []any {
	out := []any{slices.Clone(p.Vars)}
	for _, line := range p.Rows {
		line.Terms = slices.Clone(line.Terms)
		out = append(out, line)
	}
	texts := func(list []api.Rat) {
		for _, a := range list {
			out = append(out, a.Num.Neg, slices.Clone(a.Num.Mag), slices.Clone(a.Den))
		}
	}
	for _, l := range lists {
		switch l := l.(type) {
		case []api.Rat:
			texts(l)
		case api.Outcome:
			out = append(out, l.Kind)
			texts(slices.Concat([]api.Rat{l.Value}, l.Point, l.Multipliers, l.Ray))
		}
	}
	return out
}
