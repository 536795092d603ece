package linear_test

import (
	"math/rand"
	"reflect"
	"slices"
	"testing"

	"exodus/api"
	"exodus/linear"
)

// results is what all functions return for one program and one list of fractions.
type results struct {
	Rats    []api.Rat
	Numbers []int
	Program api.Program
	Lines   []string
}

// run calls all functions of the package.
func run(p api.Program, x []api.Rat, groups []int) results {
	coefs, bound := linear.Combine(p, x)
	least, found := linear.Least(p, x)
	out := results{Rats: append(coefs, bound, least, linear.Cost(p, x)), Program: linear.Without(p, groups...), Lines: linear.Format(p)}
	for _, row := range p.Rows {
		out.Rats = append(out.Rats, linear.Dot(row.Terms, x))
	}
	out.Numbers = append(linear.Violated(p, x), -1)
	out.Numbers = append(out.Numbers, linear.Groups(p)...)
	for i, ok := range []bool{found, linear.Valid(p), linear.Inside(p, x), linear.Integral(p, x), linear.Signed(p, x)} {
		if ok {
			out.Numbers = append(out.Numbers, i)
		}
	}
	return out
}

// copied returns fractions in other memory.
func copied(list []api.Rat) []api.Rat {
	out := make([]api.Rat, 0, len(list))
	for _, a := range list {
		out = append(out, api.Rat{Num: api.Int{Neg: a.Num.Neg, Mag: slices.Clone(a.Num.Mag)}, Den: slices.Clone(a.Den)})
	}
	return out
}

// duplicate returns a program in other memory, whose lists have spare capacity that is in use.
func duplicate(p api.Program) api.Program {
	out := api.Program{Vars: append(slices.Clone(p.Vars), api.Var{Cost: 99})[:len(p.Vars)]}
	for _, row := range p.Rows {
		row.Terms = append(slices.Clone(row.Terms), api.Term{Coef: 99})[:len(row.Terms)]
		out.Rows = append(out.Rows, row)
	}
	out.Rows = append(out.Rows, api.Row{Name: "spare"})[:len(p.Rows)]
	return out
}

// full returns a program with all that its lists have room for.
func full(p api.Program) api.Program {
	p.Vars, p.Rows = p.Vars[:cap(p.Vars)], slices.Clone(p.Rows[:cap(p.Rows)])
	for i, row := range p.Rows {
		p.Rows[i].Terms = row.Terms[:cap(row.Terms)]
	}
	return p
}

// overwrite changes everything that can be reached from results.
func overwrite(out results) {
	for _, a := range out.Rats {
		for _, digits := range []api.Nat{a.Num.Mag, a.Den} {
			for i := range digits[:cap(digits)] {
				digits[:cap(digits)][i] = 0xdeadbeef
			}
		}
	}
	p := full(out.Program)
	for i := range p.Vars {
		p.Vars[i] = api.Var{Lower: -77}
	}
	for _, row := range p.Rows {
		for i := range row.Terms {
			row.Terms[i] = api.Term{Var: -77}
		}
	}
	for i := range out.Program.Rows[:cap(out.Program.Rows)] {
		out.Program.Rows[:cap(out.Program.Rows)][i] = api.Row{Name: "overwritten"}
	}
}

// The last sentence of the guarantees: arguments stay as they are, and results have memory of their own.
func TestMemory(t *testing.T) {
	programs(func(r *rand.Rand, p api.Program) {
		p = duplicate(p)
		x := randomPoint(r, max(len(p.Vars), len(p.Rows)))
		groups := []int{0, 3, 5, r.Intn(61)}
		beforeP, beforeX, beforeGroups := duplicate(full(p)), copied(x), slices.Clone(groups)
		first, later := run(p, x, groups), run(p, x, groups)
		overwrite(first)
		if !same(full(p), beforeP) || !reflect.DeepEqual(copied(x), beforeX) || !slices.Equal(groups, beforeGroups) {
			t.Fatal("arguments have changed", p, x, groups)
		}
		if again := run(p, x, groups); !reflect.DeepEqual(copied(again.Rats), copied(later.Rats)) || !same(again.Program, later.Program) || !slices.Equal(again.Numbers, later.Numbers) || !slices.Equal(again.Lines, later.Lines) {
			t.Fatal("results have changed", p, x, groups)
		}
	})
}

// P4.2, P4.3 and P4.4: the fractions of one result share no memory with each other.
func TestFractionsApart(t *testing.T) {
	programs(func(r *rand.Rand, p api.Program) {
		coefs, bound := linear.Combine(p, randomPoint(r, len(p.Rows)))
		list := append(coefs, bound)
		for i, a := range list {
			rest := copied(list[i+1:])
			overwrite(results{Rats: []api.Rat{a}})
			if !reflect.DeepEqual(copied(list[i+1:]), rest) {
				t.Fatal(p, i)
			}
		}
	})
}

// same reports whether two programs are equal, apart from the difference of nil and empty lists.
func same(p, q api.Program) bool {
	return slices.Equal(p.Vars, q.Vars) && slices.EqualFunc(p.Rows, q.Rows, func(a, b api.Row) bool {
		return a.Name == b.Name && a.Group == b.Group && a.Kind == b.Kind && a.Bound == b.Bound && slices.Equal(a.Terms, b.Terms)
	})
}
