package cuts_test

import (
	"math/rand"
	"reflect"
	"slices"
	"testing"

	"exodus/api"
	"exodus/cuts"
)

// results is what all functions return for one program, one cut and one point.
type results struct {
	row   api.Row
	added api.Program
	cuts  []api.Cut
}

// run calls all functions of the package.
func run(p api.Program, c api.Cut, x []api.Rat) results {
	out := results{cuts: cuts.Separate(p, x)}
	out.row, _ = cuts.Derive(p, c)
	out.added, _ = cuts.Add(p, c)
	for i := range p.Rows {
		found, _ := cuts.Cover(p, i, x)
		out.cuts = append(out.cuts, found)
	}
	return out
}

// spare is what lists have behind their ends.
var spare = api.Term{Var: 77, Coef: 88}

// copiedRats returns fractions in other memory, with spare capacity.
func copiedRats(list []api.Rat) []api.Rat {
	out := []api.Rat{}
	for _, a := range list {
		out = append(out, api.Rat{Num: api.Int{Neg: a.Num.Neg, Mag: append(slices.Clone(a.Num.Mag), 99)[:len(a.Num.Mag)]}, Den: append(slices.Clone(a.Den), 99)[:len(a.Den)]})
	}
	return append(out, api.Rat{Den: api.Nat{99}})[:len(list)]
}

// copiedCut returns a cut in other memory, with spare capacity.
func copiedCut(c api.Cut) api.Cut {
	c.Multipliers, c.Vars = copiedRats(c.Multipliers), append(slices.Clone(c.Vars), 99)[:len(c.Vars)]
	return c
}

// copied returns a program in other memory, with spare capacity.
func copied(p api.Program) api.Program {
	out := api.Program{Vars: append(slices.Clone(p.Vars), api.Var{Cost: 99})[:len(p.Vars)]}
	for _, line := range p.Rows {
		line.Terms = append(slices.Clone(line.Terms), spare)[:len(line.Terms)]
		out.Rows = append(out.Rows, line)
	}
	out.Rows = append(out.Rows, api.Row{Name: "spare", Terms: []api.Term{spare}})[:len(p.Rows)]
	return out
}

// whatLies returns everything that the lists of arguments have room for, as new memory.
func whatLies(p api.Program, c api.Cut, x []api.Rat) []any {
	p = api.Program{Vars: slices.Clone(p.Vars[:cap(p.Vars)]), Rows: slices.Clone(p.Rows[:cap(p.Rows)])}
	for i, line := range p.Rows {
		p.Rows[i].Terms = slices.Clone(line.Terms[:cap(line.Terms)])
	}
	digits := []api.Nat{}
	for _, a := range slices.Concat(c.Multipliers[:cap(c.Multipliers)], x[:cap(x)]) {
		digits = append(digits, slices.Clone(a.Num.Mag[:cap(a.Num.Mag)]), slices.Clone(a.Den[:cap(a.Den)]))
	}
	return []any{p, c.Kind, c.Row, slices.Clone(c.Vars[:cap(c.Vars)]), digits}
}

// overwrite changes everything that can be reached from results.
func overwrite(out results) {
	for _, line := range append(out.added.Rows[:cap(out.added.Rows)], out.row) {
		for i := range line.Terms[:cap(line.Terms)] {
			line.Terms[:cap(line.Terms)][i] = api.Term{Var: -77}
		}
	}
	for i := range out.added.Vars[:cap(out.added.Vars)] {
		out.added.Vars[:cap(out.added.Vars)][i] = api.Var{Lower: -77}
	}
	for i := range out.added.Rows[:cap(out.added.Rows)] {
		out.added.Rows[:cap(out.added.Rows)][i] = api.Row{Name: "overwritten"}
	}
	for _, c := range out.cuts {
		overwriteCut(c)
	}
}

// overwriteCut changes everything that can be reached from a cut.
func overwriteCut(c api.Cut) {
	for i := range c.Vars[:cap(c.Vars)] {
		c.Vars[:cap(c.Vars)][i] = -77
	}
	for _, a := range c.Multipliers[:cap(c.Multipliers)] {
		for _, digits := range []api.Nat{a.Num.Mag, a.Den} {
			for i := range digits[:cap(digits)] {
				digits[:cap(digits)][i] = 0xdeadbeef
			}
		}
	}
}

// The last sentence of the guarantees: arguments stay as they are, and results have memory of their own.
func TestMemory(t *testing.T) {
	programs(3000, func(r *rand.Rand, p api.Program) {
		p = copied(p)
		c, x := copiedCut(randomCut(r, p)), copiedRats(randomPoint(r, len(p.Vars)))
		before := whatLies(p, c, x)
		first, later := run(p, c, x), run(p, c, x)
		overwrite(first)
		if !reflect.DeepEqual(whatLies(p, c, x), before) {
			t.Fatal("arguments have changed", p, c, x)
		}
		again := run(p, c, x)
		if !equal(again.row, later.row) || !slices.Equal(again.added.Vars, later.added.Vars) || !slices.EqualFunc(again.added.Rows, later.added.Rows, equal) || !slices.EqualFunc(again.cuts, later.cuts, sameCut) {
			t.Fatal("results have changed", p, c, x)
		}
	})
}

// P7.3: the cuts of one result share no memory with each other.
func TestCutsApart(t *testing.T) {
	programs(3000, func(r *rand.Rand, p api.Program) {
		list := cuts.Separate(p, randomPoint(r, len(p.Vars)))
		for i, c := range list {
			rest := []api.Cut{}
			for _, other := range list[i+1:] {
				rest = append(rest, copiedCut(other))
			}
			overwriteCut(c)
			if !slices.EqualFunc(list[i+1:], rest, sameCut) {
				t.Fatal(p, i)
			}
		}
	})
}
