package proof_test

import (
	"math/rand"
	"reflect"
	"slices"
	"testing"

	"exodus/api"
	"exodus/branch"
	"exodus/proof"
)

// spare returns a program in other memory, with spare capacity that is in use.
func spare(p api.Program) api.Program {
	term := api.Term{Var: 77, Coef: 88}
	out := api.Program{Vars: append(slices.Clone(p.Vars), api.Var{Cost: 99})[:len(p.Vars)]}
	for _, line := range p.Rows {
		line.Terms = append(slices.Clone(line.Terms), term)[:len(line.Terms)]
		out.Rows = append(out.Rows, line)
	}
	out.Rows = append(out.Rows, api.Row{Name: "spare", Terms: []api.Term{term}})[:len(p.Rows)]
	return out
}

// digits returns everything that fractions have room for, as new memory.
func digits(fractions []api.Rat) []any {
	out := []any{}
	for _, a := range fractions[:cap(fractions)] {
		out = append(out, a.Num.Neg, slices.Clone(a.Num.Mag[:cap(a.Num.Mag)]), slices.Clone(a.Den[:cap(a.Den)]))
	}
	return out
}

// whatLies returns everything that the lists of arguments have room for, as new memory.
func whatLies(p api.Program, a api.Answer) []any {
	out := []any{slices.Clone(p.Vars[:cap(p.Vars)]), slices.Clone(a.Point[:cap(a.Point)])}
	for _, line := range p.Rows[:cap(p.Rows)] {
		out = append(out, line.Name, line.Group, line.Kind, line.Bound, slices.Clone(line.Terms[:cap(line.Terms)]))
	}
	for _, n := range a.Proof[:cap(a.Proof)] {
		out = append(out, n.Kind, n.Var, n.At, n.Cut.Kind, n.Cut.Row, slices.Clone(n.Cut.Vars[:cap(n.Cut.Vars)]))
		out = append(out, digits(n.Multipliers), digits(n.Cut.Multipliers))
	}
	return out
}

// The last sentence of the guarantees: arguments stay as they are, whatever is accepted.
func TestArgumentsStay(t *testing.T) {
	verify := func(p api.Program, a api.Answer) {
		p, a.Proof = spare(p), copied(a.Proof)
		a.Point = append(slices.Clone(a.Point), 99)[:len(a.Point)]
		before := whatLies(p, a)
		for range 2 {
			proof.Check(p, a.Proof)
			proof.Depth(a.Proof)
			proof.Format(a.Proof)
			proof.Answer(p, a)
		}
		if !reflect.DeepEqual(whatLies(p, a), before) {
			t.Fatal("arguments have changed", p, a)
		}
	}
	hopeless(800, func(r *rand.Rand, p api.Program, nodes []api.Node) {
		verify(p, api.Answer{Proof: nodes})
		verify(p, api.Answer{Proof: changed(r, nodes)})
	})
	programs(800, func(r *rand.Rand, p api.Program) {
		a, _ := branch.Solve(p)
		verify(p, a)
		a.Proof = changed(r, a.Proof)
		verify(p, a)
	})
}

// overwrite changes everything that can be reached from a node.
func overwrite(n api.Node) {
	for _, y := range [][]api.Rat{n.Multipliers, n.Cut.Multipliers} {
		for _, a := range y[:cap(y)] {
			for _, list := range []api.Nat{a.Num.Mag, a.Den} {
				for i := range list[:cap(list)] {
					list[:cap(list)][i] = 0xdeadbeef
				}
			}
		}
	}
	for i := range n.Cut.Vars[:cap(n.Cut.Vars)] {
		n.Cut.Vars[:cap(n.Cut.Vars)][i] = -77
	}
}

// P9.3 and the last sentence of the guarantees: the nodes that Parse returns share no memory with each other or with later results.
func TestNodesApart(t *testing.T) {
	r := rand.New(rand.NewSource(7))
	for range 2000 {
		s := proof.Format(someTree(r, 4))
		first, _ := proof.Parse(s)
		second, _ := proof.Parse(s)
		for i, n := range first {
			overwrite(n)
			if !same(first[i+1:], second[i+1:]) {
				t.Fatal(s, i)
			}
		}
		if again, _ := proof.Parse(s); !same(again, second) {
			t.Fatal(s)
		}
	}
}
