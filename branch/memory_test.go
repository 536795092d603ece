package branch_test

import (
	"math/rand"
	"reflect"
	"slices"
	"testing"

	"exodus/api"
	"exodus/branch"
)

// copied returns a program in other memory, with spare capacity that is in use.
func copied(p api.Program) api.Program {
	spare := api.Term{Var: 77, Coef: 88}
	out := api.Program{Vars: append(slices.Clone(p.Vars), api.Var{Cost: 99})[:len(p.Vars)]}
	for _, line := range p.Rows {
		line.Terms = append(slices.Clone(line.Terms), spare)[:len(line.Terms)]
		out.Rows = append(out.Rows, line)
	}
	out.Rows = append(out.Rows, api.Row{Name: "spare", Terms: []api.Term{spare}})[:len(p.Rows)]
	return out
}

// whatLies returns everything that the lists of a program have room for, as new memory.
func whatLies(p api.Program) api.Program {
	p = api.Program{Vars: slices.Clone(p.Vars[:cap(p.Vars)]), Rows: slices.Clone(p.Rows[:cap(p.Rows)])}
	for i, line := range p.Rows {
		p.Rows[i].Terms = slices.Clone(line.Terms[:cap(line.Terms)])
	}
	return p
}

// overwriteProgram changes everything that can be reached from a program.
func overwriteProgram(p api.Program) {
	for _, line := range p.Rows[:cap(p.Rows)] {
		for i := range line.Terms[:cap(line.Terms)] {
			line.Terms[:cap(line.Terms)][i] = api.Term{Var: -77}
		}
	}
	for i := range p.Rows[:cap(p.Rows)] {
		p.Rows[:cap(p.Rows)][i] = api.Row{Name: "overwritten"}
	}
	for i := range p.Vars[:cap(p.Vars)] {
		p.Vars[:cap(p.Vars)][i] = api.Var{Lower: -77}
	}
}

// overwriteRats changes all digits of fractions.
func overwriteRats(list []api.Rat) {
	for _, a := range list[:cap(list)] {
		for _, digits := range []api.Nat{a.Num.Mag, a.Den} {
			for i := range digits[:cap(digits)] {
				digits[:cap(digits)][i] = 0xdeadbeef
			}
		}
	}
}

// overwriteNode changes everything that can be reached from a node.
func overwriteNode(n api.Node) {
	overwriteRats(n.Multipliers)
	overwriteRats(n.Cut.Multipliers)
	for i := range n.Cut.Vars[:cap(n.Cut.Vars)] {
		n.Cut.Vars[:cap(n.Cut.Vars)][i] = -77
	}
}

// The last sentence of the guarantees: arguments stay as they are, and results have memory of their own.
func TestMemory(t *testing.T) {
	programs(1500, func(r *rand.Rand, p api.Program) {
		p = copied(p)
		before := whatLies(p)
		first, _ := branch.Solve(p)
		later, _ := branch.Solve(p)
		for _, n := range first.Proof {
			overwriteNode(n)
		}
		for i := range first.Point[:cap(first.Point)] {
			first.Point[:cap(first.Point)][i] = -77
		}
		low, high, _ := branch.Split(p, 0, 0)
		below, _ := branch.Below(p, 5)
		wantHigh, wantBelow := whatLies(high), whatLies(below)
		overwriteProgram(low)
		if !reflect.DeepEqual(whatLies(high), wantHigh) {
			t.Fatal("the parts share memory", p)
		}
		overwriteProgram(high)
		if !reflect.DeepEqual(whatLies(below), wantBelow) {
			t.Fatal("results share memory", p)
		}
		overwriteProgram(below)
		if !reflect.DeepEqual(whatLies(p), before) {
			t.Fatal("arguments have changed", p)
		}
		if again, _ := branch.Solve(p); !reflect.DeepEqual(again, later) {
			t.Fatal("results have changed", p)
		}
	})
}

// P8.1: the nodes of a proof share no memory with each other.
func TestNodesApart(t *testing.T) {
	r := rand.New(rand.NewSource(7))
	for i := range 40 {
		p := knapsack(r, i%3, 8, 2, 20)
		first, _ := branch.Solve(p)
		second, _ := branch.Solve(p)
		for k, n := range first.Proof {
			overwriteNode(n)
			if !reflect.DeepEqual(first.Proof[k+1:], second.Proof[k+1:]) {
				t.Fatal(p, k)
			}
		}
	}
}
