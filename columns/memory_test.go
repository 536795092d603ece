package columns_test

import (
	"math/rand"
	"reflect"
	"slices"
	"testing"

	"exodus/api"
	"exodus/columns"
)

// spare returns a list in other memory, with spare capacity that is in use.
func spare[T any](list []T, value T) []T {
	return append(slices.Clone(list), value)[:len(list)]
}

// copied returns a program in other memory, with spare capacity that is in use.
func copied(p api.Program) api.Program {
	term := api.Term{Var: 77, Coef: 88}
	rows := []api.Row{}
	for _, line := range p.Rows {
		line.Terms = spare(line.Terms, term)
		rows = append(rows, line)
	}
	return api.Program{Vars: spare(p.Vars, api.Var{Cost: 99}), Rows: spare(rows, api.Row{Name: "spare", Terms: []api.Term{term}})}
}

// whatLies returns everything that the lists of a program have room for, as new memory.
func whatLies(p api.Program) api.Program {
	p = api.Program{Vars: slices.Clone(p.Vars[:cap(p.Vars)]), Rows: slices.Clone(p.Rows[:cap(p.Rows)])}
	for i, line := range p.Rows {
		p.Rows[i].Terms = slices.Clone(line.Terms[:cap(line.Terms)])
	}
	return p
}

// overwriteList changes everything for which a list has room.
func overwriteList[T any](list []T, value T) {
	for i := range list[:cap(list)] {
		list[:cap(list)][i] = value
	}
}

// overwriteProgram changes everything that can be reached from a program.
func overwriteProgram(p api.Program) {
	for _, line := range p.Rows[:cap(p.Rows)] {
		overwriteList(line.Terms, api.Term{Var: -77})
	}
	overwriteList(p.Rows, api.Row{Name: "overwritten"})
	overwriteList(p.Vars, api.Var{Lower: -77})
}

// The last sentence of the guarantees: arguments stay as they are, and results have memory of their own.
func TestMemory(t *testing.T) {
	programs(800, func(r *rand.Rand, p api.Program, blocks []int) {
		p, blocks = copied(p), spare(blocks, 7)
		before, numbers := whatLies(p), slices.Clone(blocks[:cap(blocks)])
		first, _ := columns.Solve(p, blocks)
		later, _ := columns.Solve(p, blocks)
		list := slices.Concat([]api.Rat{first.Value}, first.Point, first.Multipliers)
		for i, a := range list {
			rest := texts(list[i+1:])
			overwriteList(a.Num.Mag, 0xdeadbeef)
			overwriteList(a.Den, 0xdeadbeef)
			if !slices.Equal(texts(list[i+1:]), rest) {
				t.Fatal("the fractions share memory", p)
			}
		}
		for _, b := range blocks {
			overwriteProgram(columns.Block(p, blocks, b))
		}
		overwriteList(columns.Linking(p, blocks), -7)
		if !reflect.DeepEqual(whatLies(p), before) || !slices.Equal(blocks[:cap(blocks)], numbers) {
			t.Fatal("arguments have changed", p)
		}
		if again, _ := columns.Solve(p, blocks); !reflect.DeepEqual(again, later) {
			t.Fatal("results have changed", p)
		}
	})
}
