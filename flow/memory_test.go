package flow_test

import (
	"math/rand"
	"reflect"
	"slices"
	"testing"

	"exodus/api"
	"exodus/flow"
)

// results is what all functions return for one network and one flow.
type results struct {
	Best    api.Flow
	Over    api.Network
	Paths   [][]int
	Amounts []int64
	Others  []int64
}

// run calls all functions of the package.
func run(n api.Network, f api.Flow, slots int) results {
	out := results{}
	out.Best, _ = flow.Max(n)
	out.Over, _ = flow.Expand(n, slots)
	out.Paths, out.Amounts, _ = flow.Paths(n, f)
	out.Others = []int64{flow.Capacity(n, f.Side), int64(flow.Check(n, f))}
	if flow.Valid(n) {
		out.Others = append(out.Others, 1)
	}
	return out
}

// overwrite changes everything that can be reached from a list.
func overwrite[T any](list []T, value T) {
	for i := range list[:cap(list)] {
		list[:cap(list)][i] = value
	}
}

// spare returns a list in other memory, with spare capacity that is in use.
func spare[T any](list []T, value T) []T {
	return append(slices.Clone(list), value)[:len(list)]
}

// whatLies returns everything that the lists of arguments have room for, as new memory.
func whatLies(n api.Network, f api.Flow) []any {
	return []any{slices.Clone(n.Arcs[:cap(n.Arcs)]), slices.Clone(f.Amount[:cap(f.Amount)]), slices.Clone(f.Side[:cap(f.Side)])}
}

// The last sentence of the guarantees: arguments stay as they are, and results have memory of their own.
func TestMemory(t *testing.T) {
	networks(1000, func(r *rand.Rand, n api.Network) {
		f, slots := wander(r, n), r.Intn(4)
		n.Arcs, f.Amount, f.Side = spare(n.Arcs, arc(7, 7, 7)), spare(f.Amount, 77), spare(f.Side, true)
		before := whatLies(n, f)
		first, later := run(n, f, slots), run(n, f, slots)
		overwrite(first.Best.Amount, -1)
		overwrite(first.Best.Side, true)
		overwrite(first.Over.Arcs, arc(8, 8, 8))
		overwrite(first.Amounts, -1)
		for i, path := range first.Paths {
			overwrite(path, -1)
			if !reflect.DeepEqual(first.Paths[i+1:], later.Paths[i+1:]) {
				t.Fatal("paths share memory", n, f)
			}
		}
		if !reflect.DeepEqual(whatLies(n, f), before) {
			t.Fatal("arguments have changed", n, f)
		}
		if again := run(n, f, slots); !reflect.DeepEqual(again, later) {
			t.Fatal("results have changed", n, f)
		}
	})
}
