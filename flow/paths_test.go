package flow_test

import (
	"math"
	"math/rand"
	"slices"
	"testing"

	"exodus/api"
	"exodus/flow"
)

// follow fails unless paths with amounts are those of a flow.
func follow(t *testing.T, n api.Network, f api.Flow) [][]int {
	t.Helper()
	paths, amounts, err := flow.Paths(n, f)
	if err != api.OK || len(paths) != len(amounts) || len(paths) > len(n.Arcs) {
		t.Fatal(n, f, paths, amounts, err)
	}
	room, sum := map[[2]int]int64{}, int64(0)
	for i, a := range n.Arcs {
		room[[2]int{a.From, a.To}] += f.Amount[i]
	}
	for i, path := range paths {
		sorted := slices.Sorted(slices.Values(path))
		if len(path) < 2 || path[0] != n.Source || path[len(path)-1] != n.Sink || len(slices.Compact(sorted)) != len(path) || amounts[i] <= 0 {
			t.Fatal("no path:", n, f, path, amounts[i])
		}
		for k := range len(path) - 1 {
			pair := [2]int{path[k], path[k+1]}
			if room[pair] -= amounts[i]; room[pair] < 0 {
				t.Fatal("too much:", n, f, paths, amounts)
			}
		}
		sum += amounts[i]
	}
	if sum != f.Value {
		t.Fatal(n, f, paths, amounts)
	}
	return paths
}

// P10.4: flows with circles, arcs in both directions, several arcs between two nodes, and nothing to carry.
func TestPaths(t *testing.T) {
	both := network(2, arc(0, 1, 9), arc(1, 0, 9))
	thrice := network(3, arc(0, 1, 2), arc(0, 1, 3), arc(1, 2, 4), arc(0, 1, 4), arc(1, 2, 5))
	circle := network(4, arc(0, 1, 5), arc(1, 2, 5), arc(2, 1, 5), arc(1, 3, 5), arc(2, 3, 5))
	around := network(4, arc(0, 1, 9), arc(1, 0, 9), arc(1, 2, 9), arc(2, 3, 9), arc(3, 2, 9), arc(3, 0, 9))
	for i, c := range []struct {
		n      api.Network
		value  int64
		amount []int64
		paths  int
	}{
		{example(), 4, []int64{2, 2, 1, 1, 3}, 3},
		{example(), 0, []int64{0, 0, 0, 0, 0}, 0},
		{network(2), 0, nil, 0},
		{both, 5, []int64{7, 2}, 1},
		{both, 0, []int64{9, 9}, 0},
		{thrice, 9, []int64{2, 3, 4, 4, 5}, 1},
		{circle, 1, []int64{1, 5, 5, 1, 0}, 1},
		{circle, 0, []int64{0, 3, 3, 0, 0}, 0},
		{circle, 4, []int64{4, 3, 1, 2, 2}, 2},
		{around, 3, []int64{9, 2, 7, 9, 2, 4}, 1},
		{around, 0, []int64{9, 9, 0, 9, 9, 0}, 0},
	} {
		if paths := follow(t, c.n, api.Flow{Value: c.value, Amount: c.amount}); len(paths) != c.paths {
			t.Error(i, paths)
		}
	}
}

// P10.4: greatest flows and others, with circles through all nodes.
func TestPathsDefinition(t *testing.T) {
	several := 0
	networks(4000, func(r *rand.Rand, n api.Network) {
		best, _ := flow.Max(n)
		if len(follow(t, n, best)) > 1 {
			several++
		}
		f := wander(r, n)
		if f.Value >= 0 {
			follow(t, n, f)
			return
		}
		if paths, amounts, err := flow.Paths(n, f); err != api.ErrRejected || len(paths)+len(amounts) > 0 {
			t.Fatal(n, f, paths, amounts, err)
		}
	})
	if several < 300 {
		t.Error("only", several)
	}
}

// P10.4: networks as large as they may be.
func TestPathsLarge(t *testing.T) {
	r := rand.New(rand.NewSource(3))
	for range 4 {
		n := large(r, api.MaxCoef)
		for i := range n.Arcs {
			if r.Intn(2) == 0 {
				n.Arcs[i].From = 0
			}
			if n.Arcs[i].From == n.Arcs[i].To {
				n.Arcs[i].To = n.Sink
			}
		}
		f, _ := flow.Max(n)
		follow(t, n, f)
	}
}

// P10.4 and the errors of Paths; Side does not matter.
func TestPathsErrors(t *testing.T) {
	for i, c := range []struct {
		n    api.Network
		f    api.Flow
		want api.Errno
	}{
		{example(), api.Flow{Value: 4, Amount: []int64{2, 2, 1, 1, 3}}, api.OK},
		{example(), api.Flow{Value: 4, Amount: []int64{2, 2, 1, 1, 3}, Side: side(7, 3, 4, 5)}, api.OK},
		{example(), api.Flow{Value: 2, Amount: []int64{1, 1, 0, 1, 1}, Side: side(4, 0, 1, 2)}, api.OK},
		{example(), api.Flow{}, api.ErrRejected},
		{example(), api.Flow{Value: 4, Amount: []int64{2, 2, 1, 1}}, api.ErrRejected},
		{example(), api.Flow{Value: 4, Amount: []int64{2, 2, 1, 1, 3, 0}}, api.ErrRejected},
		{example(), api.Flow{Value: 3, Amount: []int64{2, 2, 1, 1, 3}}, api.ErrRejected},
		{example(), api.Flow{Value: -4, Amount: []int64{2, 2, 1, 1, 3}}, api.ErrRejected},
		{example(), api.Flow{Value: 4, Amount: []int64{4, 0, 3, 1, 3}}, api.ErrRejected},
		{example(), api.Flow{Value: 4, Amount: []int64{5, -1, 4, 1, 3}}, api.ErrRejected},
		{example(), api.Flow{Value: 4, Amount: []int64{2, 2, 0, 1, 3}}, api.ErrRejected},
		{network(2, arc(1, 0, 1)), api.Flow{Value: -1, Amount: []int64{1}}, api.ErrRejected},
		{network(2, arc(1, 0, 1)), api.Flow{Value: math.MinInt64, Amount: []int64{math.MinInt64}}, api.ErrRejected},
	} {
		paths, amounts, err := flow.Paths(c.n, c.f)
		if err != c.want || err != api.OK && len(paths)+len(amounts) > 0 {
			t.Error(i, paths, amounts, err)
		}
	}
	for i, n := range broken() {
		for _, f := range []api.Flow{{}, {Value: 4, Amount: []int64{2, 2, 1, 1, 3}}, {Value: -1}} {
			if paths, amounts, err := flow.Paths(n, f); err != api.ErrArg || len(paths)+len(amounts) > 0 {
				t.Error(i, paths, amounts, err)
			}
		}
	}
}
