package flow_test

import (
	"math"
	"math/rand"
	"slices"
	"testing"

	"exodus/api"
	"exodus/flow"
)

// P10.1: networks at the limits are valid, those beyond one of them are not.
func TestValid(t *testing.T) {
	full := example()
	full.Nodes, full.Sink, full.Hold = api.MaxNodes, api.MaxNodes-1, api.MaxCoef
	full.Arcs = slices.Repeat([]api.Arc{{From: api.MaxNodes - 1, To: 7, Capacity: api.MaxCoef, Delay: api.MaxSlots}}, api.MaxArcs)
	for i, n := range []api.Network{example(), delayed(), full, network(2), {Nodes: 2, Source: 1}, network(2, arc(0, 1, 0), arc(1, 0, 0), arc(0, 1, 0))} {
		if !flow.Valid(n) {
			t.Error(i)
		}
	}
	for i, n := range broken() {
		if flow.Valid(n) {
			t.Error(i, n)
		}
	}
	networks(1000, func(r *rand.Rand, n api.Network) {
		if !flow.Valid(n) {
			t.Fatal(n)
		}
	})
}

// P10.1: the example, and networks whose flows are known.
func TestMax(t *testing.T) {
	most := int64(api.MaxCoef)
	back := network(3, arc(2, 1, 4), arc(1, 0, 4))
	turned := api.Network{Nodes: 3, Source: 2, Sink: 0, Arcs: back.Arcs}
	// The path over the arc from 1 to 2 has to be taken back.
	cross := network(4, arc(0, 1, 1), arc(1, 2, 1), arc(2, 3, 1), arc(0, 2, 1), arc(1, 3, 1))
	for i, c := range []struct {
		n     api.Network
		value int64
		side  []bool
	}{
		{example(), 4, side(4, 0, 1, 2)},
		{network(2), 0, side(2, 0)},
		{network(2, arc(0, 1, 0)), 0, side(2, 0)},
		{network(2, arc(0, 1, 7)), 7, side(2, 0)},
		{network(2, arc(1, 0, 7)), 0, side(2, 0)},
		{network(2, arc(0, 1, 7), arc(1, 0, 5), arc(0, 1, 2)), 9, side(2, 0)},
		{back, 0, side(3, 0)},
		{turned, 4, side(3, 2)},
		{network(3, arc(0, 1, 5), arc(1, 2, 5)), 5, side(3, 0)},
		{network(3, arc(0, 1, 6), arc(1, 2, 5)), 5, side(3, 0, 1)},
		{network(4, arc(0, 1, 6), arc(2, 3, 5)), 0, side(4, 0, 1)},
		{network(4, arc(0, 1, 6), arc(1, 2, 6), arc(2, 0, 6)), 0, side(4, 0, 1, 2)},
		{cross, 2, side(4, 0)},
		{delayed(), 5, side(3, 2)},
		{network(2, slices.Repeat([]api.Arc{arc(0, 1, most)}, api.MaxArcs)...), most * api.MaxArcs, side(2, 0)},
	} {
		f, err := flow.Max(c.n)
		if err != api.OK || f.Value != c.value || !flows(c.n, f) || !slices.Equal(f.Side, c.side) {
			t.Error(i, f, err)
		}
	}
}

// P10.1: random networks. The greatest value is the least capacity of a cut, and the side is that of the flow.
func TestMaxDefinition(t *testing.T) {
	positive := 0
	networks(4000, func(r *rand.Rand, n api.Network) {
		f, err := flow.Max(n)
		if err != api.OK || !flows(n, f) || f.Value != least(n) || !slices.Equal(f.Side, left(n, f.Amount)) {
			t.Fatal(n, f, err)
		}
		if again, _ := flow.Max(n); again.Value != f.Value || !slices.Equal(again.Amount, f.Amount) || !slices.Equal(again.Side, f.Side) {
			t.Fatal("not always the same:", n)
		}
		if f.Value > 0 {
			positive++
		}
	})
	if positive < 1000 {
		t.Error("only", positive)
	}
}

// P10.1: networks as large as they may be, with paths that are short or long, many or few.
func TestMaxLarge(t *testing.T) {
	r := rand.New(rand.NewSource(2))
	for _, most := range []int64{1, 100, api.MaxCoef} {
		n := large(r, most)
		for _, width := range []int{n.Nodes, 20, 5} {
			for i := range n.Arcs {
				from := n.Arcs[i].From
				to := (from + 1 + r.Intn(width)) % n.Nodes
				if from != to {
					n.Arcs[i].To = to
				}
			}
			f, err := flow.Max(n)
			if err != api.OK || flow.Check(n, f) != api.OK || !flows(n, f) || crossing(n, f.Side) != f.Value || !slices.Equal(f.Side, left(n, f.Amount)) {
				t.Error(most, width, f.Value, err)
			}
		}
	}
}

// P10.1 and the errors of Max.
func TestMaxErrors(t *testing.T) {
	for i, n := range broken() {
		if f, err := flow.Max(n); err != api.ErrArg || f.Value != 0 || len(f.Amount)+len(f.Side) > 0 {
			t.Error(i, f, err)
		}
	}
}

// P10.2: any list is a set of nodes.
func TestCapacity(t *testing.T) {
	n := example()
	for i, c := range []struct {
		side []bool
		want int64
	}{
		{nil, 0}, {[]bool{}, 0}, {side(4), 0}, {side(4, 0), 5}, {side(4, 0, 1, 2), 4}, {side(4, 0, 1), 8}, {side(4, 0, 2), 6}, {side(4, 0, 1, 2, 3), 0},
		{[]bool{true}, 5}, {[]bool{true, true}, 8}, {[]bool{false, true}, 6}, {side(4, 1, 3), 5}, {side(4, 3), 0}, {side(9, 0, 1, 2, 5, 8), 4}, {side(9, 4, 5, 6, 7, 8), 0},
	} {
		if got := flow.Capacity(n, c.side); got != c.want {
			t.Error(i, got)
		}
	}
	networks(3000, func(r *rand.Rand, n api.Network) {
		list := make([]bool, n.Nodes)
		for v := range list {
			list[v] = r.Intn(2) == 0
		}
		for _, short := range [][]bool{list, list[:r.Intn(n.Nodes)], append(slices.Clone(list), true, false, true)} {
			if got := flow.Capacity(n, short); got != crossing(n, short[:min(len(short), n.Nodes)]) {
				t.Fatal(n, short, got)
			}
		}
	})
	most := network(2, slices.Repeat([]api.Arc{arc(0, 1, api.MaxCoef)}, api.MaxArcs)...)
	if got := flow.Capacity(most, side(2, 0)); got != api.MaxCoef*api.MaxArcs {
		t.Error(got)
	}
	for i, n := range broken() {
		for _, list := range [][]bool{nil, {true}, {true, true, true, false}, {false, true}} {
			if got := flow.Capacity(n, list); got != 0 {
				t.Error(i, got)
			}
		}
	}
}

// P10.2: the conditions of Check one by one.
func TestCheck(t *testing.T) {
	circle := network(4, append(example().Arcs, arc(2, 1, 5))...)
	for i, c := range []struct {
		n    api.Network
		f    api.Flow
		want api.Errno
	}{
		{example(), api.Flow{Value: 4, Amount: []int64{2, 2, 1, 1, 3}, Side: side(4, 0, 1, 2)}, api.OK},
		{example(), api.Flow{Value: 4, Amount: []int64{3, 1, 2, 1, 3}, Side: side(4, 0, 1, 2)}, api.OK},
		{circle, api.Flow{Value: 4, Amount: []int64{3, 1, 5, 1, 3, 3}, Side: side(4, 0, 1, 2)}, api.OK},
		{network(2), api.Flow{Side: side(2, 0)}, api.OK},
		{network(3, arc(0, 1, 5), arc(1, 2, 5)), api.Flow{Value: 5, Amount: []int64{5, 5}, Side: side(3, 0)}, api.OK},
		{network(3, arc(0, 1, 5), arc(1, 2, 5)), api.Flow{Value: 5, Amount: []int64{5, 5}, Side: side(3, 0, 1)}, api.OK},
		{example(), api.Flow{}, api.ErrRejected},
		{example(), api.Flow{Value: 4, Amount: []int64{2, 2, 1, 1}, Side: side(4, 0, 1, 2)}, api.ErrRejected},
		{example(), api.Flow{Value: 4, Amount: []int64{2, 2, 1, 1, 3, 0}, Side: side(4, 0, 1, 2)}, api.ErrRejected},
		{example(), api.Flow{Value: 4, Amount: []int64{2, 2, 1, 1, 3}, Side: side(3, 0, 1, 2)}, api.ErrRejected},
		{example(), api.Flow{Value: 4, Amount: []int64{2, 2, 1, 1, 3}, Side: side(5, 0, 1, 2)}, api.ErrRejected},
		{example(), api.Flow{Value: 4, Amount: []int64{2, 2, 1, 1, 3}}, api.ErrRejected},
		{example(), api.Flow{Value: 4, Amount: []int64{2, 2, 1, 1, 3}, Side: side(4, 1, 2)}, api.ErrRejected},
		{example(), api.Flow{Value: 4, Amount: []int64{2, 2, 1, 1, 3}, Side: side(4, 0, 1, 2, 3)}, api.ErrRejected},
		{example(), api.Flow{Value: 4, Amount: []int64{2, 2, 1, 1, 3}, Side: side(4, 0)}, api.ErrRejected},
		{example(), api.Flow{Value: 5, Amount: []int64{2, 2, 1, 1, 3}, Side: side(4, 0)}, api.ErrRejected},
		{example(), api.Flow{Value: 5, Amount: []int64{3, 2, 2, 1, 4}, Side: side(4, 0)}, api.ErrRejected},
		{example(), api.Flow{Value: 4, Amount: []int64{4, 0, 3, 1, 3}, Side: side(4, 0, 1, 2)}, api.ErrRejected},
		{example(), api.Flow{Value: 4, Amount: []int64{5, -1, 4, 1, 3}, Side: side(4, 0, 1, 2)}, api.ErrRejected},
		{example(), api.Flow{Value: 4, Amount: []int64{2, 2, 1, 1, 2}, Side: side(4, 0, 1, 2)}, api.ErrRejected},
		{example(), api.Flow{Value: 4, Amount: []int64{2, 2, 0, 1, 3}, Side: side(4, 0, 1, 2)}, api.ErrRejected},
		{example(), api.Flow{Value: 3, Amount: []int64{2, 1, 1, 1, 2}, Side: side(4, 0, 1, 2)}, api.ErrRejected},
		{network(2, arc(1, 0, 1)), api.Flow{Value: -1, Amount: []int64{1}, Side: side(2, 0)}, api.ErrRejected},
		{network(2, arc(0, 1, 1)), api.Flow{Value: math.MinInt64, Amount: []int64{math.MinInt64}, Side: side(2, 0)}, api.ErrRejected},
		{network(2, arc(0, 1, 1)), api.Flow{Value: math.MaxInt64, Amount: []int64{math.MaxInt64}, Side: side(2, 0)}, api.ErrRejected},
	} {
		if got := flow.Check(c.n, c.f); got != c.want {
			t.Error(i, got)
		}
	}
	for i, n := range broken() {
		for _, f := range []api.Flow{{}, {Value: 4, Amount: []int64{2, 2, 1, 1, 3}, Side: side(4, 0, 1, 2)}} {
			if got := flow.Check(n, f); got != api.ErrArg {
				t.Error(i, got)
			}
		}
	}
}

// P10.2: flows and cuts, the greatest and the least ones among them, and what is nearly one.
func TestCheckDefinition(t *testing.T) {
	counts := map[api.Errno]int{}
	networks(4000, func(r *rand.Rand, n api.Network) {
		verify := func(f api.Flow) {
			in := len(f.Side) == n.Nodes && f.Side[n.Source] && !f.Side[n.Sink]
			want := api.ErrRejected
			if in && flows(n, f) && crossing(n, f.Side) == f.Value {
				want = api.OK
			}
			if got := flow.Check(n, f); got != want {
				t.Fatal(n, f, got, want)
			}
			counts[want]++
		}
		best, _ := flow.Max(n)
		verify(best)
		for _, f := range []api.Flow{best, wander(r, n)} {
			cuts(n, func(list []bool) {
				verify(api.Flow{Value: f.Value, Amount: f.Amount, Side: list})
			})
			f.Amount, f.Side = slices.Clone(f.Amount), slices.Clone(f.Side)
			if len(f.Amount) > 0 {
				f.Amount[r.Intn(len(f.Amount))] += r.Int63n(3) - 1
			}
			verify(f)
			f.Side[r.Intn(n.Nodes)] = r.Intn(2) == 0
			verify(f)
			f.Value += r.Int63n(3) - 1
			verify(f)
		}
	})
	if min(counts[api.OK], counts[api.ErrRejected]) < 5000 {
		t.Error(counts)
	}
}

// P10.5: no flow has a value that is greater than the capacity of a cut, and what Check accepts is the greatest flow and the least cut.
func TestDuality(t *testing.T) {
	networks(1000, func(r *rand.Rand, n api.Network) {
		f := wander(r, n)
		if !flows(n, f) {
			t.Fatal("no flow:", n, f)
		}
		cuts(n, func(list []bool) {
			if f.Value > flow.Capacity(n, list) {
				t.Fatal(n, f, list)
			}
			f.Side = list
			if flow.Check(n, f) == api.OK && (f.Value != greatest(n) || crossing(n, list) != least(n)) {
				t.Fatal(n, f)
			}
		})
	})
}

// P10.5: a greater capacity never makes the greatest value smaller.
func TestGreaterCapacity(t *testing.T) {
	greater := 0
	networks(2000, func(r *rand.Rand, n api.Network) {
		if len(n.Arcs) == 0 {
			return
		}
		before, i := greatest(n), r.Intn(len(n.Arcs))
		n.Arcs[i].Capacity = min(api.MaxCoef, n.Arcs[i].Capacity+1+r.Int63n(9))
		after := greatest(n)
		if after < before {
			t.Fatal(n, i, before, after)
		}
		if after > before {
			greater++
		}
	})
	if greater < 50 {
		t.Error("only", greater)
	}
}
