package flow_test

import (
	"math"
	"math/rand"
	"slices"
	"testing"

	"exodus/api"
	"exodus/flow"
)

// same reports whether two networks are equal.
func same(a, b api.Network) bool {
	return a.Nodes == b.Nodes && a.Source == b.Source && a.Sink == b.Sink && a.Hold == b.Hold && slices.Equal(a.Arcs, b.Arcs)
}

// P10.3: a network with delays, its copies written out.
func TestExpand(t *testing.T) {
	still := delayed()
	still.Hold = 0
	for i, c := range []struct {
		n     api.Network
		slots int
		want  api.Network
	}{
		{delayed(), 0, api.Network{Nodes: 3, Source: 2, Sink: 0, Arcs: []api.Arc{arc(1, 0, 5)}}},
		{delayed(), 1, api.Network{Nodes: 6, Source: 2, Sink: 3, Arcs: []api.Arc{arc(2, 4, 4), arc(1, 0, 5), arc(0, 3, 9), arc(1, 4, 9), arc(2, 5, 9), arc(4, 3, 5)}}},
		{still, 1, api.Network{Nodes: 6, Source: 2, Sink: 3, Arcs: []api.Arc{arc(2, 4, 4), arc(1, 0, 5), arc(4, 3, 5)}}},
		{still, 3, api.Network{Nodes: 12, Source: 2, Sink: 9, Arcs: []api.Arc{arc(2, 4, 4), arc(1, 0, 5), arc(2, 9, 1), arc(5, 7, 4), arc(4, 3, 5), arc(8, 10, 4), arc(7, 6, 5), arc(10, 9, 5)}}},
		{network(2), 2, api.Network{Nodes: 6, Source: 0, Sink: 5}},
		{api.Network{Nodes: 2, Source: 1, Hold: 3}, 2, api.Network{Nodes: 6, Source: 1, Sink: 4, Arcs: []api.Arc{arc(0, 2, 3), arc(1, 3, 3), arc(2, 4, 3), arc(3, 5, 3)}}},
	} {
		got, err := flow.Expand(c.n, c.slots)
		if err != api.OK || !same(got, c.want) {
			t.Error(i, got, err)
		}
	}
}

// P10.3: random networks; the arcs are compared one by one.
func TestExpandDefinition(t *testing.T) {
	networks(1000, func(r *rand.Rand, n api.Network) {
		slots := r.Intn(api.MaxSlots + 1)
		got, err := flow.Expand(n, slots)
		want := api.Network{Nodes: n.Nodes * (slots + 1), Source: n.Source, Sink: n.Nodes*slots + n.Sink}
		for i := range (slots + 1) * (len(n.Arcs) + n.Nodes) {
			at, k := i/(len(n.Arcs)+n.Nodes), i%(len(n.Arcs)+n.Nodes)
			next := api.Arc{From: k - len(n.Arcs), To: k - len(n.Arcs), Capacity: n.Hold, Delay: 1}
			if k < len(n.Arcs) {
				next = n.Arcs[k]
			}
			if at+next.Delay <= slots && (k < len(n.Arcs) || n.Hold > 0) {
				want.Arcs = append(want.Arcs, arc(next.From+n.Nodes*at, next.To+n.Nodes*(at+next.Delay), next.Capacity))
			}
		}
		if err != api.OK || !same(got, want) || !flow.Valid(got) {
			t.Fatal(n, slots, got, err)
		}
	})
}

// P10.3 and the errors of Expand: the numbers of slots, of nodes and of arcs at their limits and beyond.
func TestExpandErrors(t *testing.T) {
	slow := network(2, slices.Repeat([]api.Arc{{To: 1, Delay: 16}}, api.MaxArcs)...)
	for i, c := range []struct {
		n     api.Network
		slots int
		want  api.Errno
	}{
		{example(), -1, api.ErrArg},
		{example(), api.MaxSlots + 1, api.ErrArg},
		{example(), math.MaxInt, api.ErrArg},
		{example(), math.MinInt, api.ErrArg},
		{example(), api.MaxSlots, api.OK},
		{network(api.MaxNodes), 0, api.OK},
		{network(api.MaxNodes), 1, api.ErrTooLarge},
		{network(api.MaxNodes), -1, api.ErrArg},
		{network(api.MaxNodes), 17, api.ErrArg},
		{network(80), 4, api.OK},
		{network(81), 4, api.ErrTooLarge},
		{network(23), api.MaxSlots, api.OK},
		{network(24), api.MaxSlots, api.ErrTooLarge},
		{network(2, slices.Repeat([]api.Arc{arc(0, 1, 1)}, 800)...), 4, api.OK},
		{network(2, slices.Repeat([]api.Arc{arc(0, 1, 1)}, 801)...), 4, api.ErrTooLarge},
		{api.Network{Nodes: 2, Sink: 1, Hold: 1, Arcs: slices.Repeat([]api.Arc{arc(0, 1, 1)}, 1999)}, 1, api.OK},
		{api.Network{Nodes: 2, Sink: 1, Hold: 1, Arcs: slices.Repeat([]api.Arc{arc(0, 1, 1)}, 2000)}, 1, api.ErrTooLarge},
		{api.Network{Nodes: 2, Sink: 1, Arcs: slices.Repeat([]api.Arc{arc(0, 1, 1)}, 2000)}, 1, api.OK},
		{slow, 15, api.OK},
		{slow, 16, api.OK},
	} {
		got, err := flow.Expand(c.n, c.slots)
		if err != c.want || err != api.OK && !same(got, api.Network{}) || err == api.OK && !flow.Valid(got) {
			t.Error(i, err)
		}
	}
	for i, n := range broken() {
		for _, slots := range []int{-1, 0, 1, 16} {
			if got, err := flow.Expand(n, slots); err != api.ErrArg || !same(got, api.Network{}) {
				t.Error(i, err)
			}
		}
	}
}

// P10.5: with more slots, the greatest value does not fall if a node can keep what arrives.
func TestMoreSlots(t *testing.T) {
	rises := 0
	networks(300, func(r *rand.Rand, n api.Network) {
		n.Hold = 0
		for i := range n.Arcs {
			n.Arcs[i].Capacity %= 100
			n.Hold += n.Arcs[i].Capacity * (api.MaxSlots + 1)
		}
		last := int64(0)
		for slots := range 9 {
			over, _ := flow.Expand(n, slots)
			next := greatest(over)
			if next < last {
				t.Fatal(n, slots, last, next)
			}
			if next > last {
				rises++
			}
			last = next
		}
	})
	if rises < 200 {
		t.Error("only", rises)
	}
}
