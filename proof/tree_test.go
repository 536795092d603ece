package proof_test

import (
	"math"
	"math/rand"
	"slices"
	"testing"

	"exodus/api"
	"exodus/proof"
)

// depth returns the depth of the tree at the beginning of a list and what is behind it, and false if there is none.
func depth(t []api.Node) (int, []api.Node, bool) {
	if len(t) == 0 || t[0].Kind < api.NodeFarkas || t[0].Kind > api.NodeCut {
		return 0, nil, false
	}
	n, t := t[0], t[1:]
	switch n.Kind {
	case api.NodeCut:
		return depth(t)
	case api.NodeSplit:
		low, rest, ok := depth(t)
		if !ok {
			return 0, nil, false
		}
		high, rest, ok := depth(rest)
		return 1 + max(low, high), rest, ok
	}
	return 0, t, true
}

// P9.2: trees of known depths, and lists that are no trees.
func TestDepth(t *testing.T) {
	f, e, s, c, v := farkas(), empty(0), split(0, 0), round(), cover(0)
	for i, x := range []struct {
		t    []api.Node
		want int
		ok   bool
	}{
		{exampleProof(), 2, true},
		{[]api.Node{f}, 0, true}, {[]api.Node{e}, 0, true}, {[]api.Node{c, f}, 0, true}, {[]api.Node{v, c, v, e}, 0, true}, {[]api.Node{s, f, e}, 1, true},
		{[]api.Node{s, s, f, f, f}, 2, true}, {[]api.Node{s, f, s, f, f}, 2, true}, {[]api.Node{s, s, f, f, s, f, f}, 2, true}, {[]api.Node{s, f, s, s, f, f, s, f, f}, 3, true},
		{[]api.Node{c, s, c, c, f, v, s, c, f, e}, 2, true}, {[]api.Node{s, s, s, f, f, f, c, f}, 3, true},
		{nil, 0, false}, {[]api.Node{}, 0, false}, {[]api.Node{s}, 0, false}, {[]api.Node{c}, 0, false}, {[]api.Node{s, f}, 0, false}, {[]api.Node{s, c, f}, 0, false},
		{[]api.Node{f, f}, 0, false}, {[]api.Node{f, e}, 0, false}, {[]api.Node{f, c}, 0, false}, {[]api.Node{f, s}, 0, false}, {[]api.Node{s, f, f, f}, 0, false}, {[]api.Node{f, s, f, f}, 0, false}, {[]api.Node{c, f, f}, 0, false},
		{[]api.Node{{Kind: 4}}, 0, false}, {[]api.Node{{Kind: -1}}, 0, false}, {[]api.Node{{Kind: math.MaxInt}}, 0, false}, {[]api.Node{{Kind: math.MinInt}}, 0, false},
		{[]api.Node{s, {Kind: 4}, f}, 0, false}, {[]api.Node{{Kind: 5}, f, f}, 0, false}, {[]api.Node{f, {Kind: 4}}, 0, false}, {[]api.Node{{Kind: -2}, f}, 0, false},
		{[]api.Node{{Kind: api.NodeSplit, Var: -5, At: math.MinInt64, Multipliers: list(1)}, {Var: 7, At: 3}, {Kind: api.NodeCut, Cut: api.Cut{Kind: 9}}, e}, 1, true},
	} {
		if got, ok := proof.Depth(x.t); got != x.want || ok != x.ok {
			t.Error(i, got, ok)
		}
	}
}

// P9.2: random lists, trees among them, compared with the definition.
func TestDepthDefinition(t *testing.T) {
	r, trees := rand.New(rand.NewSource(3)), 0
	for range 30000 {
		nodes := []api.Node{}
		for range r.Intn(9) {
			kind := []int{api.NodeFarkas, api.NodeEmpty, api.NodeFarkas, api.NodeSplit, api.NodeSplit, api.NodeCut, api.NodeFarkas, r.Intn(7) - 1}[r.Intn(8)]
			nodes = append(nodes, api.Node{Kind: kind, Var: r.Intn(3)})
		}
		want, rest, ok := depth(nodes)
		if !ok || len(rest) > 0 {
			want, ok = 0, false
		}
		if got, found := proof.Depth(nodes); got != want || found != ok {
			t.Fatal(nodes, got, found)
		}
		if ok {
			trees++
		}
	}
	if trees < 1000 {
		t.Error("only", trees)
	}
}

// P9.1, P9.2 and P9.3: lists that are long, but no trees.
func TestLongLists(t *testing.T) {
	for i, nodes := range [][]api.Node{
		slices.Repeat([]api.Node{split(0, 0)}, 1<<18),
		slices.Repeat([]api.Node{round()}, 1<<18),
		slices.Repeat([]api.Node{farkas()}, 1<<18),
		append(slices.Repeat([]api.Node{split(0, 0)}, 1<<17), slices.Repeat([]api.Node{farkas()}, 1<<17)...),
	} {
		if got, ok := proof.Depth(nodes); got != 0 || ok {
			t.Error(i, got, ok)
		}
		if got := proof.Check(example(), nodes); got != api.ErrRejected {
			t.Error(i, got)
		}
		if got := proof.Format(nodes); got != "" {
			t.Error(i, len(got))
		}
	}
}
