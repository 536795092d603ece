package flow

import (
	"slices"

	"exodus/api"
)

// Paths returns a flow as paths with amounts.
func Paths(n api.Network, f api.Flow) ([][]int, []int64, api.Errno) {
	if !Valid(n) {
		return nil, nil, api.ErrArg
	}
	if !hasValue(n, f) || f.Value < 0 {
		return nil, nil, api.ErrRejected
	}
	paths, amounts := [][]int{}, []int64{}
	r := newResidual(carried(n, f))
	for rest := f.Value; rest > 0; {
		_, last := r.search(n.Source)
		path, amount := []int{n.Sink}, rest
		for v := n.Sink; v != n.Source; v = path[len(path)-1] {
			amount = min(amount, r.room[last[v]])
			path = append(path, r.to[opposite(last[v])])
		}
		slices.Reverse(path)
		// Nothing goes backwards: what a path uses is gone.
		for _, v := range path[1:] {
			r.room[last[v]] -= amount
		}
		paths, amounts, rest = append(paths, path), append(amounts, amount), rest-amount
	}
	return paths, amounts, api.OK
}

// carried returns a network with one arc for each pair of nodes, whose capacity is what a flow carries from the first node directly to the second one.
func carried(n api.Network, f api.Flow) api.Network {
	type pair struct{ from, to int }
	places, out := map[pair]int{}, api.Network{Nodes: n.Nodes}
	for i, arc := range n.Arcs {
		place, found := places[pair{arc.From, arc.To}]
		if !found {
			place = len(out.Arcs)
			places[pair{arc.From, arc.To}] = place
			out.Arcs = append(out.Arcs, api.Arc{From: arc.From, To: arc.To})
		}
		out.Arcs[place].Capacity += f.Amount[i]
	}
	return out
}
