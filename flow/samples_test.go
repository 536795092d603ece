package flow_test

import (
	"math"
	"math/rand"
	"slices"

	"exodus/api"
	"exodus/flow"
)

// arc returns an arc without delay.
func arc(from, to int, capacity int64) api.Arc {
	return api.Arc{From: from, To: to, Capacity: capacity}
}

// network returns a network from its first to its last node.
func network(nodes int, arcs ...api.Arc) api.Network {
	return api.Network{Nodes: nodes, Sink: nodes - 1, Arcs: arcs}
}

// example returns the network of the chapter's example.
func example() api.Network {
	return network(4, arc(0, 1, 3), arc(0, 2, 2), arc(1, 2, 5), arc(1, 3, 1), arc(2, 3, 3))
}

// side returns which of n nodes are in a list.
func side(n int, nodes ...int) []bool {
	out := make([]bool, n)
	for _, v := range nodes {
		out[v] = true
	}
	return out
}

// delayed returns a network whose arcs have delays.
func delayed() api.Network {
	n := api.Network{Nodes: 3, Source: 2, Sink: 0, Hold: 9}
	n.Arcs = []api.Arc{{From: 2, To: 1, Capacity: 4, Delay: 1}, {From: 1, To: 0, Capacity: 5}, {From: 2, To: 0, Capacity: 1, Delay: 3}}
	return n
}

// broken returns networks that are not valid, each for one reason.
func broken() []api.Network {
	out := []api.Network{{}, {Nodes: 1}, {Nodes: 1, Sink: 1}, {Nodes: 2}, {Nodes: math.MinInt, Sink: 1}, {Nodes: math.MaxInt, Sink: 1}}
	for _, change := range []func(n *api.Network){
		func(n *api.Network) { n.Nodes = api.MaxNodes + 1 },
		func(n *api.Network) { n.Nodes = 3 },
		func(n *api.Network) { n.Sink = 0 },
		func(n *api.Network) { n.Source = 3 },
		func(n *api.Network) { n.Source = 4 },
		func(n *api.Network) { n.Source = -1 },
		func(n *api.Network) { n.Sink = 4 },
		func(n *api.Network) { n.Sink = -1 },
		func(n *api.Network) { n.Source, n.Sink = math.MinInt, math.MaxInt },
		func(n *api.Network) { n.Hold = -1 },
		func(n *api.Network) { n.Hold = api.MaxCoef + 1 },
		func(n *api.Network) { n.Hold = math.MinInt64 },
		func(n *api.Network) { n.Arcs[1].To = 0 },
		func(n *api.Network) { n.Arcs[4].From = 4 },
		func(n *api.Network) { n.Arcs[4].From = -1 },
		func(n *api.Network) { n.Arcs[2].To = 4 },
		func(n *api.Network) { n.Arcs[2].To = -1 },
		func(n *api.Network) { n.Arcs[2].To = math.MaxInt },
		func(n *api.Network) { n.Arcs[3].Capacity = -1 },
		func(n *api.Network) { n.Arcs[3].Capacity = api.MaxCoef + 1 },
		func(n *api.Network) { n.Arcs[3].Capacity = math.MaxInt64 },
		func(n *api.Network) { n.Arcs[0].Delay = -1 },
		func(n *api.Network) { n.Arcs[0].Delay = api.MaxSlots + 1 },
		func(n *api.Network) { n.Arcs[0].Delay = math.MinInt },
		func(n *api.Network) { n.Arcs = slices.Repeat(n.Arcs, api.MaxArcs/5+1) },
	} {
		n := example()
		change(&n)
		out = append(out, n)
	}
	return out
}

// random returns a valid network of a few nodes.
func random(r *rand.Rand) api.Network {
	n := api.Network{Nodes: 2 + r.Intn(6), Hold: r.Int63n(3) * r.Int63n(20)}
	n.Source = r.Intn(n.Nodes)
	n.Sink = (n.Source + 1 + r.Intn(n.Nodes-1)) % n.Nodes
	most := []int64{1, 3, 20, api.MaxCoef}[r.Intn(4)]
	for range r.Intn(15) {
		from := r.Intn(n.Nodes)
		to := (from + 1 + r.Intn(n.Nodes-1)) % n.Nodes
		n.Arcs = append(n.Arcs, api.Arc{From: from, To: to, Capacity: r.Int63n(most + 1), Delay: r.Intn(4)})
	}
	return n
}

// networks calls check for many valid networks.
func networks(count int, check func(r *rand.Rand, n api.Network)) {
	r := rand.New(rand.NewSource(1))
	for range count {
		check(r, random(r))
	}
}

// large returns a network with as many nodes and arcs as there may be.
func large(r *rand.Rand, most int64) api.Network {
	n := network(api.MaxNodes)
	for range api.MaxArcs {
		from := r.Intn(n.Nodes)
		to := (from + 1 + r.Intn(n.Nodes-1)) % n.Nodes
		n.Arcs = append(n.Arcs, arc(from, to, r.Int63n(most)+1))
	}
	return n
}

// net returns what leaves each node, minus what arrives, and false if an amount is beyond its capacity.
func net(n api.Network, amount []int64) ([]int64, bool) {
	out := make([]int64, n.Nodes)
	for i, a := range n.Arcs {
		if amount[i] < 0 || amount[i] > a.Capacity {
			return nil, false
		}
		out[a.From] += amount[i]
		out[a.To] -= amount[i]
	}
	return out, true
}

// flows reports whether a valid network has the flow with the value.
func flows(n api.Network, f api.Flow) bool {
	if len(f.Amount) != len(n.Arcs) {
		return false
	}
	rest, ok := net(n, f.Amount)
	if !ok || rest[n.Source] != f.Value {
		return false
	}
	rest[n.Source], rest[n.Sink] = 0, 0
	return !slices.ContainsFunc(rest, func(x int64) bool { return x != 0 })
}

// crossing returns the capacity of the arcs from the nodes of a list to others.
func crossing(n api.Network, list []bool) int64 {
	in, sum := make([]bool, n.Nodes), int64(0)
	copy(in, list)
	for _, a := range n.Arcs {
		if in[a.From] && !in[a.To] {
			sum += a.Capacity
		}
	}
	return sum
}

// cuts calls yield for all sides of a network.
func cuts(n api.Network, yield func(list []bool)) {
	for set := range 1 << n.Nodes {
		list := make([]bool, n.Nodes)
		for v := range list {
			list[v] = set>>v&1 == 1
		}
		if list[n.Source] && !list[n.Sink] {
			yield(list)
		}
	}
}

// least returns the least capacity of a cut.
func least(n api.Network) int64 {
	best := int64(math.MaxInt64)
	cuts(n, func(list []bool) { best = min(best, crossing(n, list)) })
	return best
}

// left returns the residual side of a flow: arcs are followed until no node is new.
func left(n api.Network, amount []int64) []bool {
	list := side(n.Nodes, n.Source)
	for more := true; more; {
		more = false
		for i, a := range n.Arcs {
			if list[a.From] && !list[a.To] && amount[i] < a.Capacity {
				list[a.To], more = true, true
			}
			if list[a.To] && !list[a.From] && amount[i] > 0 {
				list[a.From], more = true, true
			}
		}
	}
	return list
}

// wander returns some flow of a network: amounts go along random walks, in circles or from the source to the sink or back.
func wander(r *rand.Rand, n api.Network) api.Flow {
	f := api.Flow{Amount: make([]int64, len(n.Arcs)), Side: left(n, make([]int64, len(n.Arcs)))}
	for range 20 {
		start := []int{n.Source, n.Sink, r.Intn(n.Nodes)}[r.Intn(3)]
		v, walk, most := start, []int{}, int64(math.MaxInt64)
		for range 12 {
			i := r.Intn(len(n.Arcs) + 1)
			if i == len(n.Arcs) || n.Arcs[i].From != v || slices.Contains(walk, i) {
				continue
			}
			v, walk, most = n.Arcs[i].To, append(walk, i), min(most, n.Arcs[i].Capacity-f.Amount[i])
		}
		ends := [2]int{start, v}
		if len(walk) == 0 || v != start && ends != [2]int{n.Source, n.Sink} && ends != [2]int{n.Sink, n.Source} {
			continue
		}
		amount := r.Int63n(most + 1)
		for _, i := range walk {
			f.Amount[i] += amount
		}
	}
	rest, _ := net(n, f.Amount)
	f.Value = rest[n.Source]
	return f
}

// greatest returns the greatest value of a flow.
func greatest(n api.Network) int64 {
	f, _ := flow.Max(n)
	return f.Value
}
