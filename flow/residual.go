package flow

import (
	"iter"

	"exodus/api"
)

// far is the distance of nodes that cannot be reached.
const far = -1

// residual is what a flow leaves of a network. Each arc is two ways: forwards, with room for what it can still take, and backwards, with room for what it can give back.
type residual struct {
	ways [][]int // those at each node
	to   []int   // the node to which each way leads
	room []int64
}

// forward and backward return the ways of the arc with an index.
func forward(i int) int  { return 2 * i }
func backward(i int) int { return 2*i + 1 }

// opposite returns the way in the other direction.
func opposite(way int) int { return way ^ 1 }

// newResidual returns what is left of a network without a flow.
func newResidual(n api.Network) *residual {
	r := &residual{ways: make([][]int, n.Nodes)}
	for i, arc := range n.Arcs {
		r.ways[arc.From] = append(r.ways[arc.From], forward(i))
		r.ways[arc.To] = append(r.ways[arc.To], backward(i))
		r.to = append(r.to, arc.To, arc.From)
		r.room = append(r.room, arc.Capacity, 0)
	}
	return r
}

// open returns the ways at a node that have room, with the nodes to which they lead. It begins at a position in the list of ways, which is kept up to date: whoever stops can go on with the same way.
func (r *residual) open(v int, position *int) iter.Seq2[int, int] {
	return func(yield func(way, to int) bool) {
		for ; *position < len(r.ways[v]); *position++ {
			way := r.ways[v][*position]
			if r.room[way] > 0 && !yield(way, r.to[way]) {
				return
			}
		}
	}
}

// move uses an amount of the room of a way, for which there is room in the other direction then, and returns it.
func (r *residual) move(way int, amount int64) int64 {
	r.room[way] -= amount
	r.room[opposite(way)] += amount
	return amount
}

// search returns for each node how many ways with room lead to it from the source on a shortest path, and the last one of them.
func (r *residual) search(source int) (distance, last []int) {
	distance, last = make([]int, len(r.ways)), make([]int, len(r.ways))
	for v := range distance {
		distance[v] = far
	}
	distance[source] = 0
	for queue := []int{source}; len(queue) > 0; queue = queue[1:] {
		v, position := queue[0], 0
		for way, to := range r.open(v, &position) {
			if distance[to] == far {
				distance[to], last[to] = distance[v]+1, way
				queue = append(queue, to)
			}
		}
	}
	return distance, last
}
