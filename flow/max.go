package flow

import (
	"math"

	"exodus/api"
)

// Max returns a maximum flow with a minimum cut.
func Max(n api.Network) (api.Flow, api.Errno) {
	if !Valid(n) {
		return api.Flow{}, api.ErrArg
	}
	r, f := newResidual(n), api.Flow{}
	distance, _ := r.search(n.Source)
	for distance[n.Sink] != far {
		f.Value += r.fill(n.Source, n.Sink, distance)
		distance, _ = r.search(n.Source)
	}
	for i := range n.Arcs {
		f.Amount = append(f.Amount, r.room[backward(i)])
	}
	for _, d := range distance {
		f.Side = append(f.Side, d != far)
	}
	return f, api.OK
}

// fill sends along the shortest paths from the source to the sink until each of them has a way without room, and returns how much it has sent.
func (r *residual) fill(source, sink int, distance []int) int64 {
	// Where the ways at each node begin that may still lead to the sink.
	next := make([]int, len(distance))
	var send func(v int, most int64) int64
	send = func(v int, most int64) int64 {
		if v == sink {
			return most
		}
		sent := int64(0)
		for way, to := range r.open(v, &next[v]) {
			if distance[to] != distance[v]+1 {
				continue
			}
			sent += r.move(way, send(to, min(most-sent, r.room[way])))
			// The way may have room for what comes later.
			if sent == most {
				break
			}
		}
		return sent
	}
	return send(source, math.MaxInt64)
}
