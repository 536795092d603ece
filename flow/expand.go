package flow

import "exodus/api"

// Expand returns the network over a number of slots.
func Expand(n api.Network, slots int) (api.Network, api.Errno) {
	if !Valid(n) || slots < 0 || slots > api.MaxSlots {
		return api.Network{}, api.ErrArg
	}
	at := func(v, t int) int { return t*n.Nodes + v }
	out := api.Network{Nodes: (slots + 1) * n.Nodes, Source: at(n.Source, 0), Sink: at(n.Sink, slots)}
	for t := range slots + 1 {
		for _, arc := range n.Arcs {
			if t+arc.Delay <= slots {
				out.Arcs = append(out.Arcs, api.Arc{From: at(arc.From, t), To: at(arc.To, t+arc.Delay), Capacity: arc.Capacity})
			}
		}
		if t == slots || n.Hold == 0 {
			continue
		}
		for v := range n.Nodes {
			out.Arcs = append(out.Arcs, api.Arc{From: at(v, t), To: at(v, t+1), Capacity: n.Hold})
		}
	}
	if out.Nodes > api.MaxNodes || len(out.Arcs) > api.MaxArcs {
		return api.Network{}, api.ErrTooLarge
	}
	return out, api.OK
}
