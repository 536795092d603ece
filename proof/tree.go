package proof

import (
	"slices"

	"exodus/api"
	"exodus/rational"
)

// Depth returns the greatest number of splits above a leaf, and false if the nodes are not a tree.
func Depth(t []api.Node) (int, bool) {
	// From the end of the list on, the trees behind a node are known before the node. So a list that is no tree is found out without a recursion, which might be as deep as the list is long.
	depths := []int{}
	for _, n := range slices.Backward(t) {
		behind, known := followers(n.Kind)
		if !known || len(depths) < behind {
			return 0, false
		}
		rest, depth := len(depths)-behind, 0
		for _, d := range depths[rest:] {
			depth = max(depth, d)
		}
		if n.Kind == api.NodeSplit {
			depth++
		}
		depths = append(depths[:rest], depth)
	}
	if len(depths) != 1 {
		return 0, false
	}
	return depths[0], true
}

// followers returns how many trees follow a node of a kind, and false if the kind is unknown.
func followers(kind int) (int, bool) {
	switch kind {
	case api.NodeFarkas, api.NodeEmpty:
		return 0, true
	case api.NodeCut:
		return 1, true
	case api.NodeSplit:
		return 2, true
	}
	return 0, false
}

// plain reports whether a list of nodes is a plain tree.
func plain(t []api.Node) bool {
	if _, ok := Depth(t); !ok {
		return false
	}
	return !slices.ContainsFunc(t, func(n api.Node) bool {
		return !bare(n) || !bareCut(n.Cut) || !indices(n.Var, n.Cut.Row) || !indices(n.Cut.Vars...) || !valid(n.Multipliers) || !valid(n.Cut.Multipliers)
	})
}

// bare reports whether the fields that the kind of a node does not use are zero or empty.
func bare(n api.Node) bool {
	switch n.Kind {
	case api.NodeFarkas:
		n.Multipliers = nil
	case api.NodeEmpty:
		n.Var = 0
	case api.NodeSplit:
		n.Var, n.At = 0, 0
	case api.NodeCut:
		n.Cut = api.Cut{}
	}
	return len(n.Multipliers) == 0 && n.Var == 0 && n.At == 0 && n.Cut.Kind == 0 && n.Cut.Row == 0 && len(n.Cut.Multipliers) == 0 && len(n.Cut.Vars) == 0
}

// bareCut reports whether the kind of a cut is known, and the fields that it does not use are zero or empty.
func bareCut(c api.Cut) bool {
	switch c.Kind {
	case api.CutRound:
		return c.Row == 0 && len(c.Vars) == 0
	case api.CutCover:
		return len(c.Multipliers) == 0
	}
	return false
}

// indices reports whether no number is negative.
func indices(numbers ...int) bool {
	return !slices.ContainsFunc(numbers, func(n int) bool { return n < 0 })
}

// valid reports whether all fractions are valid.
func valid(list []api.Rat) bool {
	return !slices.ContainsFunc(list, func(a api.Rat) bool { return !rational.Valid(a) })
}
