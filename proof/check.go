package proof

import (
	"slices"

	"exodus/api"
	"exodus/branch"
	"exodus/cuts"
	"exodus/duality"
	"exodus/rational"
)

// proves reports whether a list of nodes is a proof of an integer program.
func proves(p api.Program, t []api.Node) bool {
	if _, ok := Depth(t); !ok {
		return false
	}
	// The program of the node that comes next: a copy, which is narrowed on the way down and is what it was on the way up. Programs are large, and proofs deep.
	q := api.Program{Vars: slices.Clone(p.Vars), Rows: slices.Clone(p.Rows)}
	var check func() bool
	check = func() bool {
		n := t[0]
		t = t[1:]
		switch {
		case !bare(n):
			return false
		case n.Kind == api.NodeFarkas:
			return refutes(q, n.Multipliers)
		case n.Kind == api.NodeCut:
			row, ok := derived(q, n.Cut)
			if !ok {
				return false
			}
			q.Rows = append(q.Rows, row)
			ok = check()
			q.Rows = q.Rows[:len(q.Rows)-1]
			return ok
		case !exists(n.Var, len(q.Vars)):
			return false
		case n.Kind == api.NodeEmpty:
			return q.Vars[n.Var].Lower > q.Vars[n.Var].Upper
		}
		whole := q.Vars[n.Var]
		low, high, err := branch.Split(api.Program{Vars: []api.Var{whole}}, 0, n.At)
		if err != api.OK {
			return false
		}
		q.Vars[n.Var] = low.Vars[0]
		ok := check()
		q.Vars[n.Var] = high.Vars[0]
		ok = ok && check()
		q.Vars[n.Var] = whole
		return ok
	}
	return check()
}

// refutes reports whether multipliers, at most one for each row, prove that a program is infeasible.
func refutes(p api.Program, y []api.Rat) bool {
	if len(y) > len(p.Rows) {
		return false
	}
	return duality.Infeasible(used(p, y))
}

// derived returns the row of a cut, and false if it cannot be added to the program.
func derived(p api.Program, c api.Cut) (api.Row, bool) {
	if len(p.Rows) >= api.MaxRows || len(c.Multipliers) > len(p.Rows) {
		return api.Row{}, false
	}
	if c.Kind == api.CutCover {
		if !exists(c.Row, len(p.Rows)) {
			return api.Row{}, false
		}
		p.Rows, c.Row = p.Rows[c.Row:c.Row+1], 0
	} else {
		p, c.Multipliers = used(p, c.Multipliers)
	}
	row, err := cuts.Derive(p, c)
	return row, err == api.OK
}

// used returns a program with only those rows that have a multiplier other than 0, and these multipliers. What is proved is the same, but most rows take part in few proofs.
func used(p api.Program, y []api.Rat) (api.Program, []api.Rat) {
	q, rest := api.Program{Vars: p.Vars}, []api.Rat{}
	for i, multiplier := range y {
		if rational.Sign(multiplier) != 0 {
			q.Rows, rest = append(q.Rows, p.Rows[i]), append(rest, multiplier)
		}
	}
	return q, rest
}

// exists reports whether a list of n elements has an index.
func exists(i, n int) bool {
	return i >= 0 && i < n
}
