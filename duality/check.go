package duality

import (
	"exodus/api"
	"exodus/linear"
	"exodus/rational"
)

// checker reports whether an outcome of its kind is proved, for a valid program.
type checker func(p api.Program, o api.Outcome) bool

// Check checks an outcome.
func Check(p api.Program, o api.Outcome) api.Errno {
	check, known := checkers()[o.Kind]
	if !known || !linear.Valid(p) {
		return api.ErrArg
	}
	if !check(p, o) {
		return api.ErrRejected
	}
	return api.OK
}

// checkers returns the function that checks the outcomes of each kind.
func checkers() map[int]checker {
	return map[int]checker{
		api.Optimal: func(p api.Program, o api.Outcome) bool {
			return sized(o, len(p.Vars), len(p.Rows), 0) && Optimal(p, o.Point, o.Multipliers) && rational.Cmp(o.Value, linear.Cost(p, o.Point)) == 0
		},
		api.Infeasible: func(p api.Program, o api.Outcome) bool {
			return sized(o, 0, len(p.Rows), 0) && rational.Sign(o.Value) == 0 && Infeasible(p, o.Multipliers)
		},
		api.Unbounded: func(p api.Program, o api.Outcome) bool {
			return sized(o, len(p.Vars), 0, len(p.Vars)) && rational.Sign(o.Value) == 0 && Unbounded(p, o.Point, o.Ray)
		},
	}
}

// sized reports whether the lists of an outcome have these numbers of elements.
func sized(o api.Outcome, point, multipliers, ray int) bool {
	return len(o.Point) == point && len(o.Multipliers) == multipliers && len(o.Ray) == ray
}
