package linear

import (
	"exodus/api"
	"exodus/rational"
)

// Signed reports whether multipliers have the signs that the kinds of the rows need.
func Signed(p api.Program, y []api.Rat) bool {
	multiplier := elements(y, len(p.Rows))
	for i, row := range p.Rows {
		sign := rational.Sign(multiplier(i))
		if row.Kind == api.Ge && sign < 0 || row.Kind == api.Le && sign > 0 {
			return false
		}
	}
	return true
}

// Combine returns the coefficients and the bound of a combination of rows.
func Combine(p api.Program, y []api.Rat) ([]api.Rat, api.Rat) {
	multiplier := elements(y, len(p.Rows))
	coefs := make([]api.Rat, len(p.Vars))
	for i, column := range columns(p) {
		coefs[i] = sum(column, multiplier)
	}
	bounds := listed(len(p.Rows), func(i int) int64 { return p.Rows[i].Bound })
	return coefs, sum(bounds, multiplier)
}

// columns returns for each variable the terms by which the rows use it, with the row in place of the variable.
func columns(p api.Program) [][]api.Term {
	out := make([][]api.Term, len(p.Vars))
	for i, row := range p.Rows {
		for _, term := range row.Terms {
			if term.Var >= 0 && term.Var < len(p.Vars) {
				out[term.Var] = append(out[term.Var], api.Term{Var: i, Coef: term.Coef})
			}
		}
	}
	return out
}

// Least returns the least value of a linear form within the bounds, and false if there is none.
func Least(p api.Program, coefs []api.Rat) (api.Rat, bool) {
	coef := elements(coefs, len(p.Vars))
	for i, v := range p.Vars {
		if v.Open && rational.Sign(coef(i)) < 0 || !v.Open && v.Lower > v.Upper {
			return api.Rat{}, false
		}
	}
	ends := listed(len(p.Vars), func(i int) int64 {
		if rational.Sign(coef(i)) < 0 {
			return p.Vars[i].Upper
		}
		return p.Vars[i].Lower
	})
	return sum(ends, coef), true
}
