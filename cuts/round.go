package cuts

import (
	"exodus/api"
	"exodus/integer"
	"exodus/rational"
)

// round returns the row that rounding makes of a combination of rows.
func round(vars []api.Var, coefs []api.Rat, bound api.Rat) (api.Row, api.Errno) {
	terms, fits := []api.Term{}, true
	for i, coef := range coefs {
		if rational.Sign(coef) == 0 {
			continue
		}
		if lower := vars[i].Lower; lower != 0 {
			bound = rational.Sub(bound, rational.Mul(coef, rational.From(lower)))
		}
		if !vars[i].Integer {
			if rational.Sign(coef) > 0 {
				return api.Row{}, api.ErrRejected
			}
			continue
		}
		rounded, ok := number(rational.Ceil(coef))
		fits = fits && ok
		if rounded != 0 {
			terms = append(terms, api.Term{Var: i, Coef: rounded})
		}
	}
	if !fits {
		return api.Row{}, api.ErrTooLarge
	}
	return backward(vars, terms, rational.Ceil(bound))
}

// backward returns the row with the given terms, where the bound is that of a sum in which all variables are counted from their Lower.
func backward(vars []api.Var, terms []api.Term, bound api.Int) (api.Row, api.Errno) {
	for _, term := range terms {
		if lower := vars[term.Var].Lower; lower != 0 {
			bound = integer.Add(bound, product(term.Coef, lower))
		}
	}
	n, ok := number(bound)
	if !ok {
		return api.Row{}, api.ErrTooLarge
	}
	return derived(api.Ge, terms, n), api.OK
}

// forward is a single row with the signs of one of the kind Ge, in which all variables are counted from their Lower.
type forward struct {
	terms []api.Term // those of Integer variables
	bound api.Int
}

// turned returns a row as a forward one, and false if it cannot be rounded because a variable that is not Integer has a positive coefficient.
func turned(vars []api.Var, row api.Row) (forward, bool) {
	sign := int64(1)
	if row.Kind == api.Le {
		sign = -1
	}
	f := forward{bound: integer.From(sign * row.Bound)}
	for _, term := range row.Terms {
		v, coef := vars[term.Var], sign*term.Coef
		if v.Lower != 0 {
			f.bound = integer.Sub(f.bound, product(coef, v.Lower))
		}
		if v.Integer {
			f.terms = append(f.terms, api.Term{Var: term.Var, Coef: coef})
		} else if coef > 0 {
			return forward{}, false
		}
	}
	return f, true
}

// divided returns the row that rounding makes of a forward one, divided by k. It is the row that round returns, but without fractions.
func (f forward) divided(vars []api.Var, k int64) (api.Row, api.Errno) {
	terms := []api.Term{}
	for _, term := range f.terms {
		coef := term.Coef / k
		if term.Coef%k > 0 {
			coef++
		}
		if coef != 0 {
			terms = append(terms, api.Term{Var: term.Var, Coef: coef})
		}
	}
	// The floor of the negative is the negative of the ceiling.
	floor, _, _ := integer.Floor(integer.Neg(f.bound), integer.From(k))
	return backward(vars, terms, integer.Neg(floor))
}

// product returns the product of two numbers.
func product(a, b int64) api.Int {
	return integer.Mul(integer.From(a), integer.From(b))
}

// number returns an integer as a number, and false if it is beyond MaxCoef.
func number(a api.Int) (int64, bool) {
	n, ok := integer.Int64(a)
	return n, ok && n >= -api.MaxCoef && n <= api.MaxCoef
}
