package columns

import (
	"exodus/api"
	"exodus/rational"
)

// base is the base of the digits into which integers are cut that are too long for a program.
const base = api.MaxCoef

// whole returns fractions times their least common denominator, and this denominator.
func whole(list []api.Rat) ([]api.Rat, api.Rat) {
	scale := rational.From(1)
	for _, a := range list {
		rest := rational.Mul(a, scale)
		if len(rest.Den) > 0 {
			scale = rational.Mul(scale, api.Rat{Num: api.Int{Mag: rest.Den}})
		}
	}
	integers := []api.Rat{}
	for _, a := range list {
		integers = append(integers, rational.Mul(a, scale))
	}
	return integers, scale
}

// spell returns terms that stand for the sum of the first variables of a program times integers of any length. If some of these are too long for coefficients, the program gets two variables, whose difference is the sum for the integers without their last digits, and a row that says so.
func spell(p *api.Program, integers []api.Rat) []api.Term {
	terms, rests, long := []api.Term{}, []api.Rat{}, false
	for i, n := range integers {
		rest, digit := cut(n)
		if digit != 0 {
			terms = append(terms, api.Term{Var: i, Coef: digit})
		}
		rests = append(rests, rest)
		long = long || rational.Sign(rest) != 0
	}
	if !long {
		return terms
	}
	above := spell(p, rests)
	more, less := len(p.Vars), len(p.Vars)+1
	p.Vars = append(p.Vars, api.Var{Open: true}, api.Var{Open: true})
	above = append(above, api.Term{Var: more, Coef: -1}, api.Term{Var: less, Coef: 1})
	p.Rows = append(p.Rows, api.Row{Kind: api.Eq, Terms: above})
	return append(terms, api.Term{Var: more, Coef: base}, api.Term{Var: less, Coef: -base})
}

// cut returns an integer without its last digit, and this digit. An integer that is short enough for a coefficient is a digit.
func cut(n api.Rat) (api.Rat, int64) {
	if short, ok := rational.Int64(n); ok && -base <= short && short <= base {
		return api.Rat{}, short
	}
	quotient, _ := rational.Div(n, rational.From(base))
	rest := api.Rat{Num: rational.Floor(quotient)}
	digit, _ := rational.Int64(rational.Sub(n, rational.Mul(rest, rational.From(base))))
	return rest, digit
}
