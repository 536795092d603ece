package rational

import (
	"exodus/api"
	"exodus/integer"
	"exodus/natural"
)

// Neg returns the negative.
func Neg(a api.Rat) api.Rat {
	return lowest(parts(a), negative)
}

// Add returns the sum.
func Add(a, b api.Rat) api.Rat {
	return lowest(parts(a), plus(b))
}

// Sub returns the difference.
func Sub(a, b api.Rat) api.Rat {
	return lowest(parts(b), negative, plus(a))
}

// Mul returns the product.
func Mul(a, b api.Rat) api.Rat {
	return lowest(parts(a), times(b))
}

// Div returns the quotient.
func Div(a, b api.Rat) (api.Rat, api.Errno) {
	if Sign(b) == 0 {
		return api.Rat{}, api.ErrRange
	}
	return lowest(parts(b), inverse, times(a)), api.OK
}

// pair is the quotient of two integers, of which den is not 0. The pairs that make up an operation may be not in lowest terms, and may share memory with its arguments; only lowest turns them into results.
type pair struct{ num, den api.Int }

// step makes a pair of a pair. All steps but inverse leave the sign of den as it is if it is positive.
type step func(pair) pair

// parts returns a fraction as a pair with a positive den.
func parts(a api.Rat) pair {
	den := api.Int{Mag: a.Den}
	if integer.Sign(den) == 0 {
		den = integer.From(1)
	}
	return pair{a.Num, den}
}

// follow returns what the steps make of a pair, one after the other.
func follow(p pair, steps ...step) pair {
	for _, next := range steps {
		p = next(p)
	}
	return p
}

// lowest returns what the steps make of a pair, as a valid fraction in new memory.
func lowest(p pair, steps ...step) api.Rat {
	p = follow(p, steps...)
	// The divisor has the sign of den, so that the quotient of den is positive.
	divisor := api.Int{Neg: p.den.Neg, Mag: natural.Gcd(p.num.Mag, p.den.Mag)}
	num, _, _ := integer.Quo(p.num, divisor)
	den, _, _ := integer.Quo(p.den, divisor)
	if integer.Cmp(den, integer.From(1)) == 0 {
		return api.Rat{Num: num}
	}
	return api.Rat{Num: num, Den: den.Mag}
}

// negative is the step to the negative.
func negative(p pair) pair {
	return pair{integer.Neg(p.num), p.den}
}

// inverse is the step to the inverse; num must not be 0.
func inverse(p pair) pair {
	return pair{p.den, p.num}
}

// plus returns the step that adds a fraction.
func plus(a api.Rat) step {
	q := parts(a)
	return func(p pair) pair {
		// Equal denominators, those of integers for instance, need no products.
		if integer.Cmp(p.den, q.den) == 0 {
			return pair{integer.Add(p.num, q.num), p.den}
		}
		num := integer.Add(integer.Mul(p.num, q.den), integer.Mul(q.num, p.den))
		return pair{num, integer.Mul(p.den, q.den)}
	}
}

// times returns the step that multiplies with a fraction.
func times(a api.Rat) step {
	q := parts(a)
	return func(p pair) pair {
		return pair{integer.Mul(p.num, q.num), integer.Mul(p.den, q.den)}
	}
}
