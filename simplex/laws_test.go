package simplex_test

import (
	"math/big"
	"math/rand"
	"slices"
	"testing"

	"exodus/api"
	"exodus/rational"
)

// moved returns a program with its variables and rows in another order.
func moved(r *rand.Rand, p api.Program) api.Program {
	place := r.Perm(len(p.Vars))
	q := api.Program{Vars: make([]api.Var, len(p.Vars))}
	for i, v := range p.Vars {
		q.Vars[place[i]] = v
	}
	for _, i := range r.Perm(len(p.Rows)) {
		line := p.Rows[i]
		line.Terms = slices.Clone(line.Terms)
		for j, term := range line.Terms {
			line.Terms[j].Var = place[term.Var]
		}
		slices.SortFunc(line.Terms, func(a, b api.Term) int { return a.Var - b.Var })
		q.Rows = append(q.Rows, line)
	}
	return q
}

// P5.4: the order does not matter.
func TestOrder(t *testing.T) {
	programs(3000, func(r *rand.Rand, p api.Program) {
		o, other := solved(t, p), solved(t, moved(r, p))
		if o.Kind != other.Kind || rational.Cmp(o.Value, other.Value) != 0 {
			t.Fatal(p, o, other)
		}
	})
}

// P5.4: further rows never make the value smaller, never make an infeasible program feasible, and never open a bounded one.
func TestFurtherRows(t *testing.T) {
	changed := 0
	programs(3000, func(r *rand.Rand, p api.Program) {
		whole := solved(t, p)
		p.Rows = p.Rows[:len(p.Rows)/2]
		part := solved(t, p)
		if part.Kind == api.Infeasible && whole.Kind != api.Infeasible || part.Kind == api.Optimal && whole.Kind == api.Unbounded {
			t.Fatal(p, part, whole)
		}
		if part.Kind == api.Optimal && whole.Kind == api.Optimal {
			order := rational.Cmp(part.Value, whole.Value)
			if order > 0 {
				t.Fatal(p, part, whole)
			}
			changed -= order
		}
	})
	if changed < 100 {
		t.Error("only", changed, "values changed")
	}
}

// P5.4: costs that are multiplied by a positive number multiply the value.
func TestMultipliedCosts(t *testing.T) {
	programs(3000, func(r *rand.Rand, p api.Program) {
		factor := 1 + r.Int63n(20)
		before := solved(t, p)
		p.Vars = slices.Clone(p.Vars)
		for i := range p.Vars {
			p.Vars[i].Cost *= factor
		}
		after := solved(t, p)
		if before.Kind != after.Kind || rational.Cmp(after.Value, rational.Mul(before.Value, rational.From(factor))) != 0 {
			t.Fatal(p, before, after)
		}
	})
}

// equation says that the sum of coefficients times components is a bound.
type equation struct {
	coefs []int64
	bound int64
}

// corners calls yield for the only points at which as many rows and bounds hold with equality as there are variables.
func corners(p api.Program, yield func(x []*big.Rat)) {
	n := len(p.Vars)
	list := []equation{}
	for i, v := range p.Vars {
		unit := make([]int64, n)
		unit[i] = 1
		list = append(list, equation{unit, v.Lower}, equation{unit, v.Upper})
	}
	for _, line := range p.Rows {
		coefs := make([]int64, n)
		for _, term := range line.Terms {
			coefs[term.Var] = term.Coef
		}
		list = append(list, equation{coefs, line.Bound})
	}
	chosen := []equation{}
	var choose func(from int)
	choose = func(from int) {
		if len(chosen) == n {
			if x := meet(chosen); x != nil {
				yield(x)
			}
			return
		}
		for i := from; i < len(list); i++ {
			chosen = append(chosen, list[i])
			choose(i + 1)
			chosen = chosen[:len(chosen)-1]
		}
	}
	choose(0)
}

// meet returns the only point at which as many equations as variables hold, or nil if they are not independent.
func meet(list []equation) []*big.Rat {
	n := len(list)
	rows := [][]*big.Rat{}
	for _, e := range list {
		line := []*big.Rat{}
		for _, coef := range e.coefs {
			line = append(line, whole(coef))
		}
		rows = append(rows, append(line, whole(e.bound)))
	}
	for i := range n {
		pivot := i
		for pivot < n && rows[pivot][i].Sign() == 0 {
			pivot++
		}
		if pivot == n {
			return nil
		}
		rows[i], rows[pivot] = rows[pivot], rows[i]
		for k := n; k >= i; k-- {
			rows[i][k] = new(big.Rat).Quo(rows[i][k], rows[i][i])
		}
		for j := range n {
			factor := rows[j][i]
			for k := range n + 1 {
				if j != i {
					rows[j][k] = new(big.Rat).Sub(rows[j][k], new(big.Rat).Mul(factor, rows[i][k]))
				}
			}
		}
	}
	x := []*big.Rat{}
	for _, line := range rows {
		x = append(x, line[n])
	}
	return x
}

// P5.4: if all bounds are finite, the optimum is the least cost of a feasible corner, if there is one.
func TestCorners(t *testing.T) {
	r := rand.New(rand.NewSource(3))
	kinds := [3]int{}
	for range 700 {
		p := shape{r.Intn(4), r.Intn(4), 1 + r.Int63n(5), 8, 0}.random(r)
		var least *big.Rat
		corners(p, func(x []*big.Rat) {
			if c := cost(p, x); feasible(p, x) && (least == nil || c.Cmp(least) < 0) {
				least = c
			}
		})
		o := solved(t, p)
		kinds[o.Kind]++
		if least == nil && o.Kind != api.Infeasible || least != nil && (o.Kind != api.Optimal || value(o.Value).Cmp(least) != 0) {
			t.Fatal(p, o, least)
		}
	}
	if kinds[api.Optimal] < 200 || kinds[api.Infeasible] < 200 {
		t.Error(kinds)
	}
}

// P5.4: there is exactly one kind of outcome: a program has no bound that multipliers prove, or no ray, or no point.
func TestOneKind(t *testing.T) {
	programs(3000, func(r *rand.Rand, p api.Program) {
		o := solved(t, p)
		y, ray := values(o.Multipliers), values(o.Ray)
		free := slices.Clone(p.Vars)
		for i := range free {
			free[i].Cost = 0
		}
		plain := solved(t, api.Program{Vars: free, Rows: p.Rows})
		switch {
		case o.Kind == api.Infeasible && plain.Kind != api.Infeasible, o.Kind != api.Infeasible && plain.Kind != api.Optimal:
			t.Fatal(p, o, plain)
		case o.Kind == api.Optimal && !feasible(p, values(plain.Point)), o.Kind == api.Optimal && bound(p, y, 1).Cmp(cost(p, values(plain.Point))) > 0:
			t.Fatal("a point costs less than the bound", p, o)
		case o.Kind == api.Unbounded && !endless(p, ray):
			t.Fatal(p, o)
		}
	})
}
