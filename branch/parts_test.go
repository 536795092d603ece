package branch_test

import (
	"math"
	"math/rand"
	"slices"
	"testing"

	"exodus/api"
	"exodus/branch"
)

// P8.2: the row of the cost, behind all others.
func TestBelow(t *testing.T) {
	p := program([]api.Var{{Upper: 9, Integer: true, Cost: 2}, {Lower: 3, Upper: 1}, {Lower: -1, Open: true, Cost: -7}}, row(api.Ge, 1, 1, 1))
	for _, value := range []int64{0, 5, -5, api.MaxCoef, -api.MaxCoef} {
		q, err := branch.Below(p, value)
		want := api.Row{Name: "cost", Kind: api.Le, Terms: []api.Term{{Var: 0, Coef: 2}, {Var: 2, Coef: -7}}, Bound: value}
		if err != api.OK || !same(q, api.Program{Vars: p.Vars, Rows: append(slices.Clone(p.Rows), want)}) {
			t.Error(value, q, err)
		}
	}
	for i, c := range []struct {
		p    api.Program
		want string
	}{
		{program(nil), "cost (0): 0 <= -1"},
		{program(bits(0, 0)), "cost (0): 0 <= -1"},
		{program(bits(0, -1, 4)), "cost (0): -x1 + 4 x2 <= -1"},
	} {
		q, err := branch.Below(c.p, -1)
		if list := lines(q); err != api.OK || list[len(list)-1] != c.want {
			t.Error(i, q, err)
		}
	}
}

// P8.2 and the errors of Below.
func TestBelowErrors(t *testing.T) {
	rows := slices.Repeat([]api.Row{row(api.Le, 1, 1)}, api.MaxRows)
	full := program(bits(1), rows...)
	real := program([]api.Var{{Open: true}}, rows[1:]...)
	for i, c := range []struct {
		p     api.Program
		value int64
		want  api.Errno
	}{
		{example(), api.MaxCoef + 1, api.ErrTooLarge},
		{example(), -api.MaxCoef - 1, api.ErrTooLarge},
		{example(), math.MaxInt64, api.ErrTooLarge},
		{example(), math.MinInt64, api.ErrTooLarge},
		{full, 0, api.ErrTooLarge},
		{full, api.MaxCoef + 1, api.ErrTooLarge},
		{real, 0, api.OK},
	} {
		q, err := branch.Below(c.p, c.value)
		if err != c.want || err != api.OK && len(q.Vars)+len(q.Rows) > 0 || err == api.OK && len(q.Rows) != api.MaxRows {
			t.Error(i, err)
		}
	}
	for i, p := range invalid() {
		for _, value := range []int64{0, api.MaxCoef + 1} {
			if q, err := branch.Below(p, value); err != api.ErrArg || len(q.Vars)+len(q.Rows) > 0 {
				t.Error(i, err)
			}
		}
	}
}

// P8.3: the two parts, at ordinary numbers and at the limits.
func TestSplit(t *testing.T) {
	most := int64(api.MaxCoef)
	for i, c := range []struct {
		v         api.Var
		at        int64
		low, high api.Var
	}{
		{api.Var{Upper: 1, Integer: true, Cost: 4}, 0, api.Var{Integer: true, Cost: 4}, api.Var{Lower: 1, Upper: 1, Integer: true, Cost: 4}},
		{api.Var{Lower: -5, Upper: 9}, 3, api.Var{Lower: -5, Upper: 3}, api.Var{Lower: 4, Upper: 9}},
		{api.Var{Lower: -5, Upper: 9}, 9, api.Var{Lower: -5, Upper: 9}, api.Var{Lower: 10, Upper: 9}},
		{api.Var{Lower: -5, Upper: 9}, 20, api.Var{Lower: -5, Upper: 9}, api.Var{Lower: 21, Upper: 9}},
		{api.Var{Lower: -5, Upper: 9}, -6, api.Var{Lower: -5, Upper: -6}, api.Var{Lower: -5, Upper: 9}},
		{api.Var{Lower: -5, Upper: 9}, -20, api.Var{Lower: -5, Upper: -20}, api.Var{Lower: -5, Upper: 9}},
		{api.Var{Lower: 5, Upper: 2}, 3, api.Var{Lower: 5, Upper: 2}, api.Var{Lower: 5, Upper: 2}},
		{api.Var{Lower: 5, Upper: 2}, 0, api.Var{Lower: 5, Upper: 0}, api.Var{Lower: 5, Upper: 2}},
		{api.Var{Lower: 2, Open: true, Integer: true}, 7, api.Var{Lower: 2, Upper: 7, Integer: true}, api.Var{Lower: 8, Open: true, Integer: true}},
		{api.Var{Lower: 2, Open: true}, -3, api.Var{Lower: 2, Upper: -3}, api.Var{Lower: 2, Open: true}},
		{api.Var{Lower: -9, Open: true}, -3, api.Var{Lower: -9, Upper: -3}, api.Var{Lower: -2, Open: true}},
		{api.Var{Lower: -most, Upper: most}, most - 1, api.Var{Lower: -most, Upper: most - 1}, api.Var{Lower: most, Upper: most}},
		{api.Var{Lower: -most, Upper: most}, -most, api.Var{Lower: -most, Upper: -most}, api.Var{Lower: 1 - most, Upper: most}},
		{api.Var{Lower: most, Open: true}, most - 1, api.Var{Lower: most, Upper: most - 1}, api.Var{Lower: most, Open: true}},
	} {
		other := api.Var{Lower: 1, Upper: 3, Cost: 8}
		p := program([]api.Var{other, c.v, other}, row(api.Ge, 1, 1, 1), row(api.Le, 3, 4))
		low, high, err := branch.Split(p, 1, c.at)
		wantLow, wantHigh := program([]api.Var{other, c.low, other}, p.Rows...), program([]api.Var{other, c.high, other}, p.Rows...)
		if err != api.OK || !same(low, wantLow) || !same(high, wantHigh) {
			t.Error(i, low, high, err)
		}
	}
}

// P8.3 and the errors of Split.
func TestSplitErrors(t *testing.T) {
	list := []struct {
		p  api.Program
		v  int
		at int64
	}{
		{example(), 3, 0},
		{example(), -1, 0},
		{example(), math.MaxInt, 0},
		{example(), math.MinInt, 0},
		{example(), 1, api.MaxCoef},
		{example(), 1, -api.MaxCoef - 1},
		{example(), 1, math.MaxInt64},
		{example(), 1, math.MinInt64},
		{api.Program{}, 0, 0},
	}
	for _, p := range invalid() {
		list = append(list, struct {
			p  api.Program
			v  int
			at int64
		}{p, 0, 0})
	}
	for i, c := range list {
		low, high, err := branch.Split(c.p, c.v, c.at)
		if err != api.ErrArg || len(low.Vars)+len(low.Rows)+len(high.Vars)+len(high.Rows) > 0 {
			t.Error(i, err)
		}
	}
	full := program(bits(1), slices.Repeat([]api.Row{row(api.Le, 1, 1)}, api.MaxRows)...)
	if low, high, err := branch.Split(full, 0, 0); err != api.OK || len(low.Rows) != api.MaxRows || len(high.Rows) != api.MaxRows {
		t.Error(err)
	}
}

// P8.3: every integral point within the bounds belongs to exactly one part.
func TestSplitPoints(t *testing.T) {
	checked := 0
	programs(1000, func(r *rand.Rand, p api.Program) {
		if len(p.Vars) == 0 {
			return
		}
		low, high, _ := branch.Split(p, r.Intn(len(p.Vars)), r.Int63n(8)-4)
		points(p, func(x []int64) {
			low.Rows, high.Rows = nil, nil
			if satisfies(low, x) == satisfies(high, x) {
				t.Fatal(p, x)
			}
			checked++
		})
	})
	if checked < 5000 {
		t.Error("only", checked)
	}
}
