package hitting_test

import (
	"math"
	"math/rand"
	"slices"
	"testing"

	"exodus/api"
	"exodus/hitting"
)

// check fails unless Check returns an error.
func check(t *testing.T, p api.Program, want api.Errno, groups []int, cores [][]int, point ...int64) {
	t.Helper()
	if err := hitting.Check(p, api.Repair{Groups: groups, Cores: cores, Point: point}); err != want {
		t.Error(groups, cores, point, err)
	}
}

// P13.3: repairs of the chapter's example that are accepted, and others.
func TestCheckExample(t *testing.T) {
	p, cores := example(), [][]int{{3}, {1, 2}}
	check(t, p, api.OK, []int{1, 3}, cores, 0)
	check(t, p, api.OK, []int{1, 3}, [][]int{{1, 2}, {3}}, 0)
	check(t, p, api.OK, []int{1, 3}, [][]int{{2, 2, 1}, {3, 3}, {3}, {1, 2}}, 0)
	check(t, p, api.OK, []int{1, 3}, [][]int{{3}, {1, 2, 3}, {2, 1}}, 0)
	for _, groups := range [][]int{nil, {3}, {1}, {2, 3}, {3, 1}, {1, 3, 3}, {1, 1, 3}, {1, 2, 3}, {0, 1, 3}, {1, 3, 60}, {1, 3, math.MaxInt}, {math.MinInt}} {
		check(t, p, api.ErrRejected, groups, cores, 0)
	}
	for _, list := range [][][]int{
		nil, {{3}}, {{1, 2}}, {{}}, {{3}, {1, 2}, {}}, {{3}, {1, 2}, {1}}, {{3}, {1}}, {{3}, {1, 2}, {1, 2, 4}}, {{3, 4}, {1, 2}},
		{{3, 0}, {1, 2}}, {{3}, {0, 1, 2}}, {{3}, {1, 2, -1}}, {{3}, {1, 2, 61}}, {{3}, {1, 2, math.MaxInt}}, {{math.MinInt, 3}, {1, 2}}, {{0}}, {{7}, {3}, {1, 2}},
	} {
		check(t, p, api.ErrRejected, []int{1, 3}, list, 0)
	}
	for _, point := range [][]int64{nil, {1}, {-1}, {0, 0}, {2}, {math.MaxInt64}, {math.MinInt64}} {
		check(t, p, api.ErrRejected, []int{1, 3}, cores, point...)
	}
	check(t, p, api.ErrRejected, nil, nil)
	check(t, p, api.ErrRejected, nil, nil, 0)
}

// P13.3: programs that have a solution as they are, costs that are not the least, and several rows of a group.
func TestCheckPoint(t *testing.T) {
	p := program(bits(2, api.MaxCoef), row(0, api.Ge, 1, 1, 1), row(1, api.Le, 1, 1, 1))
	check(t, p, api.OK, nil, nil, 0, 1)
	check(t, p, api.OK, []int{}, [][]int{}, 1, 0)
	check(t, p, api.ErrRejected, nil, nil, 1, 1)
	check(t, p, api.ErrRejected, nil, nil, 0, 0)
	check(t, p, api.ErrRejected, nil, nil, 1)
	check(t, p, api.ErrRejected, nil, nil, 1, 0, 0)
	check(t, p, api.ErrRejected, []int{1}, nil, 0, 1)
	p.Rows = append(p.Rows, row(1, api.Le, -1), row(1, api.Eq, 0, 1))
	check(t, p, api.OK, []int{1}, [][]int{{1}}, 1, 1)
	check(t, p, api.ErrRejected, []int{1}, [][]int{{1}}, 0, 0)
	check(t, p, api.ErrRejected, nil, nil, 0, 1)
	check(t, program(nil), api.OK, nil, nil)
	check(t, program(nil), api.ErrRejected, nil, nil, 0)
	check(t, program(nil), api.ErrRejected, nil, [][]int{{}})
	wide := []api.Var{{Lower: -api.MaxCoef, Upper: api.MaxCoef, Integer: true}, {Lower: -api.MaxCoef, Upper: api.MaxCoef, Integer: true}}
	long := program(wide, row(3, api.Eq, 1, api.MaxCoef, api.MaxCoef-1))
	check(t, long, api.OK, nil, nil, 1, -1)
	check(t, long, api.OK, nil, nil, 1-(api.MaxCoef-1), api.MaxCoef-1)
	check(t, long, api.ErrRejected, nil, nil, api.MaxCoef, api.MaxCoef)
	check(t, long, api.ErrRejected, nil, nil, api.MaxCoef, -api.MaxCoef)
}

// P13.3: rows of group 0 that have no solution. Nothing repairs them, but each set of groups is without a solution.
func TestCheckInfeasible(t *testing.T) {
	p := program(bits(1), row(0, api.Ge, 2, 1), row(1, api.Le, 5, 1))
	check(t, p, api.ErrRejected, []int{1}, [][]int{{1}}, 1)
	check(t, p, api.ErrRejected, nil, [][]int{{}}, 1)
	check(t, p, api.ErrRejected, nil, nil, 1)
}

// P13.3: many repairs, most of which are not right, by the definitions.
func TestChecks(t *testing.T) {
	counts := map[api.Errno]int{}
	programs(2500, func(r *rand.Rand, p api.Program) {
		c, err := hitting.Repair(p)
		if err != api.OK {
			c.Point, c.Cores = make([]int64, len(p.Vars)), [][]int{{5}, {1, 2}}
		}
		change(r, &c)
		want := api.ErrRejected
		if accepted(p, c) {
			want = api.OK
		}
		if err := hitting.Check(p, c); err != want {
			t.Fatal(p, c, err)
		}
		counts[want]++
	})
	if counts[api.OK] < 300 || counts[api.ErrRejected] < 300 {
		t.Error("too few repairs of a kind", counts)
	}
}

// change changes something of a repair, or nothing.
func change(r *rand.Rand, c *api.Repair) {
	some := append([]int{0, 3, 61}, numbers...)
	switch r.Intn(8) {
	case 0:
		c.Groups = append(c.Groups, some[r.Intn(len(some))])
	case 1:
		c.Groups, _ = hitting.Least(append(c.Cores, []int{some[r.Intn(len(some))]}))
	case 2:
		c.Cores = append(c.Cores, []int{some[r.Intn(len(some))], some[r.Intn(len(some))]})
		c.Groups, _ = hitting.Least(c.Cores)
	case 3:
		if i := r.Intn(len(c.Cores) + 1); i < len(c.Cores) {
			c.Cores[i] = append(c.Cores[i], some[r.Intn(len(some))])
			c.Groups, _ = hitting.Least(c.Cores)
		}
	case 4:
		if i := r.Intn(len(c.Cores) + 1); i < len(c.Cores) {
			c.Cores = slices.Delete(c.Cores, i, i+1)
			c.Groups, _ = hitting.Least(c.Cores)
		}
	case 5:
		if i := r.Intn(len(c.Point) + 1); i < len(c.Point) {
			c.Point[i] += r.Int63n(3) - 1
		}
	case 6:
		slices.Reverse(c.Cores)
		for _, core := range c.Cores {
			slices.Reverse(core)
		}
	}
}

// P13.3: programs with as many rows as there may be, and with costs that a search for a cheapest solution does not take.
func TestCheckFull(t *testing.T) {
	cores := [][]int{{3}, {1, 2}}
	for group, more := range [][]int{{}, {}, {}, {}, {4}} {
		p := full(example(), group)
		p.Vars[0].Cost = api.MaxCoef
		check(t, p, api.OK, []int{1, 3}, cores, 0)
		check(t, p, api.OK, []int{1, 3}, append([][]int{append([]int{1, 2, 3}, more...)}, cores...), 0)
		check(t, p, api.ErrRejected, []int{1, 3}, cores, 1)
		check(t, p, api.ErrRejected, []int{1, 3}, append([][]int{{1}}, cores...), 0)
	}
	p := full(program(bits(0, 0), row(1, api.Ge, 1, 1, 1), row(2, api.Ge, 0, 1, -1), row(3, api.Ge, 0, -1, 1)), 1)
	check(t, p, api.OK, nil, nil, 1, 1)
	check(t, p, api.ErrRejected, nil, nil, 0, 0)
	check(t, p, api.ErrRejected, nil, nil, 0, 1)
	check(t, p, api.ErrRejected, nil, nil, 1, 0)
	check(t, p, api.ErrRejected, []int{1}, [][]int{{1, 2, 3}}, 1, 1)
}

// The section Errors: a search that is too long comes before everything else that is wrong.
func TestCheckLimit(t *testing.T) {
	t.Parallel()
	p, point := hard(5, row(3, api.Ge, 1)), make([]int64, 20)
	check(t, p, api.ErrRejected, []int{3}, [][]int{{3}}, point...)
	for name, c := range map[string]struct {
		p     api.Program
		cores [][]int
	}{
		"first": {p, [][]int{{5}}}, "last": {p, [][]int{{3}, {}, {0}, {8}, {5, 0, 9}}}, "full": {full(hard(5), 0), [][]int{{5}}},
	} {
		t.Run(name, func(t *testing.T) {
			t.Parallel()
			check(t, c.p, api.ErrLimit, []int{4}, c.cores)
		})
	}
}
