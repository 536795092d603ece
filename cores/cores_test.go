package cores_test

import (
	"math"
	"math/rand"
	"reflect"
	"slices"
	"testing"

	"exodus/api"
	"exodus/cores"
)

// feasible fails unless Feasible returns a value.
func feasible(t *testing.T, p api.Program, want bool, groups ...int) {
	t.Helper()
	if found, err := cores.Feasible(p, groups...); found != want || err != api.OK {
		t.Fatal(p, groups, found, err)
	}
}

// core fails unless Core returns a list.
func core(t *testing.T, p api.Program, want []int, groups ...int) {
	t.Helper()
	if list, err := cores.Core(p, groups...); !slices.Equal(list, want) || err != api.OK {
		t.Fatal(p, groups, list, err)
	}
}

// minimal fails unless Minimal returns a value.
func minimal(t *testing.T, p api.Program, want bool, groups ...int) {
	t.Helper()
	if ok, err := cores.Minimal(p, groups...); ok != want || err != api.OK {
		t.Fatal(p, groups, ok, err)
	}
}

// fail fails unless all functions return an error, and nothing else.
func fail(t *testing.T, p api.Program, want api.Errno, groups ...int) {
	t.Helper()
	if found, err := cores.Feasible(p, groups...); found || err != want {
		t.Error("feasible", groups, found, err)
	}
	if list, err := cores.Core(p, groups...); len(list) > 0 || err != want {
		t.Error("core", groups, list, err)
	}
	if ok, err := cores.Minimal(p, groups...); ok || err != want {
		t.Error("minimal", groups, ok, err)
	}
}

// The example of the chapter.
func TestExample(t *testing.T) {
	p := example()
	core(t, p, []int{3}, 1, 2, 3)
	core(t, p, []int{1, 2}, 1, 2)
	minimal(t, p, true, 3)
	minimal(t, p, true, 1, 2)
	minimal(t, p, false, 1, 2, 3)
}

// P12.1 to P12.3: groups in another order, given twice, that no row has, group 0, and no groups.
func TestGroups(t *testing.T) {
	p := example()
	core(t, p, []int{1, 2}, 2, 1)
	core(t, p, []int{1, 2}, 2, 2, 0, 1, 1, 60, 4, 61, -5, math.MaxInt, math.MinInt)
	core(t, p, []int{3}, 3, 2, 3)
	core(t, p, []int{3}, 5, 3, 0)
	feasible(t, p, true)
	feasible(t, p, true, 0)
	feasible(t, p, true, 2, 2, 0)
	feasible(t, p, true, 4, -1, math.MaxInt)
	feasible(t, p, true, 1)
	feasible(t, p, false, 2, 0, 1, 2)
	feasible(t, p, false, 3, 4)
	minimal(t, p, true, 2, 1)
	minimal(t, p, true, 2, 0, 1, 1, 0, 2)
	minimal(t, p, true, 3, 3)
	minimal(t, p, true, 0, 3)
	minimal(t, p, false)
	minimal(t, p, false, 0)
	minimal(t, p, false, 1)
	minimal(t, p, false, 5)
	minimal(t, p, false, 3, 2)
	minimal(t, p, false, 1, 2, 4)
	minimal(t, p, false, 1, 2, -1)
	minimal(t, p, false, 1, 2, math.MaxInt)
}

// P12.1 to P12.4: rows of group 0 that have no solution, bounds that leave nothing, and programs without variables.
func TestNothingNeeded(t *testing.T) {
	empty := program([]api.Var{{Lower: 1, Integer: true}}, row(1, api.Ge, 5, 1))
	none := program(nil, row(0, api.Eq, 1), row(1, api.Le, -1))
	for _, p := range []api.Program{fixed(), empty, none} {
		feasible(t, p, false)
		feasible(t, p, false, 1, 2)
		core(t, p, nil)
		core(t, p, nil, 1, 2)
		core(t, p, nil, 0, 9)
		minimal(t, p, true)
		minimal(t, p, true, 0)
		minimal(t, p, false, 1)
		minimal(t, p, false, 2, 1)
		minimal(t, p, false, 9)
	}
	p := program(nil, row(4, api.Eq, 1), row(1, api.Le, -1), row(2, api.Ge, -1))
	feasible(t, p, true)
	feasible(t, p, true, 2)
	feasible(t, p, false, 4)
	core(t, p, []int{4}, 1, 2, 4)
	core(t, p, []int{1}, 1, 2)
	minimal(t, p, true, 1)
	feasible(t, program(nil), true)
	minimal(t, program(nil), false)
}

// P12.2: several rows of a group, and groups whose rows alone have no solution.
func TestRowsOfGroups(t *testing.T) {
	p := program(bits(5, -5), row(9, api.Ge, 1, 1), row(9, api.Le, 0, 1), row(4, api.Eq, 1, 1, 1), row(3, api.Eq, 1, 2), row(4, api.Ge, 1, 1, -1), row(2, api.Le, 0, 1))
	core(t, p, []int{9}, 2, 3, 4, 9)
	core(t, p, []int{3}, 2, 3, 4)
	core(t, p, []int{9}, 4, 9)
	core(t, p, []int{2, 4}, 4, 2)
	minimal(t, p, true, 9)
	minimal(t, p, true, 4, 2)
	minimal(t, p, false, 9, 3)
	feasible(t, p, true, 4)
}

// P12.1: the costs of the part are 0, so that they cannot be too great.
func TestCosts(t *testing.T) {
	p := example()
	p.Vars = []api.Var{{Upper: 1 << 20, Integer: true, Cost: 1 << 40}}
	feasible(t, p, true, 1)
	core(t, p, []int{3}, 3)
	minimal(t, p, true, 2, 1)
}

// P12.1: parts have solutions as the definition says.
func TestFeasible(t *testing.T) {
	counts := map[bool]int{}
	programs(4000, func(p api.Program, groups []int) {
		want := solvable(p, groups)
		counts[want]++
		feasible(t, p, want, groups...)
	})
	if min(counts[false], counts[true]) < 1000 {
		t.Error(counts)
	}
}

// P12.2 and P12.4: cores are found as the definition says, and are cores of some of the groups, of themselves, too.
func TestCore(t *testing.T) {
	sizes := map[int]int{}
	programs(20000, func(p api.Program, groups []int) {
		if solvable(p, groups) {
			if list, err := cores.Core(p, groups...); len(list) > 0 || err != api.ErrState {
				t.Fatal(p, groups, list, err)
			}
			return
		}
		want := coreOf(p, groups)
		core(t, p, want, groups...)
		core(t, p, want, want...)
		minimal(t, p, true, want...)
		for _, group := range want {
			if !slices.Contains(groups, group) {
				t.Fatal(p, groups, want)
			}
		}
		sizes[len(want)]++
	})
	if sizes[0] < 300 || sizes[1] < 1000 || sizes[2] < 1000 || sizes[3] < 20 {
		t.Error(sizes)
	}
}

// P12.2 and P12.3: cores that need branches and cuts.
func TestKnapsacks(t *testing.T) {
	r, counts := rand.New(rand.NewSource(4)), map[bool]int{}
	for range 2000 {
		p, groups := knapsacks(r)
		found := solvable(p, groups)
		counts[found]++
		feasible(t, p, found, groups...)
		minimal(t, p, isCore(p, groups), groups...)
		if !found {
			core(t, p, coreOf(p, groups), groups...)
		}
	}
	if min(counts[false], counts[true]) < 500 {
		t.Error(counts)
	}
}

// P12.3: sets that are cores, that contain one, and that have a solution.
func TestMinimal(t *testing.T) {
	counts := map[bool]int{}
	programs(10000, func(p api.Program, groups []int) {
		for _, list := range [][]int{groups, coreOf(p, groups), groups[:len(groups)/2], groups[:min(1, len(groups))]} {
			want := isCore(p, list)
			counts[want]++
			minimal(t, p, want, list...)
		}
	})
	if min(counts[false], counts[true]) < 2000 {
		t.Error(counts)
	}
}

// P12.4: a part for more groups has a solution only if that for fewer has one.
func TestMoreGroups(t *testing.T) {
	programs(1500, func(p api.Program, groups []int) {
		more, _ := cores.Feasible(p, groups...)
		for k := range groups {
			if fewer, _ := cores.Feasible(p, groups[:k]...); more && !fewer {
				t.Fatal(p, groups, k)
			}
		}
	})
}

// P12.2: a core of many groups, and one of few among many.
func TestManyGroups(t *testing.T) {
	ones, all := slices.Repeat([]int64{1}, 59), []int{}
	p := program(bits(ones...), row(0, api.Le, 58, ones...))
	for i := range p.Vars {
		coefs := make([]int64, i+1)
		coefs[i] = 1
		p.Rows = append(p.Rows, row(i+1, api.Ge, 1, coefs...))
		all = append(all, i+1)
	}
	core(t, p, all, all...)
	minimal(t, p, true, all...)
	feasible(t, p, true, all[1:]...)
	p.Rows = append(p.Rows, row(60, api.Le, 0, ones...))
	core(t, p, []int{59, 60}, append(all, 60)...)
	minimal(t, p, false, append(all, 60)...)
}

// P1 and the section Errors: no integer programs, also if the part would be one.
func TestBroken(t *testing.T) {
	for _, p := range broken() {
		fail(t, p, api.ErrArg)
		fail(t, p, api.ErrArg, 1, 2)
	}
}

// The section Errors: parts that have a solution, and programs with as many rows as there may be.
func TestErrors(t *testing.T) {
	p := example()
	for _, groups := range [][]int{nil, {0}, {1}, {2, 2, 0}, {4}} {
		if list, err := cores.Core(p, groups...); len(list) > 0 || err != api.ErrState {
			t.Error(groups, list, err)
		}
	}
	for len(p.Rows) < api.MaxRows {
		p.Rows = append(p.Rows, row(4, api.Le, 1, 1))
	}
	fail(t, p, api.ErrTooLarge, 1, 2, 3, 4)
	core(t, p, []int{1, 2}, 1, 2, 4)
	p.Rows[3].Kind = 3
	fail(t, p, api.ErrArg, 1, 2, 3, 4)
}

// The section Errors: a search that is too long, be it the first one or a later one.
func TestLimit(t *testing.T) {
	r := rand.New(rand.NewSource(6))
	total, coefs := int64(0), []int64{}
	for range 20 {
		coefs = append(coefs, 1+r.Int63n(1<<20))
		total += coefs[len(coefs)-1]
	}
	p := program(bits(make([]int64, 20)...), row(5, api.Eq, total/2, coefs...), row(3, api.Ge, 1), row(4, api.Le, 7, 1))
	feasible(t, p, false, 3)
	feasible(t, p, false, 3, 5)
	core(t, p, []int{3}, 4, 3)
	for name, call := range map[string]func() (bool, api.Errno){
		"feasible": func() (bool, api.Errno) { return cores.Feasible(p, 5) },
		"minimal":  func() (bool, api.Errno) { return cores.Minimal(p, 4, 5) },
		"later":    func() (bool, api.Errno) { return cores.Minimal(p, 3, 5) },
		"core": func() (bool, api.Errno) {
			list, err := cores.Core(p, 5)
			return len(list) > 0, err
		},
		"later core": func() (bool, api.Errno) {
			list, err := cores.Core(p, 3, 5)
			return len(list) > 0, err
		},
	} {
		t.Run(name, func(t *testing.T) {
			t.Parallel()
			if found, err := call(); found || err != api.ErrLimit {
				t.Error(found, err)
			}
		})
	}
}

// The last sentence of the guarantees: arguments stay as they are, and results have memory of their own.
func TestMemory(t *testing.T) {
	programs(800, func(p api.Program, groups []int) {
		groups = append(slices.Clone(groups), 99)[:len(groups)]
		rows, vars, before := slices.Clone(p.Rows), slices.Clone(p.Vars), slices.Clone(groups[:cap(groups)])
		for i, line := range rows {
			rows[i].Terms = slices.Clone(line.Terms)
		}
		first, _ := cores.Core(p, groups...)
		want := slices.Clone(first)
		for i := range first {
			first[i] = -7
		}
		cores.Feasible(p, groups...)
		cores.Minimal(p, groups...)
		if again, _ := cores.Core(p, groups...); !slices.Equal(again, want) {
			t.Fatal("results have changed", p, groups)
		}
		if !slices.Equal(groups[:cap(groups)], before) || !slices.Equal(p.Vars, vars) || len(rows) > 0 && !reflect.DeepEqual(p.Rows, rows) {
			t.Fatal("arguments have changed", p, groups)
		}
	})
}
