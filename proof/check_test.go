package proof_test

import (
	"math"
	"math/rand"
	"slices"
	"testing"

	"exodus/api"
	"exodus/branch"
	"exodus/proof"
)

// expect fails unless Check returns what is wanted.
func expect(t *testing.T, name string, p api.Program, nodes []api.Node, want api.Errno) {
	t.Helper()
	if got := proof.Check(p, nodes); got != want {
		t.Error(name, got)
	}
}

// with returns a node with a change.
func with(n api.Node, change func(n *api.Node)) []api.Node {
	change(&n)
	return []api.Node{n}
}

// P9.1: the example, and what differs from it in one node.
func TestCheckExample(t *testing.T) {
	whole := exampleProof()
	expect(t, "the example", example(), whole, api.OK)
	for i := range whole {
		expect(t, "a beginning", example(), whole[:i], api.ErrRejected)
		expect(t, "an end", example(), whole[i+1:], api.ErrRejected)
		expect(t, "a node too few", example(), slices.Delete(slices.Clone(whole), i, i+1), api.ErrRejected)
		expect(t, "a node too many", example(), append(slices.Clone(whole), whole[i]), api.ErrRejected)
		for _, kind := range []int{-1, 4, math.MinInt, math.MaxInt} {
			other := slices.Clone(whole)
			other[i].Kind = kind
			expect(t, "an unknown kind", example(), other, api.ErrRejected)
		}
	}
	expect(t, "nothing", example(), nil, api.ErrRejected)
	expect(t, "twice", example(), append(whole, whole...), api.ErrRejected)
	expect(t, "multipliers changed round", example(), []api.Node{whole[0], whole[1], whole[3], whole[2], whole[4]}, api.ErrRejected)
	expect(t, "multiplied", example(), []api.Node{whole[0], whole[1], farkas(frac(1, 9)), farkas(odd(-6, 4)), farkas(list(-1)...)}, api.OK)
	expect(t, "a cut", example(), []api.Node{round(frac(1, 2)), farkas(frac(-1, 2), frac(1, 1))}, api.OK)
	expect(t, "another cut", example(), []api.Node{round(frac(-1, 2)), farkas(frac(1, 2), frac(1, 1))}, api.OK)
	solved := example()
	solved.Rows[0].Bound = 2
	expect(t, "of another program", solved, whole, api.ErrRejected)
}

// P9.1: leaves with multipliers.
func TestCheckFarkas(t *testing.T) {
	p := program(bits(0, 0), row(api.Ge, 3, 1, 1), row(api.Le, 2, 1), row(api.Eq, 7))
	none := program(append(bits(0), box(3, 2, 0)...), row(api.Ge, 0, 1), row(api.Le, 5, 0, 1))
	for _, c := range []struct {
		name string
		p    api.Program
		n    api.Node
		want api.Errno
	}{
		{"one multiplier", p, farkas(list(1)...), api.OK},
		{"as many as rows", p, farkas(list(1, 0, 0)...), api.OK},
		{"one more", p, farkas(list(1, 0, 0, 0)...), api.ErrRejected},
		{"many more", p, farkas(slices.Repeat(list(0), 5000)...), api.ErrRejected},
		{"another row", p, farkas(list(0, 0, 4)...), api.OK},
		{"several rows", p, farkas(list(2, -1, 1)...), api.OK},
		{"a sign of Ge", p, farkas(list(-1, 0, 1)...), api.ErrRejected},
		{"a sign of Le", p, farkas(list(1, 1, 1)...), api.ErrRejected},
		{"a sign of Eq", p, farkas(list(0, 0, -1)...), api.ErrRejected},
		{"outweighed", p, farkas(list(1, -1)...), api.ErrRejected},
		{"nothing", p, farkas(), api.ErrRejected},
		{"zeros", p, farkas(list(0, 0, 0)...), api.ErrRejected},
		{"fractions that are not valid", p, farkas(odd(4, 2), odd(0, 5), odd(3, 0)), api.OK},
		{"no bounds, no multipliers", none, farkas(), api.OK},
		{"no bounds", none, farkas(list(4, -9)...), api.OK},
		{"no bounds, a wrong sign", none, farkas(list(4, 9)...), api.ErrRejected},
		{"no bounds, too many", none, farkas(list(0, 0, 0)...), api.ErrRejected},
		{"no rows", program(bits(1)), farkas(), api.ErrRejected},
		{"no rows, a multiplier", program(bits(1)), farkas(list(1)...), api.ErrRejected},
		{"no variables", program(nil, row(api.Ge, 1)), farkas(list(1)...), api.OK},
		{"nothing at all", api.Program{}, farkas(), api.ErrRejected},
	} {
		expect(t, c.name, c.p, []api.Node{c.n}, c.want)
	}
	n := farkas(list(1)...)
	expect(t, "Var", p, with(n, func(n *api.Node) { n.Var = 1 }), api.ErrRejected)
	expect(t, "negative Var", p, with(n, func(n *api.Node) { n.Var = -1 }), api.ErrRejected)
	expect(t, "At", p, with(n, func(n *api.Node) { n.At = 1 }), api.ErrRejected)
	expect(t, "kind of cut", p, with(n, func(n *api.Node) { n.Cut.Kind = 1 }), api.ErrRejected)
	expect(t, "row of cut", p, with(n, func(n *api.Node) { n.Cut.Row = 1 }), api.ErrRejected)
	expect(t, "variables of cut", p, with(n, func(n *api.Node) { n.Cut.Vars = []int{0} }), api.ErrRejected)
	expect(t, "multipliers of cut", p, with(n, func(n *api.Node) { n.Cut.Multipliers = list(0) }), api.ErrRejected)
	expect(t, "empty lists", p, with(n, func(n *api.Node) { n.Cut.Multipliers, n.Cut.Vars = []api.Rat{}, []int{} }), api.OK)
}

// P9.1: leaves without bounds.
func TestCheckEmpty(t *testing.T) {
	p := program(slices.Concat(bits(0), box(3, 2, 0), box(4, 4, 0)))
	for v, want := range map[int]api.Errno{0: api.ErrRejected, 1: api.OK, 2: api.ErrRejected, 3: api.ErrRejected, -1: api.ErrRejected, math.MaxInt: api.ErrRejected, math.MinInt: api.ErrRejected} {
		expect(t, "variable", p, []api.Node{empty(v)}, want)
	}
	expect(t, "no variables", api.Program{}, []api.Node{empty(0)}, api.ErrRejected)
	n := empty(1)
	expect(t, "At", p, with(n, func(n *api.Node) { n.At = -1 }), api.ErrRejected)
	expect(t, "multipliers", p, with(n, func(n *api.Node) { n.Multipliers = list(0) }), api.ErrRejected)
	expect(t, "kind of cut", p, with(n, func(n *api.Node) { n.Cut.Kind = 2 }), api.ErrRejected)
	expect(t, "row of cut", p, with(n, func(n *api.Node) { n.Cut.Row = -1 }), api.ErrRejected)
	expect(t, "variables of cut", p, with(n, func(n *api.Node) { n.Cut.Vars = []int{0} }), api.ErrRejected)
	expect(t, "multipliers of cut", p, with(n, func(n *api.Node) { n.Cut.Multipliers = list(0) }), api.ErrRejected)
	expect(t, "empty lists", p, with(n, func(n *api.Node) { n.Multipliers, n.Cut.Multipliers, n.Cut.Vars = []api.Rat{}, []api.Rat{}, []int{} }), api.OK)
	expect(t, "twice", p, []api.Node{n, n}, api.ErrRejected)
}

// P9.1: splits, with numbers at the limits and beyond.
func TestCheckSplit(t *testing.T) {
	most := int64(api.MaxCoef)
	wide := program(box(-most, most, 0), row(api.Eq, 1, 2))
	none := program(append(bits(0), box(3, 2, 0)...))
	e, less, more := empty(1), farkas(list(-1)...), farkas(list(1)...)
	for _, c := range []struct {
		name string
		p    api.Program
		t    []api.Node
		want api.Errno
	}{
		{"where it matters", wide, []api.Node{split(0, 0), more, less}, api.OK},
		{"parts changed round", wide, []api.Node{split(0, 0), less, more}, api.ErrRejected},
		{"above", wide, []api.Node{split(0, 1), more, less}, api.ErrRejected},
		{"below", wide, []api.Node{split(0, -1), more, less}, api.ErrRejected},
		{"at the greatest number", wide, []api.Node{split(0, most-1), split(0, 0), more, less, less}, api.OK},
		{"at the least number", wide, []api.Node{split(0, -most), more, split(0, 0), more, less}, api.OK},
		{"beyond the greatest number", none, []api.Node{split(0, most), e, e}, api.ErrRejected},
		{"beyond the least number", none, []api.Node{split(0, -most-1), e, e}, api.ErrRejected},
		{"the greatest int64", none, []api.Node{split(0, math.MaxInt64), e, e}, api.ErrRejected},
		{"the least int64", none, []api.Node{split(0, math.MinInt64), e, e}, api.ErrRejected},
		{"at all of it", none, []api.Node{split(0, 7), e, empty(0)}, api.OK},
		{"at nothing of it", none, []api.Node{split(0, -7), empty(0), e}, api.OK},
		{"the other part is as it was", program(bits(0)), []api.Node{split(0, -7), empty(0), empty(0)}, api.ErrRejected},
		{"the first part is as it was", program(bits(0)), []api.Node{split(0, 7), empty(0), empty(0)}, api.ErrRejected},
		{"narrowed twice", wide, []api.Node{split(0, 5), split(0, 9), split(0, 0), more, less, empty(0), less}, api.OK},
		{"not narrowed for what comes later", wide, []api.Node{split(0, 0), split(0, 4), more, empty(0), empty(0)}, api.ErrRejected},
		{"no second part", none, []api.Node{split(0, 0), e}, api.ErrRejected},
		{"three parts", none, []api.Node{split(0, 0), e, e, e}, api.ErrRejected},
		{"no variable", none, []api.Node{split(2, 0), e, e}, api.ErrRejected},
		{"a negative variable", none, []api.Node{split(-1, 0), e, e}, api.ErrRejected},
		{"a great variable", none, []api.Node{split(math.MaxInt, 0), e, e}, api.ErrRejected},
	} {
		expect(t, c.name, c.p, c.t, c.want)
	}
	for i, change := range []func(n *api.Node){
		func(n *api.Node) { n.Multipliers = list(0) },
		func(n *api.Node) { n.Cut.Kind = 1 },
		func(n *api.Node) { n.Cut.Row = 1 },
		func(n *api.Node) { n.Cut.Vars = []int{0} },
		func(n *api.Node) { n.Cut.Multipliers = list(0) },
	} {
		expect(t, "a field too many", none, append(with(split(0, 0), change), e, e), api.ErrRejected)
		if i == 0 {
			expect(t, "no field too many", none, append(with(split(0, 0), func(n *api.Node) { n.Cut.Vars = []int{} }), e, e), api.OK)
		}
	}
}

// P9.1: cuts, which have to be those that cuts.Add accepts.
func TestCheckCut(t *testing.T) {
	p := program(bits(0, 0, 0), row(api.Ge, 3, 2, 2, 2), row(api.Le, 8, 4, 4, 4), row(api.Ge, 2, 1, 1, 1))
	p.Rows[1].Bound = 7
	end := farkas(list(0, 0, 1, -1, -1, -1)...)
	pairs := []api.Node{cover(1, 0, 1), cover(1, 0, 2), cover(1, 1, 2)}
	last := farkas(list(0, 0, 2, -1, -1, -1)...)
	expect(t, "covers", p, append(slices.Clone(pairs), last), api.OK)
	expect(t, "outweighed", p, append(slices.Clone(pairs), end), api.ErrRejected)
	expect(t, "multipliers of rows that come later", p, append(slices.Clone(pairs[:2]), last), api.ErrRejected)
	expect(t, "rounded", p, []api.Node{round(list(0)...), round(frac(0, 1), frac(-1, 4)), farkas(list(0, 0, 1, 0, 1)...)}, api.OK)
	expect(t, "rounded and too many", p, []api.Node{round(list(0, 0, 0, 0)...), round(frac(0, 1), frac(-1, 4)), farkas(list(0, 0, 1, 0, 1)...)}, api.ErrRejected)
	expect(t, "a fraction that is not valid", p, []api.Node{round(odd(0, 3), odd(-2, 8)), farkas(list(0, 0, 1, 1)...)}, api.OK)
	expect(t, "of the row of a cut", p, []api.Node{cover(1, 0, 1), cover(3, 0, 1), farkas(list(0, 0, 1, 0, -1)...)}, api.ErrRejected)
	none := program(append(bits(0, 0), box(3, 2, 0)...), row(api.Le, 3, 2, 2), row(api.Ge, 1, 1, 1))
	for _, c := range []struct {
		name string
		c    api.Cut
		want api.Errno
	}{
		{"a cover", api.Cut{Kind: api.CutCover, Vars: []int{0, 1}}, api.OK},
		{"no cover", api.Cut{Kind: api.CutCover, Vars: []int{0}}, api.ErrRejected},
		{"another row", api.Cut{Kind: api.CutCover, Row: 1, Vars: []int{0, 1}}, api.ErrRejected},
		{"no row", api.Cut{Kind: api.CutCover, Row: 2, Vars: []int{0, 1}}, api.ErrRejected},
		{"a negative row", api.Cut{Kind: api.CutCover, Row: -1, Vars: []int{0, 1}}, api.ErrRejected},
		{"a great row", api.Cut{Kind: api.CutCover, Row: math.MaxInt, Vars: []int{0, 1}}, api.ErrRejected},
		{"no variables", api.Cut{Kind: api.CutCover}, api.ErrRejected},
		{"not increasing", api.Cut{Kind: api.CutCover, Vars: []int{1, 0}}, api.ErrRejected},
		{"twice", api.Cut{Kind: api.CutCover, Vars: []int{0, 1, 1}}, api.ErrRejected},
		{"not binary", api.Cut{Kind: api.CutCover, Vars: []int{0, 1, 2}}, api.ErrRejected},
		{"a negative variable", api.Cut{Kind: api.CutCover, Vars: []int{-1, 0, 1}}, api.ErrRejected},
		{"a cover with multipliers", api.Cut{Kind: api.CutCover, Vars: []int{0, 1}, Multipliers: list(0)}, api.ErrRejected},
		{"nothing", api.Cut{}, api.OK},
		{"multipliers", api.Cut{Multipliers: list(-1, 1)}, api.OK},
		{"too many multipliers", api.Cut{Multipliers: list(-1, 1, 0)}, api.ErrRejected},
		{"wrong signs", api.Cut{Multipliers: list(1)}, api.ErrRejected},
		{"multipliers and a row", api.Cut{Multipliers: list(-1), Row: 1}, api.ErrRejected},
		{"multipliers and variables", api.Cut{Multipliers: list(-1), Vars: []int{0}}, api.ErrRejected},
		{"too great", api.Cut{Multipliers: list(-api.MaxCoef)}, api.ErrRejected},
		{"an unknown kind", api.Cut{Kind: 2}, api.ErrRejected},
		{"a negative kind", api.Cut{Kind: -1, Multipliers: list(-1)}, api.ErrRejected},
	} {
		expect(t, c.name, none, []api.Node{cutting(c.c), empty(2)}, c.want)
		expect(t, c.name, none, []api.Node{cutting(c.c)}, api.ErrRejected)
		expect(t, c.name, none, []api.Node{cutting(c.c), empty(2), empty(2)}, api.ErrRejected)
	}
	for _, change := range []func(n *api.Node){
		func(n *api.Node) { n.Multipliers = list(0) },
		func(n *api.Node) { n.Var = 1 },
		func(n *api.Node) { n.At = 1 },
	} {
		expect(t, "a field too many", none, append(with(cover(0, 0, 1), change), empty(2)), api.ErrRejected)
	}
}

// P9.1: a cut adds its row only to what is behind it, and only while there is room.
func TestCheckRows(t *testing.T) {
	p := example()
	ways := []api.Node{round(frac(1, 2)), farkas(frac(-1, 2), frac(1, 1))}
	expect(t, "each part has a cut of its own", p, slices.Concat([]api.Node{split(0, 0)}, ways, ways), api.OK)
	expect(t, "the cut of the other part", p, slices.Concat([]api.Node{split(0, 0)}, ways, ways[1:]), api.ErrRejected)
	expect(t, "the cut above", p, []api.Node{ways[0], split(0, 0), ways[1], ways[1]}, api.OK)
	p.Rows = slices.Concat(p.Rows, slices.Repeat([]api.Row{row(api.Le, 9, 1)}, api.MaxRows-2))
	y := append(slices.Concat([]api.Rat{frac(-1, 2)}, make([]api.Rat, api.MaxRows-2)), frac(1, 1))
	expect(t, "the last row", p, []api.Node{round(frac(1, 2)), farkas(y...)}, api.OK)
	expect(t, "a row too many", p, []api.Node{round(frac(1, 2)), round(), farkas(y...)}, api.ErrRejected)
	p.Rows = append(p.Rows, row(api.Le, 9, 1))
	expect(t, "no room", p, append([]api.Node{round()}, exampleProof()...), api.ErrRejected)
	expect(t, "no cut", p, exampleProof(), api.OK)
}

// notInteger returns programs that are not valid, and valid ones that are no integer programs.
func notInteger() []api.Program {
	return []api.Program{
		program(bits(1), row(3, 7, 3)),
		program(bits(1), row(api.Le, 7, 3, 4)),
		program(bits(1), row(api.Le, api.MaxCoef+1, 3)),
		program(bits(api.MaxCoef + 1)),
		program([]api.Var{{Upper: 1, Open: true, Integer: true}}),
		{Vars: make([]api.Var, api.MaxVars+1)},
		{Vars: box(0, 1, make([]int64, api.MaxVars+1)...)},
		{Rows: make([]api.Row, api.MaxRows+1)},
		program(append(bits(1), api.Var{Upper: 1})),
		program([]api.Var{{Lower: 1}}),
		program(append(box(1, 0, 0), api.Var{Integer: true, Open: true})),
		program([]api.Var{{}}, row(api.Ge, 1, 1)),
	}
}

// P9.1 and the errors of Check: proofs do not matter for what is no integer program.
func TestCheckArguments(t *testing.T) {
	for i, p := range notInteger() {
		for _, nodes := range [][]api.Node{nil, {farkas()}, {farkas(list(1)...)}, {empty(0)}, exampleProof(), {{Kind: 9}}} {
			if got := proof.Check(p, nodes); got != api.ErrArg {
				t.Error(i, got)
			}
		}
	}
}

// P9.1: proofs of programs without a solution, and what differs from them in one place, compared with the definition.
func TestCheckDefinition(t *testing.T) {
	counts := map[api.Errno]int{}
	hopeless(2500, func(r *rand.Rand, p api.Program, nodes []api.Node) {
		if got := proof.Check(p, nodes); got != api.OK || !proves(p, nodes) {
			t.Fatal(p, nodes, got)
		}
		for range 12 {
			other := changed(r, nodes)
			want := api.ErrRejected
			if proves(p, other) {
				want = api.OK
			}
			if got := proof.Check(p, other); got != want {
				t.Fatal(p, other, got, want)
			}
			counts[want]++
		}
	})
	if min(counts[api.OK], counts[api.ErrRejected]) < 2500 {
		t.Error(counts)
	}
}

// P9.1 and P9.5: no list of nodes is a proof of a program with a solution.
func TestCheckSolvable(t *testing.T) {
	hopeless(800, func(r *rand.Rand, p api.Program, nodes []api.Node) {
		for range 5 {
			q := randomProgram(r)
			if len(p.Vars) > 0 && r.Intn(3) > 0 {
				q = program(slices.Clone(p.Vars), p.Rows...)
				q.Vars[r.Intn(len(q.Vars))].Upper += r.Int63n(3)
				q.Rows = q.Rows[:r.Intn(len(q.Rows)+1)]
			}
			if got := proof.Check(q, nodes); got == api.OK && solvable(q) || (got == api.OK) != proves(q, nodes) {
				t.Fatal(q, nodes, got)
			}
		}
	})
}

// P9.5: a beginning is no proof, and rows that are added at the end change nothing unless there are cuts.
func TestCheckDerived(t *testing.T) {
	longer := 0
	hopeless(1500, func(r *rand.Rand, p api.Program, nodes []api.Node) {
		for i := range nodes {
			if got := proof.Check(p, nodes[:i]); got != api.ErrRejected {
				t.Fatal(p, nodes, i, got)
			}
		}
		if slices.ContainsFunc(nodes, func(n api.Node) bool { return n.Kind == api.NodeCut }) {
			return
		}
		p.Rows = append(p.Rows, row(r.Intn(3), r.Int63n(5)), row(r.Intn(3), 0))
		if got := proof.Check(p, nodes); got != api.OK {
			t.Fatal(p, nodes, got)
		}
		if len(nodes) > 2 {
			longer++
		}
	})
	if longer < 100 {
		t.Error("only", longer)
	}
}

// P9.1: the proofs of the solver.
func TestCheckSolve(t *testing.T) {
	programs(3000, func(r *rand.Rand, p api.Program) {
		a, err := branch.Solve(p)
		want := api.OK
		if a.Found {
			want = api.ErrRejected
		}
		if got := proof.Check(p, a.Proof); err != api.OK || got != want {
			t.Fatal(p, a, err, got)
		}
	})
}

// P9.1 and P9.2: as many levels as there may be.
func TestDeep(t *testing.T) {
	const levels = 1 << 16
	p := program(box(0, levels, 0), row(api.Ge, 2*levels+1, 2))
	nodes := []api.Node{}
	for i := range int64(levels) {
		nodes = append(nodes, split(0, i), farkas(list(1)...))
	}
	nodes = append(nodes, farkas(list(1)...))
	expect(t, "to the right", p, nodes, api.OK)
	if depth, ok := proof.Depth(nodes); depth != levels || !ok {
		t.Error(depth, ok)
	}
	again, err := proof.Parse(proof.Format(nodes))
	if err != api.OK || len(again) != len(nodes) {
		t.Error(err, len(again))
	}
	nodes[len(nodes)-1] = farkas(list(0)...)
	expect(t, "a leaf that proves nothing", p, nodes, api.ErrRejected)
	left := slices.Repeat([]api.Node{split(0, levels)}, levels)
	left = append(left, farkas(list(1)...))
	left = append(left, slices.Repeat([]api.Node{empty(0)}, levels)...)
	expect(t, "to the left", p, left, api.OK)
	expect(t, "a node too few", p, left[:len(left)-1], api.ErrRejected)
}
