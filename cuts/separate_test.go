package cuts_test

import (
	"math/rand"
	"slices"
	"testing"

	"exodus/api"
	"exodus/cuts"
	"exodus/rational"
)

// names returns the texts of the multipliers, or the row and the variables, of cuts.
func names(list []api.Cut) [][]string {
	out := [][]string{}
	for _, c := range list {
		words := []string{}
		for _, y := range c.Multipliers {
			words = append(words, rational.Text(y))
		}
		if c.Kind == api.CutCover {
			words = append(words, "cover", rational.Text(rational.From(int64(c.Row))))
			for _, i := range c.Vars {
				words = append(words, rational.Text(rational.From(int64(i))))
			}
		}
		out = append(out, words)
	}
	return out
}

// P7.3: the cuts of a few programs, in their order.
func TestSeparate(t *testing.T) {
	whole := slices.Repeat([]api.Var{{Upper: 9, Integer: true}}, 3)
	mixed := append(bits(2), api.Var{Upper: 9})
	far := slices.Repeat([]api.Var{{Lower: api.MaxCoef, Upper: api.MaxCoef, Integer: true}}, 3)
	for _, c := range []struct {
		name string
		p    api.Program
		x    []api.Rat
		want [][]string
	}{
		{"the example", example(), point("1", "1/2", "2/5"), [][]string{{"cover", "0", "0", "2"}}},
		{"both kinds", example(), point("0", "1", "3/5"), [][]string{{"cover", "0", "1", "2"}, {"-1/4"}}},
		{"nothing is violated", example(), point("1", "0", "0"), nil},
		{"one cut for each size, in increasing order", program(whole, row(api.Ge, 13, 6, -4, 6)), point("1/2", "0", "1/2"), [][]string{{"1/4"}, {"1/6"}}},
		{"the size 1 does not count", program(whole, row(api.Ge, 1, 1, -1, 1)), nil, nil},
		{"at most", program(whole, row(api.Le, 3, 2, 2, 2)), point("3/2"), [][]string{{"-1/2"}}},
		{"equal, rounded up", program(whole, row(api.Eq, 3, 2, 2, 2)), point("3/2"), [][]string{{"1/2"}}},
		{"equal, not rounded down", program(whole, row(api.Eq, 3, 2, 2, 2)), point("5/2"), nil},
		{"several rows", program(bits(3), row(api.Le, 2, 1, 1, 1), row(api.Le, 7, 3, 4, 5), row(api.Ge, 3, 2, 2)), point("0", "1", "3/5"), [][]string{{"cover", "1", "1", "2"}, {"0", "-1/4"}, {"0", "0", "1/2"}}},
		{"not Integer, positive", program(mixed, row(api.Ge, 3, 2, 2, 1)), point("1", "1/2"), nil},
		{"not Integer, negative", program(mixed, row(api.Ge, 3, 2, 2, -1)), point("1", "1/2"), [][]string{{"1/2"}}},
		{"not Integer, at most", program(mixed, row(api.Le, 1, 2, 2, 1)), point("1/2", "1/4"), [][]string{{"cover", "0", "0"}, {"-1/2"}}},
		{"a short point", program(whole, row(api.Ge, 1, 2, 3, 4)), nil, [][]string{{"1/2"}, {"1/3"}, {"1/4"}}},
		{"a long point", program(whole, row(api.Ge, 1, 2, 3, 4)), point("0", "0", "0", "99"), [][]string{{"1/2"}, {"1/3"}, {"1/4"}}},
		{"no rows", program(whole), nil, nil},
		{"no variables", program(nil, row(api.Ge, 1)), nil, nil},
		{"too large", program(far, row(api.Ge, 2, 3, 3, 2)), nil, [][]string{{"1/3"}}},
		{"not too large", program(far, row(api.Ge, 0, 3, 3, 2)), nil, [][]string{{"1/2"}, {"1/3"}}},
	} {
		got := names(cuts.Separate(c.p, c.x))
		if !slices.EqualFunc(got, c.want, slices.Equal) {
			t.Error(c.name, got)
		}
	}
}

// P7.3: programs that are not valid.
func TestSeparateInvalid(t *testing.T) {
	for i, p := range invalid() {
		if list := cuts.Separate(p, point("1", "1/2", "2/5")); len(list) > 0 {
			t.Error(i, list)
		}
	}
}

// definedCuts returns the cuts of a row that a point violates, as the chapter lists them.
func definedCuts(p api.Program, index int, x []api.Rat) []api.Cut {
	list := []api.Cut{}
	take := func(c api.Cut) {
		if line, err := cuts.Derive(p, c); err == api.OK && violated(line, x) {
			list = append(list, c)
		}
	}
	if vars, ok := definedCoverFor(p, index, x); ok {
		take(cover(index, vars...))
	}
	line, sizes := p.Rows[index], []int64{}
	for _, term := range line.Terms {
		sizes = append(sizes, max(term.Coef, -term.Coef))
	}
	slices.Sort(sizes)
	for _, k := range slices.Compact(sizes) {
		if k < 2 {
			continue
		}
		y := make([]api.Rat, index+1)
		y[index] = frac(1, k)
		if line.Kind == api.Le {
			y[index] = frac(-1, k)
		}
		take(api.Cut{Kind: api.CutRound, Multipliers: y})
	}
	return list
}

// P7.3 and P7.4: random programs and points. All cuts are accepted, and violated.
func TestSeparateDefinition(t *testing.T) {
	kinds := [2]int{}
	programs(8000, func(r *rand.Rand, p api.Program) {
		x := randomPoint(r, len(p.Vars))
		want := []api.Cut{}
		for i := range p.Rows {
			want = append(want, definedCuts(p, i, x)...)
		}
		got := cuts.Separate(p, x)
		if !slices.EqualFunc(got, want, sameCut) {
			t.Fatal(p, x, got, want)
		}
		for _, c := range got {
			kinds[c.Kind]++
			if line, err := cuts.Derive(p, c); err != api.OK || !violated(line, x) {
				t.Fatal(p, x, c, line, err)
			}
		}
	})
	if kinds[api.CutRound] < 1500 || kinds[api.CutCover] < 300 {
		t.Error(kinds)
	}
}

// P7.3: a program with as many variables and rows as there may be.
func TestSeparateGreatest(t *testing.T) {
	p := program(bits(api.MaxVars))
	for i := range api.MaxRows {
		coefs := make([]int64, api.MaxVars)
		for k := range 8 {
			coefs[(i+k*47)%api.MaxVars] = int64(1 + (i+k)%5)
		}
		p.Rows = append(p.Rows, row(api.Le, 7, coefs...))
	}
	x := slices.Repeat(point("2/3", "1/4", "1/2", "1"), api.MaxVars/4)
	list := cuts.Separate(p, x)
	for i := 0; i < len(list); i += 100 {
		if line, err := cuts.Derive(p, list[i]); err != api.OK || !violated(line, x) {
			t.Fatal(list[i], line, err)
		}
	}
	if len(list) < api.MaxRows {
		t.Error("only", len(list))
	}
}

// P7.4: every integral solution satisfies the row of every cut.
func TestSound(t *testing.T) {
	checked := 0
	programs(4000, func(r *rand.Rand, p api.Program) {
		lines := []api.Row{}
		for range 6 {
			if line, err := cuts.Derive(p, randomCut(r, p)); err == api.OK {
				lines = append(lines, line)
			}
		}
		for _, c := range cuts.Separate(p, randomPoint(r, len(p.Vars))) {
			line, _ := cuts.Derive(p, c)
			lines = append(lines, line)
		}
		solutions(p, func(x []api.Rat) {
			for _, line := range lines {
				checked++
				if violated(line, x) {
					t.Fatal(p, line, x)
				}
			}
		})
	})
	if checked < 20000 {
		t.Error("only", checked)
	}
}

// P7.4: cuts of a program with the rows of cuts hold, too.
func TestSoundTwice(t *testing.T) {
	checked := 0
	programs(3000, func(r *rand.Rand, p api.Program) {
		q := p
		for range 4 {
			if next, err := cuts.Add(q, randomCut(r, q)); err == api.OK {
				q = next
			}
		}
		solutions(p, func(x []api.Rat) {
			for _, line := range q.Rows[len(p.Rows):] {
				checked++
				if violated(line, x) {
					t.Fatal(p, q, x)
				}
			}
		})
	})
	if checked < 20000 {
		t.Error("only", checked)
	}
}
