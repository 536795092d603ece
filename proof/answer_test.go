package proof_test

import (
	"math"
	"math/rand"
	"slices"
	"testing"

	"exodus/api"
	"exodus/branch"
	"exodus/proof"
)

// answered reports whether an answer of an integer program is a proved one.
func answered(p api.Program, a api.Answer) bool {
	if !a.Found {
		return len(a.Point) == 0 && a.Value == 0 && proves(p, a.Proof)
	}
	if !satisfies(p, a.Point) || price(p, a.Point) != a.Value {
		return false
	}
	below, err := branch.Below(p, a.Value-1)
	return err == api.OK && proves(below, a.Proof)
}

// P9.4: the conditions of both kinds of answers one by one.
func TestAnswer(t *testing.T) {
	p := program(bits(-3, -4, -5), row(api.Le, 8, 3, 4, 5))
	below := []api.Node{farkas(list(-1, -1)...)}
	point := []int64{1, 0, 1}
	none := program(bits(2, 3), row(api.Eq, 1, 2, 2))
	for i, c := range []struct {
		p    api.Program
		a    api.Answer
		want api.Errno
	}{
		{p, api.Answer{Found: true, Point: point, Value: -8, Proof: below}, api.OK},
		{p, api.Answer{Found: true, Point: point, Value: -8}, api.ErrRejected},
		{p, api.Answer{Found: true, Point: point, Value: -8, Proof: []api.Node{farkas(list(0, -1)...)}}, api.ErrRejected},
		{p, api.Answer{Found: true, Point: point, Value: -8, Proof: append(below, below...)}, api.ErrRejected},
		{p, api.Answer{Found: true, Point: point, Value: -8, Proof: exampleProof()}, api.ErrRejected},
		{p, api.Answer{Found: true, Point: point, Value: -7, Proof: below}, api.ErrRejected},
		{p, api.Answer{Found: true, Point: point, Value: -9, Proof: below}, api.ErrRejected},
		{p, api.Answer{Found: true, Point: point, Value: 0, Proof: below}, api.ErrRejected},
		{p, api.Answer{Found: true, Point: []int64{1, 1, 0}, Value: -7, Proof: below}, api.ErrRejected},
		{p, api.Answer{Found: true, Point: []int64{0, 1, 1}, Value: -9, Proof: below}, api.ErrRejected},
		{p, api.Answer{Found: true, Point: []int64{1, 0, 2}, Value: -13, Proof: below}, api.ErrRejected},
		{p, api.Answer{Found: true, Point: []int64{-1, 0, 1}, Value: -2, Proof: below}, api.ErrRejected},
		{p, api.Answer{Found: true, Point: []int64{1, 0, 1, 0}, Value: -8, Proof: below}, api.ErrRejected},
		{p, api.Answer{Found: true, Point: []int64{1, 0}, Value: -3, Proof: below}, api.ErrRejected},
		{p, api.Answer{Found: true, Value: 0, Proof: below}, api.ErrRejected},
		{p, api.Answer{Found: true, Point: []int64{math.MaxInt64, math.MinInt64, 1}, Value: -8, Proof: below}, api.ErrRejected},
		{p, api.Answer{Found: false, Point: point, Value: -8, Proof: below}, api.ErrRejected},
		{p, api.Answer{Proof: below}, api.ErrRejected},
		{p, api.Answer{}, api.ErrRejected},
		{none, api.Answer{Proof: exampleProof()}, api.OK},
		{none, api.Answer{Point: []int64{}, Proof: exampleProof()}, api.OK},
		{none, api.Answer{Point: []int64{0}, Proof: exampleProof()}, api.ErrRejected},
		{none, api.Answer{Point: []int64{0, 0}, Proof: exampleProof()}, api.ErrRejected},
		{none, api.Answer{Value: 1, Proof: exampleProof()}, api.ErrRejected},
		{none, api.Answer{Value: -1, Proof: exampleProof()}, api.ErrRejected},
		{none, api.Answer{Proof: exampleProof()[:4]}, api.ErrRejected},
		{none, api.Answer{}, api.ErrRejected},
		{none, api.Answer{Found: true, Proof: exampleProof()}, api.ErrRejected},
		{none, api.Answer{Found: true, Point: []int64{0, 0}, Proof: exampleProof()}, api.ErrRejected},
		{none, api.Answer{Found: true, Point: []int64{1, 0}, Value: 2, Proof: exampleProof()}, api.ErrRejected},
		{api.Program{}, api.Answer{Found: true, Proof: []api.Node{farkas(list(-1)...)}}, api.OK},
		{api.Program{}, api.Answer{Proof: []api.Node{farkas(list(-1)...)}}, api.ErrRejected},
		{api.Program{}, api.Answer{Found: true, Value: 1, Proof: []api.Node{farkas(list(-1)...)}}, api.ErrRejected},
	} {
		if got := proof.Answer(c.p, c.a); got != c.want {
			t.Error(i, got)
		}
	}
	for i, p := range notInteger() {
		for _, a := range []api.Answer{{}, {Found: true, Point: point, Value: -8, Proof: below}, {Proof: exampleProof()}} {
			if got := proof.Answer(p, a); got != api.ErrArg {
				t.Error(i, got)
			}
		}
	}
}

// P9.4: where the program below the value is beyond the limits of a valid one, nothing is a proof of it.
func TestAnswerLimits(t *testing.T) {
	most := int64(api.MaxCoef)
	first := []api.Node{farkas(list(-1)...)}
	for i, c := range []struct {
		vars  []api.Var
		point []int64
		value int64
		want  api.Errno
	}{
		{box(1-most, 7, 1), []int64{1 - most}, 1 - most, api.OK},
		{box(-most, 7, 1), []int64{-most}, -most, api.ErrRejected},
		{box(-most, 7, 1), []int64{1 - most}, 1 - most, api.ErrRejected},
		{box(most, most, 1), []int64{most}, most, api.OK},
		{box(most, most, 1, 1), []int64{most, most}, 2 * most, api.ErrRejected},
		{append(box(most, most, 1), box(1, 1, 1)...), []int64{most, 1}, most + 1, api.OK},
		{append(box(most, most, 1), box(2, 2, 1)...), []int64{most, 2}, most + 2, api.ErrRejected},
		{box(-1<<23, 0, most), []int64{-1 << 23}, math.MinInt64, api.ErrRejected},
		{box(-1<<24, 0, most), []int64{-1 << 24}, 0, api.ErrRejected},
		{box(1<<24, 1<<24, most), []int64{1 << 24}, 0, api.ErrRejected},
	} {
		if got := proof.Answer(program(c.vars), api.Answer{Found: true, Point: c.point, Value: c.value, Proof: first}); got != c.want {
			t.Error(i, got)
		}
	}
	rows := slices.Repeat([]api.Row{row(api.Le, 1, 1)}, api.MaxRows)
	y := append(make([]api.Rat, api.MaxRows-1), frac(-1, 1))
	fits := api.Answer{Found: true, Point: []int64{0}, Proof: []api.Node{farkas(y...)}}
	if got := proof.Answer(program(bits(1), rows[1:]...), fits); got != api.OK {
		t.Error(got)
	}
	fits.Proof = []api.Node{farkas(append(y, frac(-1, 1))...)}
	if got := proof.Answer(program(bits(1), rows...), fits); got != api.ErrRejected {
		t.Error(got)
	}
	rows[7] = row(api.Ge, 2, 1)
	if got := proof.Answer(program(bits(1), rows...), api.Answer{Proof: []api.Node{farkas(append(make([]api.Rat, 7), frac(1, 1))...)}}); got != api.OK {
		t.Error(got)
	}
}

// P9.4 and P9.5: the answers of the solver, and what differs from them in one part, compared with the definition. No solution costs less than the value of an answer that is accepted, and without a solution there is none.
func TestAnswerDefinition(t *testing.T) {
	counts := map[api.Errno]int{}
	programs(3000, func(r *rand.Rand, p api.Program) {
		least, found := cheapest(p)
		verify := func(a api.Answer) {
			want := api.ErrRejected
			if answered(p, a) {
				want = api.OK
			}
			if got := proof.Answer(p, a); got != want || got == api.OK && (a.Found != found || found && a.Value != least) {
				t.Fatal(p, a, got, want)
			}
			counts[want]++
		}
		a, _ := branch.Solve(p)
		if proof.Answer(p, a) != api.OK {
			t.Fatal(p, a)
		}
		for _, change := range []func(a *api.Answer){
			func(a *api.Answer) {},
			func(a *api.Answer) { a.Found = !a.Found },
			func(a *api.Answer) { a.Value += r.Int63n(5) - 2 },
			func(a *api.Answer) { a.Point = append(slices.Clone(a.Point), 0) },
			func(a *api.Answer) { a.Point = a.Point[:max(0, len(a.Point)-1)] },
			func(a *api.Answer) { a.Proof = changed(r, a.Proof) },
			func(a *api.Answer) { a.Proof = changed(r, a.Proof) },
			func(a *api.Answer) {
				a.Point = slices.Clone(a.Point)
				for i := range a.Point {
					a.Point[i] += r.Int63n(3) - 1
				}
				if a.Found {
					a.Value = price(p, a.Point)
				}
			},
		} {
			other := a
			change(&other)
			verify(other)
		}
		points(p, func(x []int64) {
			if r.Intn(3) == 0 {
				verify(api.Answer{Found: true, Point: slices.Clone(x), Value: price(p, x), Proof: a.Proof})
			}
		})
	})
	if min(counts[api.OK], counts[api.ErrRejected]) < 4000 {
		t.Error(counts)
	}
}

// P9.4: answers for which many splits and cuts are needed, also after they were written and read.
func TestAnswerHard(t *testing.T) {
	r, long := rand.New(rand.NewSource(6)), 0
	for i := range 12 {
		p := program(bits())
		for range 10 + i%3 {
			p.Vars = append(p.Vars, api.Var{Upper: 1, Integer: true, Cost: r.Int63n(40) - 20})
		}
		for range 1 + i%2 {
			coefs, total := []int64{}, int64(0)
			for range p.Vars {
				coefs = append(coefs, 1+r.Int63n(40))
				total += coefs[len(coefs)-1]
			}
			p.Rows = append(p.Rows, row(i%3, total/2, coefs...))
		}
		a, err := branch.Solve(p)
		if err != api.OK || proof.Answer(p, a) != api.OK || !answered(p, a) {
			t.Fatal(p, a, err)
		}
		a.Proof, err = proof.Parse(proof.Format(a.Proof))
		if err != api.OK || proof.Answer(p, a) != api.OK {
			t.Fatal(p, a, err)
		}
		if depth, _ := proof.Depth(a.Proof); depth > 2 {
			long++
		}
	}
	if long < 3 {
		t.Error("only", long)
	}
}
