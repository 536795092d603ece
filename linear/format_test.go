package linear_test

import (
	"math/rand"
	"slices"
	"strings"
	"testing"

	"exodus/api"
	"exodus/linear"
)

// P4.6
func TestFormatVariables(t *testing.T) {
	p := api.Program{Vars: []api.Var{
		{}, {Lower: -5, Upper: -2, Integer: true, Cost: 7}, {Lower: -1, Open: true, Cost: -1}, {Open: true, Integer: true}, {Lower: 3, Upper: 2}, {Lower: -1 << 40, Upper: 1 << 40, Cost: -1 << 40},
	}}
	want := []string{
		"x0 in [0, 0] real cost 0", "x1 in [-5, -2] integer cost 7", "x2 in [-1, open) real cost -1", "x3 in [0, open) integer cost 0", "x4 in [3, 2] real cost 0", "x5 in [-1099511627776, 1099511627776] real cost -1099511627776",
	}
	if got := linear.Format(p); !slices.Equal(got, want) {
		t.Errorf("%q", got)
	}
}

// P4.6
func TestFormatRows(t *testing.T) {
	p := api.Program{Vars: make([]api.Var, 12), Rows: []api.Row{
		{Name: "a", Kind: api.Le, Terms: []api.Term{{Var: 0, Coef: 2}, {Var: 3, Coef: -1}, {Var: 5, Coef: 4}}, Bound: 9},
		{Name: "b c", Group: 60, Kind: api.Ge, Terms: []api.Term{{Var: 1, Coef: -1}, {Var: 2, Coef: 1}}, Bound: -3},
		{Name: "d", Group: 1, Kind: api.Eq, Terms: []api.Term{{Var: 10, Coef: -7}, {Var: 11, Coef: -12}}, Bound: 0},
		{Name: "e:", Kind: api.Eq, Bound: -1},
		{Name: "", Group: 2, Kind: api.Ge, Terms: []api.Term{{Var: 0, Coef: 1}}, Bound: 1 << 40},
		{Name: "(1): x0 <= 2", Kind: api.Le, Terms: []api.Term{{Var: 4, Coef: -1 << 40}, {Var: 5, Coef: 1 << 40}}, Bound: -1 << 40},
	}}
	want := []string{
		"a (0): 2 x0 - x3 + 4 x5 <= 9", "b c (60): -x1 + x2 >= -3", "d (1): -7 x10 - 12 x11 = 0", "e: (0): 0 = -1", " (2): x0 >= 1099511627776",
		"(1): x0 <= 2 (0): -1099511627776 x4 + 1099511627776 x5 <= -1099511627776",
	}
	if got := linear.Format(p); len(got) != 18 || !slices.Equal(got[12:], want) {
		t.Errorf("%q", got)
	}
}

// P4.6: there are no lines for programs that are not valid.
func TestFormatInvalid(t *testing.T) {
	for i, p := range []api.Program{
		{}, oneVar(api.Var{Open: true, Upper: 1}), oneVar(api.Var{Cost: 1<<40 + 1}), oneRow(api.Row{Kind: 3}), oneRow(api.Row{Terms: terms(3)}), oneRow(api.Row{Terms: terms(1, 1)}), oneRow(api.Row{Name: "\n"}), oneRow(api.Row{Group: -1}),
	} {
		if got := linear.Format(p); len(got) != 0 {
			t.Errorf("%d %q", i, got)
		}
	}
	programs(func(r *rand.Rand, p api.Program) {
		lines := len(p.Vars) + len(p.Rows)
		if !linear.Valid(p) {
			lines = 0
		}
		got := linear.Format(p)
		if len(got) != lines || strings.Contains(strings.Join(got, ""), "  ") {
			t.Fatalf("%v %q", p, got)
		}
	})
}

// The example of the chapter.
func TestExample(t *testing.T) {
	p := example()
	for _, x := range [][]api.Rat{{frac(1, 1), frac(3, 2)}, point(0, 1)} {
		expect(t, "sum", linear.Dot(p.Rows[0].Terms, x), whole(-2))
		if got := linear.Violated(p, x); len(got) != 0 {
			t.Error(x, got)
		}
	}
	want := []string{"x0 in [0, 3] real cost 2", "x1 in [1, open) real cost -1", "r (4): x0 - 2 x1 <= -2"}
	if got := linear.Format(p); !slices.Equal(got, want) {
		t.Errorf("%q", got)
	}
}
