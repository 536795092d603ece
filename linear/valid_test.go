package linear_test

import (
	"math"
	"math/rand"
	"strings"
	"testing"

	"exodus/api"
	"exodus/linear"
)

// oneVar returns a program of one variable.
func oneVar(v api.Var) api.Program {
	return api.Program{Vars: []api.Var{v}}
}

// oneRow returns a program of three variables and one row.
func oneRow(row api.Row) api.Program {
	return api.Program{Vars: make([]api.Var, 3), Rows: []api.Row{row}}
}

// terms returns terms of some variables with the coefficient 1.
func terms(vars ...int) []api.Term {
	list := []api.Term{}
	for _, v := range vars {
		list = append(list, api.Term{Var: v, Coef: 1})
	}
	return list
}

// printable returns all bytes that a name may contain.
func printable() string {
	list := []byte{}
	for c := byte(32); c <= 126; c++ {
		list = append(list, c)
	}
	return string(list)
}

// P4.1
func TestValid(t *testing.T) {
	most := int64(1) << 40
	for i, p := range []api.Program{
		{}, example(), {Vars: make([]api.Var, 400)}, {Rows: make([]api.Row, 4000)}, {Vars: make([]api.Var, 400), Rows: make([]api.Row, 4000)},
		oneVar(api.Var{Lower: 5, Upper: 2}), oneVar(api.Var{Lower: most, Open: true}), oneVar(api.Var{Lower: -most, Upper: most, Integer: true, Cost: most}), oneVar(api.Var{Lower: most, Upper: -most, Cost: -most}),
		oneVar(api.Var{Lower: 7, Open: true, Integer: true}),
		oneRow(api.Row{}), oneRow(api.Row{Terms: []api.Term{}}), oneRow(api.Row{Terms: terms(0)}), oneRow(api.Row{Terms: terms(2)}), oneRow(api.Row{Terms: terms(0, 2)}), oneRow(api.Row{Terms: terms(0, 1, 2)}),
		oneRow(api.Row{Terms: []api.Term{{Var: 0, Coef: most}, {Var: 1, Coef: -most}}}), oneRow(api.Row{Bound: most}), oneRow(api.Row{Bound: -most}),
		oneRow(api.Row{Kind: api.Le}), oneRow(api.Row{Kind: api.Ge}), oneRow(api.Row{Kind: api.Eq}), oneRow(api.Row{Group: 1}), oneRow(api.Row{Group: 60}),
		oneRow(api.Row{Name: printable()[:80]}), oneRow(api.Row{Name: printable()[80:]}), oneRow(api.Row{Name: strings.Repeat("~", 80)}), oneRow(api.Row{Name: " "}),
		{Rows: []api.Row{{Name: "same"}, {Name: "same"}}},
	} {
		if !linear.Valid(p) {
			t.Error(i, "is valid")
		}
	}
}

// P4.1
func TestNotValid(t *testing.T) {
	beyond := int64(1)<<40 + 1
	list := []api.Program{
		{Vars: make([]api.Var, 401)}, {Rows: make([]api.Row, 4001)},
		oneVar(api.Var{Open: true, Upper: 1}), oneVar(api.Var{Open: true, Upper: -1}),
		oneRow(api.Row{Terms: terms(3)}), oneRow(api.Row{Terms: terms(-1)}), oneRow(api.Row{Terms: terms(math.MinInt)}), oneRow(api.Row{Terms: terms(0, 1, 2, 3)}), oneRow(api.Row{Terms: terms(math.MaxInt)}),
		oneRow(api.Row{Terms: terms(1, 1)}), oneRow(api.Row{Terms: terms(1, 0)}), oneRow(api.Row{Terms: terms(0, 2, 1)}), oneRow(api.Row{Terms: terms(0, 2, 2)}), oneRow(api.Row{Terms: terms(0, 2, 0)}),
		oneRow(api.Row{Terms: []api.Term{{Var: 0}}}), oneRow(api.Row{Terms: []api.Term{{Var: 0, Coef: 1}, {Var: 1}}}),
		oneRow(api.Row{Kind: -1}), oneRow(api.Row{Kind: 3}), oneRow(api.Row{Kind: math.MaxInt}), oneRow(api.Row{Group: -1}), oneRow(api.Row{Group: 61}),
		oneRow(api.Row{Name: strings.Repeat("a", 81)}), oneRow(api.Row{Name: "a\x1fb"}), oneRow(api.Row{Name: "a\n"}), oneRow(api.Row{Name: "\x7f"}), oneRow(api.Row{Name: "\x00"}), oneRow(api.Row{Name: "\xc3\xa4"}), oneRow(api.Row{Name: "\xff"}),
		{Rows: []api.Row{{Terms: terms(0)}}}, {Vars: make([]api.Var, 400), Rows: []api.Row{{Terms: terms(400)}}},
		{Vars: []api.Var{{}, {Open: true, Upper: 1}}}, {Rows: []api.Row{{}, {Kind: 3}}},
	}
	for _, n := range []int64{beyond, -beyond, math.MaxInt64, math.MinInt64} {
		list = append(list, oneVar(api.Var{Lower: n}), oneVar(api.Var{Upper: n}), oneVar(api.Var{Cost: n}), oneVar(api.Var{Lower: n, Open: true}), oneRow(api.Row{Bound: n}), oneRow(api.Row{Terms: []api.Term{{Var: 1, Coef: n}}}))
	}
	for i, p := range list {
		if linear.Valid(p) {
			t.Error(i, "is not valid", p)
		}
	}
}

// P4.1
func TestValidRandom(t *testing.T) {
	r := rand.New(rand.NewSource(7))
	for range 1000 {
		if p := randomProgram(r, false); !linear.Valid(p) {
			t.Fatal(p)
		}
	}
}
