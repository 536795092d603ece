package simplex

import (
	"testing"

	"exodus/api"
)

// cycle returns a tableau in which the steepest column, and of the lines that stop it the one of the least variable, lead back to the beginning after six exchanges (an example of Chvatal's).
func cycle() *tableau {
	tab := newTableau(api.Program{Vars: []api.Var{{Open: true, Cost: -10}, {Open: true, Cost: 57}, {Open: true, Cost: 9}, {Open: true, Cost: 24}}})
	tab.refresh()
	for i, numbers := range [][]int64{{2, 0, 1, -11, -5, 18}, {2, 0, 1, -3, -1, 2}, {1, 0, 1, 0, 0, 0}} {
		l := &line{4 + i, newEquation(4)}
		for place, n := range numbers {
			l.put(place, number{small: n})
		}
		tab.lines = append(tab.lines, l)
		tab.bounds = append(tab.bounds, bounds{upper: int64(i / 2), hasUpper: true})
	}
	return tab
}

// P1 and P5.1: the search ends where a careless choice of the column never does.
func TestCycle(t *testing.T) {
	careless := cycle()
	for range 600 {
		column, falls := careless.falling(careless.steepest)
		nearest, found := careless.nearest(column)
		if !falls || !found || sign(nearest.amount) != 0 {
			t.Fatal("this is no cycle")
		}
		careless.exchange(nearest.line, column, nearest.bound)
	}
	tab := cycle()
	if column, endless := tab.descend(); endless || exact(tab.cost.at(constant)).Int64() != -1 || exact(tab.cost.at(scale)).Int64() != 1 {
		t.Error(column, endless, tab.cost)
	}
}
