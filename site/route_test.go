package site_test

import (
	"math"
	"slices"
	"testing"

	"exodus/api"
	"exodus/site"
)

// P14.4: links that are given twice, the other way round, from a site to itself, and to sites that do not exist.
func TestLinks(t *testing.T) {
	m := linked(4, [2]int{2, 2}, [2]int{4, 3}, [2]int{1, 3}, [2]int{3, 1}, [2]int{3, 4}, [2]int{1, 5}, [2]int{0, 1}, [2]int{-1, 7}, [2]int{1, 2})
	for _, c := range [][3]int{
		{1, 1, 0}, {2, 2, 0}, {3, 4, 2}, {4, 3, 2}, {1, 3, 3}, {3, 1, 3}, {1, 2, 9}, {2, 1, 9}, {2, 3, 0}, {3, 2, 0}, {1, 4, 0}, {2, 4, 0},
		{1, 0, 7}, {5, 1, 6}, {7, -1, 8}, {5, 5, 0}, {0, 0, 0}, {math.MinInt, 1, 0}, {1, math.MaxInt, 0},
	} {
		number(t, "link", site.Link(m, c[0], c[1]), c[2])
	}
	list(t, "near 1", site.Near(m, 1), 2, 3)
	list(t, "near 2", site.Near(m, 2), 1)
	list(t, "near 3", site.Near(m, 3), 1, 4)
	list(t, "near 4", site.Near(m, 4), 3)
	for _, none := range []int{0, -1, 5, 7, math.MinInt, math.MaxInt} {
		list(t, "near no site", site.Near(m, none))
	}
	list(t, "near no links", site.Near(linked(2), 1))
	number(t, "no links", site.Link(linked(2), 1, 2), 0)
}

// P14.5: sites without a way, the way from a site to itself, and several shortest ways.
func TestRoute(t *testing.T) {
	m := linked(8, [2]int{1, 2}, [2]int{2, 5}, [2]int{4, 5}, [2]int{1, 4}, [2]int{3, 1}, [2]int{5, 3}, [2]int{6, 5}, [2]int{7, 7}, [2]int{8, 9}, [2]int{9, 1})
	for _, way := range [][]int{{1}, {7}, {8}, {1, 2}, {1, 2, 5}, {5, 2, 1}, {2, 1, 3}, {3, 1, 2}, {4, 1, 3}, {1, 2, 5, 6}, {6, 5, 2, 1}, {6, 5, 3}, {5, 6}} {
		list(t, "route", site.Route(m, way[0], way[len(way)-1]), way...)
	}
	for _, pair := range [][2]int{{1, 7}, {7, 1}, {1, 8}, {8, 1}, {8, 9}, {9, 8}, {9, 9}, {0, 0}, {-1, -1}, {0, 1}, {1, 0}, {math.MaxInt, 1}, {1, math.MinInt}} {
		list(t, "no way", site.Route(m, pair[0], pair[1]))
	}
	// The first site of a way counts more than the later ones, and the number of sites counts most.
	m = linked(7, [2]int{1, 3}, [2]int{3, 4}, [2]int{4, 7}, [2]int{1, 2}, [2]int{2, 5}, [2]int{5, 7})
	list(t, "first site", site.Route(m, 1, 7), 1, 2, 5, 7)
	list(t, "way back", site.Route(m, 7, 1), 7, 4, 3, 1)
	m.Links = append(m.Links, api.Link{A: 3, B: 7})
	list(t, "fewer sites", site.Route(m, 1, 7), 1, 3, 7)
	list(t, "no sites", site.Route(api.Model{}, 1, 1))
}

// P14.4 to P14.6: the definitions on many models, some of which are not valid.
func TestRouteDefinition(t *testing.T) {
	models(3000, func(m api.Model) {
		for _, a := range around(len(m.Sites)) {
			near := []int{}
			for _, b := range around(len(m.Sites)) {
				number(t, "link", site.Link(m, a, b), linkOf(m, a, b))
				if in(a, len(m.Sites)) && in(b, len(m.Sites)) && linkOf(m, a, b) > 0 {
					near = append(near, b)
				}
				want := []int{}
				for _, way := range ways(m, a, b) {
					if len(want) == 0 || len(way) < len(want) {
						want = way
					}
				}
				list(t, "route", site.Route(m, a, b), want...)
				number(t, "joined in both directions", site.Link(m, a, b), site.Link(m, b, a))
				number(t, "length of the way back", len(site.Route(m, b, a)), len(want))
			}
			list(t, "near", site.Near(m, a), near...)
		}
		if t.Failed() {
			t.Fatal(m)
		}
	})
}

// P1: a model with more sites and links than a valid one, which have several ways of the same length.
func TestLong(t *testing.T) {
	m, want := linked(30001), []int{1}
	for i := 1; i < 30000; i += 3 {
		m.Links = append(m.Links, api.Link{A: i, B: i + 2}, api.Link{A: i, B: i + 1}, api.Link{A: i + 3, B: i + 1}, api.Link{A: i + 2, B: i + 3})
		want = append(want, i+1, i+3)
	}
	want = want[:len(want)-1]
	last := want[len(want)-1]
	list(t, "near", site.Near(m, 4), 2, 3, 5, 6)
	if !slices.Equal(site.Route(m, 1, last), want) {
		t.Error("a long way")
	}
}
