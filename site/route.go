package site

import (
	"slices"

	"exodus/api"
)

// Link returns the link that joins two sites.
func Link(m api.Model, a, b int) int {
	if a == b {
		return 0
	}
	return 1 + slices.IndexFunc(m.Links, func(l api.Link) bool {
		return l.A == a && l.B == b || l.A == b && l.B == a
	})
}

// Near returns the sites that links join to a site.
func Near(m api.Model, site int) []int {
	return neighbours(m)(site)
}

// neighbours returns a function that returns, in increasing order, the existing sites that links join to an existing site.
func neighbours(m api.Model) func(site int) []int {
	near := map[int][]int{}
	for _, l := range m.Links {
		if l.A != l.B && exists(l.A, len(m.Sites)) && exists(l.B, len(m.Sites)) {
			near[l.A] = append(near[l.A], l.B)
			near[l.B] = append(near[l.B], l.A)
		}
	}
	return func(site int) []int {
		return slices.Compact(slices.Sorted(slices.Values(near[site])))
	}
}

// Route returns a shortest way from a site to another one.
func Route(m api.Model, a, b int) []int {
	if !exists(a, len(m.Sites)) {
		return nil
	}
	near, before, queue := neighbours(m), map[int]int{a: 0}, []int{a}
	// The sites of the queue are in the order of their ways, so that the first way that reaches a site is the one to keep.
	for i := 0; i < len(queue); i++ {
		for _, site := range near(queue[i]) {
			if _, seen := before[site]; !seen {
				before[site] = queue[i]
				queue = append(queue, site)
			}
		}
	}
	if _, seen := before[b]; !seen {
		return nil
	}
	way := []int{}
	for site := b; site != 0; site = before[site] {
		way = append(way, site)
	}
	slices.Reverse(way)
	return way
}
