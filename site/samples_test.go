package site_test

import (
	"math"
	"math/rand"
	"slices"

	"exodus/api"
)

// example returns the model of the chapter's example.
func example() api.Model {
	return api.Model{
		Sites:    []string{"west", "east"},
		Feeds:    []string{"f"},
		Racks:    []api.Rack{{Name: "r", Site: 1, Feed: 1}},
		Machines: []api.Machine{{Name: "a", Rack: 1, Capacity: 10}, {Name: "b", Rack: 1, Capacity: 5}},
		Links:    []api.Link{{A: 1, B: 2, Capacity: 4}},
	}
}

// largest returns a model with as many sites, feeds, racks, machines and links as there may be (the links are as many as pairs of sites).
func largest() api.Model {
	m := api.Model{Sites: make([]string, api.MaxSites), Feeds: make([]string, api.MaxFeeds)}
	for i := range api.MaxRacks {
		m.Racks = append(m.Racks, api.Rack{Site: i%api.MaxSites + 1, Feed: i + 1})
	}
	for i := range api.MaxMachines {
		m.Machines = append(m.Machines, api.Machine{Rack: api.MaxRacks - i, Capacity: api.MaxNumber})
	}
	for b := range api.MaxSites {
		for a := range b {
			m.Links = append(m.Links, api.Link{A: a + 1, B: b + 1, Capacity: api.MaxNumber})
		}
	}
	return m
}

// linked returns a model with so many sites and the given links.
func linked(sites int, links ...[2]int) api.Model {
	m := api.Model{Sites: make([]string, sites)}
	for _, pair := range links {
		m.Links = append(m.Links, api.Link{A: pair[0], B: pair[1]})
	}
	return m
}

// some returns a number that exists in a list of some length, or, once in some times, one that does not.
func some(r *rand.Rand, length, odds int) int {
	if length == 0 || odds > 0 && r.Intn(odds) == 0 {
		return []int{0, -1, length + 1, math.MaxInt, math.MinInt}[r.Intn(5)]
	}
	return 1 + r.Intn(length)
}

// random returns a model whose numbers mostly exist, or all exist.
func random(r *rand.Rand) api.Model {
	odds, most := []int{0, 0, 30, 8}[r.Intn(4)], []int{2, 4, 6}[r.Intn(3)]
	m := api.Model{Sites: make([]string, 1+r.Intn(most)), Feeds: make([]string, r.Intn(most))}
	for range r.Intn(most) {
		m.Racks = append(m.Racks, api.Rack{Site: some(r, len(m.Sites), odds), Feed: some(r, len(m.Feeds), odds)})
	}
	for range 1 + r.Intn(most) {
		capacity := r.Intn(50)
		if odds == 8 && r.Intn(4) == 0 {
			capacity = []int{-1, api.MaxNumber + 1, math.MaxInt, math.MinInt}[r.Intn(4)]
		}
		m.Machines = append(m.Machines, api.Machine{Rack: some(r, len(m.Racks), odds), Capacity: capacity})
	}
	for range r.Intn(2 * most) {
		a, b := some(r, len(m.Sites), odds), some(r, len(m.Sites), odds)
		if odds == 0 && a > b {
			a, b = b, a
		}
		m.Links = append(m.Links, api.Link{A: a, B: b, Capacity: r.Intn(9)})
	}
	return m
}

// models calls check for many models, some of which are not valid.
func models(count int, check func(m api.Model)) {
	r := rand.New(rand.NewSource(1))
	for range count {
		check(random(r))
	}
}

// around returns numbers from below those that exist to beyond them.
func around(length int) []int {
	list := []int{math.MinInt, -2, -1, 0}
	for number := range length + 2 {
		list = append(list, number+1)
	}
	return append(list, math.MaxInt-1, math.MaxInt)
}

// kinds are the numbers of all kinds of domains, and others.
var kinds = []int{api.ByNothing, api.ByMachine, api.ByRack, api.ByFeed, api.BySite, 5, -1, 60, math.MinInt, math.MaxInt}

// in reports whether a number is from 1 to a length.
func in(number, length int) bool {
	return 1 <= number && number <= length
}

// validOf reports whether the site part of a model is valid, as the chapter defines it.
func validOf(m api.Model) bool {
	ok := len(m.Sites) >= 1 && len(m.Sites) <= 4 && len(m.Feeds) <= 16 && len(m.Racks) <= 16 && len(m.Machines) >= 1 && len(m.Machines) <= 16 && len(m.Links) <= 12
	for i, rack := range m.Racks {
		ok = ok && in(rack.Site, len(m.Sites)) && in(rack.Feed, len(m.Feeds))
		for _, other := range m.Racks[:i] {
			ok = ok && (other.Feed != rack.Feed || other.Site == rack.Site)
		}
	}
	for _, machine := range m.Machines {
		ok = ok && in(machine.Rack, len(m.Racks)) && machine.Capacity >= 0 && machine.Capacity <= 1<<20
	}
	for i, link := range m.Links {
		ok = ok && in(link.A, len(m.Sites)) && in(link.B, len(m.Sites)) && link.A < link.B && link.Capacity >= 0 && link.Capacity <= 1<<20
		for _, other := range m.Links[:i] {
			ok = ok && (other.A != link.A || other.B != link.B)
		}
	}
	return ok
}

// domainOf returns the domain of a machine, as the chapter defines it.
func domainOf(m api.Model, by, machine int) int {
	if !in(machine, len(m.Machines)) {
		return 0
	}
	if by == api.ByMachine {
		return machine
	}
	number := m.Machines[machine-1].Rack
	if !in(number, len(m.Racks)) {
		return 0
	}
	rack := m.Racks[number-1]
	switch {
	case by == api.ByRack:
		return number
	case by == api.ByFeed && in(rack.Feed, len(m.Feeds)):
		return rack.Feed
	case by == api.BySite && in(rack.Site, len(m.Sites)):
		return rack.Site
	}
	return 0
}

// linkOf returns the least number of a link that joins two sites, as the chapter defines it.
func linkOf(m api.Model, a, b int) int {
	for i, link := range m.Links {
		if a != b && (link == api.Link{A: a, B: b, Capacity: link.Capacity} || link == api.Link{A: b, B: a, Capacity: link.Capacity}) {
			return i + 1
		}
	}
	return 0
}

// ways returns all ways from a site to another one on which no site is twice, in lexicographic order.
func ways(m api.Model, a, b int) [][]int {
	list := [][]int{}
	var extend func(way []int)
	extend = func(way []int) {
		last := way[len(way)-1]
		if last == b {
			list = append(list, slices.Clone(way))
			return
		}
		for next := 1; next <= len(m.Sites); next++ {
			if linkOf(m, last, next) > 0 && !slices.Contains(way, next) {
				extend(append(way, next))
			}
		}
	}
	if in(a, len(m.Sites)) && in(b, len(m.Sites)) {
		extend([]int{a})
	}
	return list
}
