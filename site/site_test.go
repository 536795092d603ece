package site_test

import (
	"math"
	"slices"
	"testing"

	"exodus/api"
	"exodus/site"
)

// list fails unless a list has the given elements.
func list(t *testing.T, what string, got []int, want ...int) {
	t.Helper()
	if !slices.Equal(got, want) {
		t.Error(what, got, want)
	}
}

// number fails unless a number is another one.
func number(t *testing.T, what string, got, want int) {
	t.Helper()
	if got != want {
		t.Error(what, got, want)
	}
}

// The example of the chapter.
func TestExample(t *testing.T) {
	m := example()
	if !site.Valid(m) {
		t.Error("not valid")
	}
	number(t, "capacity", site.Capacity(m, api.BySite, 1), 15)
	list(t, "machines", site.Machines(m, api.ByRack, 1), 1, 2)
	list(t, "route", site.Route(m, 2, 1), 2, 1)
}

// P14.1: the least and the greatest valid site parts, and parts that do not matter.
func TestValid(t *testing.T) {
	least := api.Model{Sites: make([]string, 1), Feeds: make([]string, 1), Racks: []api.Rack{{Site: 1, Feed: 1}}, Machines: []api.Machine{{Rack: 1}}}
	other := example()
	other.Sites[1], other.Feeds, other.Racks[0].Name = "", []string{"west", ""}, "\x00"
	other.Dark, other.Slots, other.Reserve, other.Failures = -1, 1<<40, -3, 99
	other.Items, other.Rules = make([]api.Item, 99), make([]api.Rule, 99)
	for i, m := range []api.Model{least, example(), largest(), other} {
		if !site.Valid(m) {
			t.Error("not valid", i)
		}
	}
	if site.Valid(api.Model{}) {
		t.Error("an empty model is valid")
	}
}

// P14.1: one thing that is wrong.
func TestNotValid(t *testing.T) {
	for name, change := range map[string]func(m *api.Model){
		"no sites":          func(m *api.Model) { m.Sites, m.Racks, m.Links = nil, nil, nil },
		"no machines":       func(m *api.Model) { m.Machines = nil },
		"sites":             func(m *api.Model) { m.Sites = append(m.Sites, "more") },
		"feeds":             func(m *api.Model) { m.Feeds = append(m.Feeds, "more") },
		"racks":             func(m *api.Model) { m.Racks = append(m.Racks, m.Racks[0]) },
		"machines":          func(m *api.Model) { m.Machines = append(m.Machines, m.Machines[0]) },
		"site of rack":      func(m *api.Model) { m.Racks[15].Site = 0 },
		"site of rack 5":    func(m *api.Model) { m.Racks[0].Site = 5 },
		"site of rack -1":   func(m *api.Model) { m.Racks[0].Site = -1 },
		"feed of rack":      func(m *api.Model) { m.Racks[15].Feed = 0 },
		"feed of rack 17":   func(m *api.Model) { m.Racks[0].Feed = 17 },
		"feed of rack min":  func(m *api.Model) { m.Racks[0].Feed = math.MinInt },
		"rack":              func(m *api.Model) { m.Machines[15].Rack = 0 },
		"rack 17":           func(m *api.Model) { m.Machines[0].Rack = 17 },
		"rack -1":           func(m *api.Model) { m.Machines[0].Rack = -1 },
		"feed of two sites": func(m *api.Model) { m.Racks[15].Feed = 1 },
		"capacity -1":       func(m *api.Model) { m.Machines[15].Capacity = -1 },
		"capacity":          func(m *api.Model) { m.Machines[15].Capacity = api.MaxNumber + 1 },
		"blocks -1":         func(m *api.Model) { m.Links[5].Capacity = -1 },
		"blocks":            func(m *api.Model) { m.Links[5].Capacity = math.MaxInt },
		"end 0":             func(m *api.Model) { m.Links[0].A = 0 },
		"end 5":             func(m *api.Model) { m.Links[5].B = 5 },
		"end -1":            func(m *api.Model) { m.Links[5].A = -1 },
		"one end":           func(m *api.Model) { m.Links[5].A = m.Links[5].B },
		"other way round":   func(m *api.Model) { m.Links[5].A, m.Links[5].B = m.Links[5].B, m.Links[5].A },
		"twice":             func(m *api.Model) { m.Links = append(m.Links, api.Link{A: 1, B: 2, Capacity: 7}) },
		"links":             func(m *api.Model) { m.Links = slices.Repeat(m.Links, 3)[:13] },
	} {
		m := largest()
		change(&m)
		if site.Valid(m) || validOf(m) {
			t.Error(name)
		}
	}
	m := largest()
	m.Racks[15] = api.Rack{Site: 1, Feed: 1}
	if !site.Valid(m) {
		t.Error("racks with the same feed in the same site are not valid")
	}
}

// P14.1: the definition on many models.
func TestValidDefinition(t *testing.T) {
	count := 0
	models(20000, func(m api.Model) {
		if site.Valid(m) != validOf(m) {
			t.Fatal(m)
		}
		if validOf(m) {
			count++
		}
	})
	if count < 1000 {
		t.Error("too few models are valid", count)
	}
}

// P14.2 and P14.3: numbers that do not exist, and machines, racks, feeds and sites that are not used.
func TestDomains(t *testing.T) {
	m := api.Model{
		Sites: make([]string, 3), Feeds: make([]string, 4),
		Racks:    []api.Rack{{Site: 2, Feed: 4}, {Site: 2, Feed: 1}, {Site: 4, Feed: 5}, {Site: 0, Feed: -1}, {Site: 1, Feed: 1}},
		Machines: []api.Machine{{Rack: 2, Capacity: 7}, {Rack: 1, Capacity: 5}, {Rack: 2, Capacity: -3}, {Rack: 0, Capacity: 1}, {Rack: 6, Capacity: 2}, {Rack: 3, Capacity: 11}, {Rack: 4, Capacity: 13}},
	}
	for by, want := range map[int][]int{api.ByMachine: {1, 2, 3, 4, 5, 6, 7}, api.ByRack: {2, 1, 2, 0, 0, 3, 4}, api.ByFeed: {1, 4, 1, 0, 0, 0, 0}, api.BySite: {2, 2, 2, 0, 0, 0, 0}, api.ByNothing: {0, 0, 0, 0, 0, 0, 0}, 5: {0, 0, 0, 0, 0, 0, 0}, -1: {0, 0, 0, 0, 0, 0, 0}} {
		for i, domain := range want {
			number(t, "domain", site.Domain(m, by, i+1), domain)
		}
		for _, machine := range []int{0, -1, 8, math.MinInt, math.MaxInt} {
			number(t, "domain of no machine", site.Domain(m, by, machine), 0)
		}
	}
	for by, want := range map[int]int{api.ByMachine: 7, api.ByRack: 5, api.ByFeed: 4, api.BySite: 3, api.ByNothing: 0, 5: 0, -1: 0, math.MaxInt: 0, math.MinInt: 0} {
		number(t, "domains", site.Domains(m, by), want)
	}
	list(t, "rack 2", site.Machines(m, api.ByRack, 2), 1, 3)
	number(t, "rack 2", site.Capacity(m, api.ByRack, 2), 4)
	list(t, "rack 5", site.Machines(m, api.ByRack, 5))
	list(t, "rack 6", site.Machines(m, api.ByRack, 6))
	list(t, "feed 1", site.Machines(m, api.ByFeed, 1), 1, 3)
	list(t, "feed 5", site.Machines(m, api.ByFeed, 5))
	list(t, "site 2", site.Machines(m, api.BySite, 2), 1, 2, 3)
	number(t, "site 2", site.Capacity(m, api.BySite, 2), 9)
	number(t, "site 4", site.Capacity(m, api.BySite, 4), 0)
	list(t, "machine 7", site.Machines(m, api.ByMachine, 7), 7)
	number(t, "machine 7", site.Capacity(m, api.ByMachine, 7), 13)
	for _, none := range []int{0, -1, math.MinInt, math.MaxInt} {
		for _, by := range []int{api.ByMachine, api.ByRack, api.ByFeed, api.BySite, 5, -1} {
			list(t, "no domain", site.Machines(m, by, none))
			number(t, "no domain", site.Capacity(m, by, none), 0)
		}
		list(t, "all", site.Machines(m, api.ByNothing, none), 1, 2, 3, 4, 5, 6, 7)
		number(t, "all", site.Capacity(m, api.ByNothing, none), 36)
	}
	list(t, "all", site.Machines(m, api.ByNothing, 2), 1, 2, 3, 4, 5, 6, 7)
	list(t, "no kind", site.Machines(m, 5, 1))
	list(t, "no machines", site.Machines(api.Model{}, api.ByNothing, 1))
	wide := api.Model{Machines: []api.Machine{{Capacity: math.MaxInt}, {Capacity: 2}}}
	number(t, "a sum modulo 2^64", site.Capacity(wide, api.ByNothing, 0), math.MinInt+1)
}

// P14.2 and P14.3: the definitions on many models, some of which are not valid.
func TestDomainDefinition(t *testing.T) {
	models(1500, func(m api.Model) {
		counts := map[int]int{api.ByMachine: len(m.Machines), api.ByRack: len(m.Racks), api.ByFeed: len(m.Feeds), api.BySite: len(m.Sites)}
		for _, by := range kinds {
			number(t, "domains", site.Domains(m, by), counts[by])
			for _, machine := range around(len(m.Machines)) {
				number(t, "domain", site.Domain(m, by, machine), domainOf(m, by, machine))
			}
			for _, domain := range around(7) {
				want, sum := []int{}, 0
				for i, machine := range m.Machines {
					if by == api.ByNothing || domain >= 1 && domainOf(m, by, i+1) == domain {
						want, sum = append(want, i+1), sum+machine.Capacity
					}
				}
				list(t, "machines", site.Machines(m, by, domain), want...)
				number(t, "capacity", site.Capacity(m, by, domain), sum)
			}
		}
		if t.Failed() {
			t.Fatal(m)
		}
	})
}

// P14.6: every machine has one domain of each kind, and is in it with those that share a smaller one.
func TestParts(t *testing.T) {
	count := 0
	models(8000, func(m api.Model) {
		if !site.Valid(m) {
			return
		}
		count++
		for _, by := range kinds[1:5] {
			sum, seen := 0, make([]int, len(m.Machines)+1)
			for domain := range site.Domains(m, by) {
				sum += site.Capacity(m, by, domain+1)
				for _, machine := range site.Machines(m, by, domain+1) {
					seen[machine]++
				}
			}
			number(t, "capacities", sum, site.Capacity(m, api.ByNothing, 0))
			for _, machine := range site.Machines(m, api.ByNothing, 0) {
				number(t, "domains of a machine", seen[machine], 1)
			}
		}
		for a := range m.Machines {
			for b := range m.Machines {
				same := func(by int) bool { return site.Domain(m, by, a+1) == site.Domain(m, by, b+1) }
				if same(api.ByRack) && !same(api.ByFeed) || same(api.ByFeed) && !same(api.BySite) {
					t.Error("domains", a+1, b+1)
				}
			}
		}
		if t.Failed() {
			t.Fatal(m)
		}
	})
	if count < 300 {
		t.Error("too few models are valid", count)
	}
}
