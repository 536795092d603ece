package site

import "exodus/api"

// kind is a kind of domains: how many there are, and which number an existing machine has, be there such a domain or not.
type kind struct {
	count int
	of    func(machine int) int
}

// kinds returns the kinds of domains of a model.
func kinds(m api.Model) map[int]kind {
	rack := func(machine int) api.Rack {
		number := m.Machines[machine-1].Rack
		if !exists(number, len(m.Racks)) {
			return api.Rack{}
		}
		return m.Racks[number-1]
	}
	return map[int]kind{
		api.ByMachine: {len(m.Machines), func(machine int) int { return machine }},
		api.ByRack:    {len(m.Racks), func(machine int) int { return m.Machines[machine-1].Rack }},
		api.ByFeed:    {len(m.Feeds), func(machine int) int { return rack(machine).Feed }},
		api.BySite:    {len(m.Sites), func(machine int) int { return rack(machine).Site }},
	}
}

// Domain returns the domain of a machine.
func Domain(m api.Model, by, machine int) int {
	k, known := kinds(m)[by]
	if !known || !exists(machine, len(m.Machines)) || !exists(k.of(machine), k.count) {
		return 0
	}
	return k.of(machine)
}

// Domains returns the number of domains of a kind.
func Domains(m api.Model, by int) int {
	return kinds(m)[by].count
}

// Machines returns the machines of a domain.
func Machines(m api.Model, by, number int) []int {
	list := []int{}
	k, known := kinds(m)[by]
	has := func(machine int) bool { return known && exists(number, k.count) && k.of(machine) == number }
	for i := range len(m.Machines) {
		if by == api.ByNothing || has(i+1) {
			list = append(list, i+1)
		}
	}
	return list
}

// Capacity returns the capacity of all machines of a domain.
func Capacity(m api.Model, by, number int) int {
	sum := 0
	for _, machine := range Machines(m, by, number) {
		sum += m.Machines[machine-1].Capacity
	}
	return sum
}
