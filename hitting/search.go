package hitting

import (
	"cmp"
	"iter"
	"slices"
)

// unit is what the sets of one number may weigh in a bound.
const unit = 1 << 20

// connected divides sets that are not empty into parts that share no number, so that the least sets that hit the parts make up the least one that hits all.
func connected(sets [][]int) [][][]int {
	next := map[int]int{}
	leader := func(number int) int {
		for {
			further, ok := next[number]
			if !ok {
				return number
			}
			if last, ok := next[further]; ok {
				next[number] = last
			}
			number = further
		}
	}
	for _, set := range sets {
		for _, number := range set {
			if a, b := leader(number), leader(set[0]); a != b {
				next[a] = b
			}
		}
	}
	parts, places := [][][]int{}, map[int]int{}
	for _, set := range sets {
		place, ok := places[leader(set[0])]
		if !ok {
			place = len(parts)
			places[leader(set[0])] = place
			parts = append(parts, nil)
		}
		parts[place] = append(parts[place], set)
	}
	return parts
}

// first returns the least set that hits some sets, none of which is empty.
func first(sets [][]int) []int {
	numbers := slices.Compact(slices.Sorted(slices.Values(slices.Concat(sets...))))
	places := map[int]int{}
	for place, number := range numbers {
		places[number] = place
	}
	list := [][]int{}
	for _, set := range sets {
		placed := []int{}
		for _, number := range set {
			placed = append(placed, places[number])
		}
		slices.Sort(placed)
		list = append(list, slices.Compact(placed))
	}
	slices.SortFunc(list, slices.Compare)
	list = slices.CompactFunc(list, slices.Equal)
	for set := range ordered(list, len(numbers)) {
		for i, place := range set {
			set[i] = numbers[place]
		}
		return set
	}
	return nil
}

// ordered returns the sets of numbers below a count that hit some sets: those of fewer numbers before those of more, and those of as many in lexicographic order.
func ordered(sets [][]int, count int) iter.Seq[[]int] {
	return func(yield func(set []int) bool) {
		// The sets that are left lack the numbers that were passed over.
		var extend func(set []int, left [][]int, from, more int) bool
		extend = func(set []int, left [][]int, from, more int) bool {
			if more == 0 {
				return yield(slices.Clone(set))
			}
			for number := from; number < count; number++ {
				rest := lacking(left, number)
				if fits(rest, count, more-1) && !extend(append(set, number), rest, number+1, more-1) {
					return false
				}
				left = barring(left, number)
			}
			return true
		}
		for size := range count + 1 {
			if fits(sets, count, size) && !extend(nil, sets, 0, size) {
				return
			}
		}
	}
}

// fits reports whether some set of numbers below a count, with at most size elements, hits all sets.
func fits(sets [][]int, count, size int) bool {
	if len(sets) == 0 {
		return true
	}
	if bound(sets, count) > size {
		return false
	}
	narrow := slices.MinFunc(sets, func(a, b []int) int { return cmp.Compare(len(a), len(b)) })
	for _, number := range narrow {
		if fits(lacking(sets, number), count, size-1) {
			return true
		}
		sets = barring(sets, number)
	}
	return false
}

// lacking returns the sets that do not have a number.
func lacking(sets [][]int, number int) [][]int {
	list := make([][]int, 0, len(sets))
	for _, set := range sets {
		if !slices.Contains(set, number) {
			list = append(list, set)
		}
	}
	return list
}

// barring returns the sets, all of them without a number.
func barring(sets [][]int, number int) [][]int {
	list := slices.Clone(sets)
	for i, set := range sets {
		if at := slices.Index(set, number); at >= 0 {
			list[i] = slices.Concat(set[:at], set[at+1:])
		}
	}
	return list
}

// bound returns a number such that no set with fewer elements hits all sets: if the sets with the same number weigh at most a unit together, then all sets weigh at most a unit for each element of a set that hits them.
func bound(sets [][]int, count int) int {
	degrees, room, total := make([]int, count), make([]int, count), 0
	for _, set := range sets {
		for _, number := range set {
			degrees[number]++
			room[number] = unit
		}
	}
	weigh := func(set []int, weight int) {
		total += weight
		for _, number := range set {
			room[number] -= weight
		}
	}
	for _, set := range sets {
		most := 0
		for _, number := range set {
			most = max(most, degrees[number])
		}
		if most == 0 {
			return count + 1
		}
		weigh(set, unit/most)
	}
	for _, set := range sets {
		least := unit
		for _, number := range set {
			least = min(least, room[number])
		}
		weigh(set, least)
	}
	return (total + unit - 1) / unit
}
