package hitting

import (
	"math/rand"
	"slices"
	"testing"
)

// P13.1: the iterator goes through all sets that hit, in the order of the chapter, and stops when it is told to.
func TestOrdered(t *testing.T) {
	r, count := rand.New(rand.NewSource(3)), 6
	for range 400 {
		sets := [][]int{}
		for range r.Intn(6) {
			set := r.Perm(count)[:1+r.Intn(4)]
			slices.Sort(set)
			sets = append(sets, set)
		}
		want := [][]int{}
		for mask := range 1 << count {
			set := []int{}
			for number := range count {
				if mask>>number&1 == 1 {
					set = append(set, number)
				}
			}
			if Hits(set, sets) {
				want = append(want, set)
			}
		}
		slices.SortFunc(want, func(a, b []int) int {
			if len(a) != len(b) {
				return len(a) - len(b)
			}
			return slices.Compare(a, b)
		})
		if got := slices.Collect(ordered(sets, count)); !slices.EqualFunc(got, want, slices.Equal) {
			t.Fatal(sets, got, want)
		}
		seen := 0
		for range ordered(sets, count) {
			seen++
			if seen == 3 || seen == len(want) {
				break
			}
		}
	}
}
