package hitting_test

import (
	"math"
	"math/rand"
	"slices"
	"testing"

	"exodus/hitting"
)

// P13.1: sets that hit, and sets that do not.
func TestHits(t *testing.T) {
	for _, c := range []struct {
		set  []int
		sets [][]int
		want bool
	}{
		{nil, nil, true},
		{[]int{1}, nil, true},
		{[]int{1}, [][]int{}, true},
		{nil, [][]int{{}}, false},
		{[]int{1}, [][]int{nil}, false},
		{[]int{1}, [][]int{{1}, {}}, false},
		{nil, [][]int{{1}}, false},
		{[]int{1}, [][]int{{1}}, true},
		{[]int{1}, [][]int{{-1}}, false},
		{[]int{0}, [][]int{{0, 0}}, true},
		{[]int{1, 2}, [][]int{{1, 2}, {2, 3}, {1, 3}}, true},
		{[]int{2, 1}, [][]int{{2, 1}, {3, 2}, {3, 1}}, true},
		{[]int{3}, [][]int{{1, 2}, {2, 3}, {1, 3}}, false},
		{[]int{2}, [][]int{{1, 2}, {2, 3}, {1, 3}}, false},
		{[]int{5, 5, -7, 5}, [][]int{{-7}, {5, 5}, {1, 5}, {-7}}, true},
		{[]int{5, 5}, [][]int{{-7}, {5, 5}}, false},
		{[]int{math.MinInt, math.MaxInt}, [][]int{{math.MaxInt}, {math.MinInt, 4}}, true},
		{[]int{math.MinInt}, [][]int{{math.MaxInt}}, false},
	} {
		if hitting.Hits(c.set, c.sets) != c.want {
			t.Error(c)
		}
	}
}

// P13.1: least sets, among them those of the chapter's examples.
func TestLeast(t *testing.T) {
	for _, c := range []struct {
		sets [][]int
		want []int
	}{
		{nil, nil},
		{[][]int{}, nil},
		{[][]int{{4}}, []int{4}},
		{[][]int{{4, 3}}, []int{3}},
		{[][]int{{0, -3, 7}}, []int{-3}},
		{[][]int{{5, 5, 5}}, []int{5}},
		{[][]int{{1, 2}, {2, 3}, {1, 3}}, []int{1, 2}},
		{[][]int{{3}, {1, 2}}, []int{1, 3}},
		{[][]int{{2, 3}, {3, 2}, {2, 2, 3}}, []int{2}},
		{[][]int{{1, 9}, {2, 9}}, []int{9}},
		{[][]int{{1, 9}, {2, 9}, {1, 2}}, []int{1, 2}},
		{[][]int{{1, 8}, {1, 9}, {2, 8}, {2, 9}}, []int{1, 2}},
		{[][]int{{8, 1}, {9, 2}, {8, 9}}, []int{1, 9}},
		{[][]int{{1, 2, 3}, {4, 5, 6}, {1, 4}, {2, 5}, {3, 6}}, []int{1, 2, 6}},
		{[][]int{{4}, {1, 4}, {2, 4, 4}, {4, 1}}, []int{4}},
		{[][]int{{math.MaxInt, math.MinInt}, {math.MaxInt}}, []int{math.MaxInt}},
		{[][]int{{math.MaxInt, math.MinInt}, {0, math.MinInt}}, []int{math.MinInt}},
		{[][]int{{3}, {1}, {2}, {3}}, []int{1, 2, 3}},
	} {
		if set, ok := hitting.Least(c.sets); !ok || !slices.Equal(set, c.want) {
			t.Error(c, set, ok)
		}
	}
	for _, sets := range [][][]int{{nil}, {{}}, {{1}, {}}, {{}, {1, 2}}, {{1, 2}, {}, {}, {3}}} {
		if set, ok := hitting.Least(sets); ok || len(set) > 0 {
			t.Error(sets, set, ok)
		}
	}
}

// P13.1: both functions on many sets, by the definitions.
func TestDefinitions(t *testing.T) {
	families(6000, func(r *rand.Rand, sets [][]int) {
		want, found := leastOf(sets)
		if set, ok := hitting.Least(sets); ok != found || !slices.Equal(set, want) {
			t.Fatal(sets, set, ok, want)
		}
		set := []int{}
		for range r.Intn(6) {
			set = append(set, []int{math.MinInt, -40, -1, 0, 1, 2, 30, math.MaxInt, 6}[r.Intn(9)])
		}
		if hitting.Hits(set, sets) != hits(set, sets) || found && !hitting.Hits(want, sets) {
			t.Fatal(sets, set, want)
		}
	})
}

// pairs returns the sets of two numbers of each cycle with so many numbers, of so many cycles.
func pairs(cycles, length int) [][]int {
	sets := [][]int{}
	for c := range cycles {
		for i := range length {
			sets = append(sets, []int{c*length + i, c*length + (i+1)%length})
		}
	}
	return sets
}

// P1 and P13.1: many numbers, of which a search that tries all sets would not find the least ones.
func TestMany(t *testing.T) {
	all, want := [][]int{}, []int{}
	for i := range 60 {
		for k := range i {
			all = append(all, []int{i, k})
		}
		if i < 59 {
			want = append(want, i)
		}
	}
	wide, last := [][]int{}, []int{}
	for i := range 50 {
		set := []int{1000000}
		for k := range 40 {
			set = append(set, i*40+k)
		}
		wide, last = append(wide, set), append(last, i)
	}
	triangles := []int{}
	for c := range 200 {
		triangles = append(triangles, 3*c, 3*c+1)
	}
	pentagons := []int{}
	for c := range 12 {
		pentagons = append(pentagons, 5*c, 5*c+1, 5*c+3)
	}
	ring := []int{}
	for i := range 30 {
		ring = append(ring, 2*i)
	}
	for name, c := range map[string]struct {
		sets [][]int
		want []int
	}{
		"all pairs": {all, want}, "a number of all sets": {wide, []int{1000000}}, "sets that share one": {append(wide, last), []int{0, 1000000}},
		"triangles": {pairs(200, 3), triangles}, "pentagons": {pairs(12, 5), pentagons}, "a ring": {pairs(1, 60), ring}, "repeated": {slices.Repeat(all, 9), want},
	} {
		set, ok := hitting.Least(c.sets)
		if !ok || !slices.Equal(set, c.want) {
			t.Error(name, set, ok)
		}
	}
}

// P1 and P13.1: random sets of three of as many numbers as there are groups. No number of a least set can go, and a further set needs one more number at most.
func TestTriples(t *testing.T) {
	r := rand.New(rand.NewSource(4))
	for count := 10; count <= 80; count += 10 {
		sets := [][]int{}
		for range count {
			sets = append(sets, r.Perm(60)[:3])
		}
		set, ok := hitting.Least(sets)
		if !ok || !hits(set, sets) || !slices.IsSorted(set) {
			t.Fatal(set, ok)
		}
		for i := range set {
			if hits(slices.Delete(slices.Clone(set), i, i+1), sets) {
				t.Fatal("a number too many", set)
			}
		}
		more, _ := hitting.Least(append(sets, r.Perm(60)[:3]))
		if len(more) < len(set) || len(more) > len(set)+1 {
			t.Fatal("a further set", set, more)
		}
	}
}
