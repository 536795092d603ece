package site_test

import (
	"reflect"
	"slices"
	"testing"

	"exodus/api"
	"exodus/site"
)

// The last sentence of the guarantees: arguments stay as they are, and results are new memory.
func TestMemory(t *testing.T) {
	models(300, func(m api.Model) {
		before := m
		before.Sites, before.Feeds, before.Racks = slices.Clone(m.Sites), slices.Clone(m.Feeds), slices.Clone(m.Racks)
		before.Machines, before.Links = slices.Clone(m.Machines), slices.Clone(m.Links)
		for number := range 8 {
			for _, by := range kinds {
				site.Valid(m)
				site.Capacity(m, by, number)
				for _, call := range []func() []int{
					func() []int { return site.Machines(m, by, number) },
					func() []int { return site.Near(m, number) },
					func() []int { return site.Route(m, number, 1) },
				} {
					first, second := call(), call()
					kept := slices.Clone(second)
					for i := range first {
						first[i] = -7
					}
					if !slices.Equal(second, kept) || !slices.Equal(call(), kept) {
						t.Fatal("results have changed", m)
					}
				}
			}
		}
		if !reflect.DeepEqual(m, before) {
			t.Fatal("arguments have changed", m, before)
		}
	})
}
