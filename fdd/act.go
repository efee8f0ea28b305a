package fdd

import (
	"cmp"
	"slices"

	"pointsman/api"
)

func comparePairs(a, b api.Pair) int {
	return cmp.Or(cmp.Compare(a.F, b.F), cmp.Compare(a.N, b.N))
}

func compareActs(a, b api.Act) int {
	return slices.CompareFunc(a, b, comparePairs)
}

// ordered puts the acts of l in order, each once; the memory of l goes into the answer.
func ordered(l []api.Act) []api.Act {
	slices.SortFunc(l, compareActs)
	return slices.CompactFunc(l, func(a, b api.Act) bool { return slices.Equal(a, b) })
}

// without answers the acts of l where that pair is so anyway, so that to put it does nothing.
func without(l []api.Act, pair api.Pair) []api.Act {
	var left []api.Act
	for _, a := range l {
		left = append(left, slices.DeleteFunc(slices.Clone(a), func(c api.Pair) bool { return c == pair }))
	}
	return ordered(left)
}

// following answers the act that does what a does, and then what b does.
func following(a, b api.Act) api.Act {
	both := slices.Clone(b)
	for _, c := range a {
		if _, later := put(b, c.F); !later {
			both = append(both, c)
		}
	}
	slices.SortFunc(both, comparePairs)
	return both
}

// put tells what a puts a field to be, and whether it does.
func put(a api.Act, f int) (uint16, bool) {
	for _, c := range a {
		if c.F == f {
			return c.N, true
		}
	}
	return 0, false
}

func cloned(l []api.Act) []api.Act {
	own := slices.Clone(l)
	for i, a := range own {
		own[i] = slices.Clone(a)
	}
	return own
}
