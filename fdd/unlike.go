package fdd

import (
	"slices"

	"pointsman/api"
)

// parting answers a packet of which x and y, which are unlike, don't make the same. It asks field by field for a number where what is left of them is unlike again; and where they tell, unlike acts make unlike packets, for no act puts what is so anyway.
func (m *maker) parting(x, y int) api.Packet {
	var q api.Packet
	for f := range q {
		q[f] = m.unsaid(f)
		restX, restY := m.rest(x, f), m.rest(y, f)
		if restX != restY {
			x, y = restX, restY
			continue
		}
		pair := m.partingPair(x, y)
		q[f] = pair.N
		x, y = m.given(x, pair), m.given(y, pair)
	}
	return q
}

// rest answers x as it is where each answer of a field is no.
func (m *maker) rest(x, f int) int {
	a, ok := m.asked(x)
	for ok && a.pair.F == f {
		x = a.no
		a, ok = m.asked(x)
	}
	return x
}

// partingPair answers where x and y, which are unlike, but have the same rest, part: the first that only one of them asks, which changes something there as it is asked; or that both do, and go on unlike.
func (m *maker) partingPair(x, y int) api.Pair {
	for {
		a, okA := m.asked(x)
		b, okB := m.asked(y)
		if !okA || !okB || a.pair != b.pair || a.yes != b.yes {
			return m.first(x, m.first(y, api.Pair{F: api.Fields}))
		}
		x, y = a.no, b.no
	}
}

// unsaid answers the least number that is asked or put nowhere of this field; there is one, since policies haven't nodes enough to say all.
func (m *maker) unsaid(f int) uint16 {
	var said []uint16
	for x := range m.nodes {
		for _, c := range m.pairs(x) {
			if c.F == f {
				said = append(said, c.N)
			}
		}
	}
	slices.Sort(said)
	least := uint16(0)
	for _, n := range slices.Compact(said) {
		if n != least {
			break
		}
		least++
	}
	return least
}

// pairs answers all that is asked or put at x.
func (m *maker) pairs(x int) []api.Pair {
	if a, ok := m.asked(x); ok {
		return []api.Pair{a.pair}
	}
	var l []api.Pair
	for _, act := range m.told(x) {
		l = append(l, act...)
	}
	return l
}
