package fdd

import (
	"pointsman/api"
)

// grow answers the diagram of p, which is well formed, in this state.
func (m *maker) grow(p api.Pol, state []uint16) int {
	pair := api.Pair{F: p.F, N: p.N}
	switch p.Op {
	case api.Id:
		return m.tellIf(true)
	case api.Test:
		return m.join(pair, m.tellIf(true), m.tellIf(false))
	case api.State:
		return m.tellIf(p.F < len(state) && state[p.F] == p.N)
	case api.Not:
		return m.not(m.grow(p.Kids[0], state))
	case api.Put:
		return m.tell([]api.Act{{pair}})
	case api.Seq:
		return m.fold(m.behind, p.Kids, state)
	case api.Sum:
		return m.fold(m.both, p.Kids, state)
	}
	return m.drop
}

func (m *maker) fold(join func(x, y int) int, kids []api.Pol, state []uint16) int {
	x := m.grow(kids[0], state)
	for _, kid := range kids[1:] {
		x = join(x, m.grow(kid, state))
	}
	return x
}

// room tells how many of so many rows x leaves; a number below 0, if they don't do, or the work is too great for some packet.
func (m *maker) room(x, rows int) int {
	if x == full {
		return -1
	}
	a, ok := m.asked(x)
	if !ok {
		return rows - 1
	}
	rows = m.room(a.yes, rows)
	if rows < 0 {
		return rows
	}
	return m.room(a.no, rows)
}
