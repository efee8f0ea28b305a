package fdd

import (
	"slices"
	"strconv"

	"pointsman/api"
)

// node is one that asks or one that tells. Nodes name one another by their places in a list.
type node interface {
	// key answers a text that no unlike node of the list has.
	key() string
}

// asks is a node that asks whether a packet has this pair.
type asks struct {
	pair    api.Pair
	yes, no int
}

// tells is a node that tells what is made: acts in order, each once.
type tells struct {
	acts []api.Act
}

func (a asks) key() string {
	b := []byte{'?'}
	for _, n := range []int{a.pair.F, int(a.pair.N), a.yes, a.no} {
		b = appendNumber(b, n)
	}
	return string(b)
}

func (t tells) key() string {
	var b []byte
	for _, act := range t.acts {
		b = append(b, '+')
		for _, c := range act {
			b = appendNumber(b, c.F)
			b = appendNumber(b, int(c.N))
		}
	}
	return string(b)
}

func appendNumber(b []byte, n int) []byte {
	return append(strconv.AppendInt(b, int64(n), 10), ' ')
}

func isLike(a, b node) bool {
	return a.key() == b.key()
}

// acts answers what q comes to in a list whose last node is the first question.
func acts(l []node, q api.Packet) []api.Act {
	at := len(l) - 1
	for {
		a, ok := l[at].(asks)
		if !ok {
			return l[at].(tells).acts
		}
		at = a.no
		if q[a.pair.F] == a.pair.N {
			at = a.yes
		}
	}
}

// rows answers the rows of all ways on from a node, to which the yes of all of match led; the last one keeps match.
func rows(l []node, at int, match []api.Pair) []api.Row {
	a, ok := l[at].(asks)
	if !ok {
		return []api.Row{{Match: match, Acts: cloned(l[at].(tells).acts)}}
	}
	yes := rows(l, a.yes, append(slices.Clone(match), a.pair))
	return append(yes, rows(l, a.no, match)...)
}

// under answers what top leads to, and top behind it: in one order, whatever else the list holds, so that like diagrams have like lists.
func under(l []node, top int) []node {
	m := mover{from: l, places: make(map[int]int)}
	m.move(top)
	return m.to
}

type mover struct {
	from, to []node
	places   map[int]int
}

// move answers the place that the node at x has, or gets.
func (m *mover) move(x int) int {
	if at, ok := m.places[x]; ok {
		return at
	}
	n := m.from[x]
	if a, ok := n.(asks); ok {
		n = asks{a.pair, m.move(a.yes), m.move(a.no)}
	}
	at := len(m.to)
	m.to = append(m.to, n)
	m.places[x] = at
	return at
}
