package fdd

import (
	"slices"

	"pointsman/api"
)

const (
	maxMade = 64 // packets of any set on the way
	full    = 0  // the place that stands for too great a work
)

// A maker's tasks whose answers it keeps.
const (
	taskGiven = iota
	taskAsk
	taskBoth
	taskNot
	taskBehind
	taskAfter
)

// task is a call of the maker: its kind, and what it was called with.
type task struct {
	kind int
	x, y int
	pair api.Pair
}

// maker makes diagrams, and puts their nodes in one list, in which like ones have one place: so two diagrams in order make the same of all packets just if they are at the same place. All that its methods take and answer is in order, where they don't say otherwise: of an act, too, nothing is left that the answers on the way there make needless.
type maker struct {
	nodes  []node
	says   []int          // bits of the fields that are asked or put from each place on
	places map[string]int // by the keys
	done   map[task]int
	left   int // steps that it may still take
	drop   int // the place of what tells nothing
}

func newMaker(steps int) *maker {
	m := &maker{places: make(map[string]int), done: make(map[task]int), left: steps}
	// A node without a key, so that none is found there, stands at the place that is full.
	m.nodes = []node{tells{}}
	m.says = []int{0}
	m.drop = m.tell(nil)
	return m
}

// known answers what a task came to, if it was done. Without steps left nothing counts any more: any answer does then, if it comes at once.
func (m *maker) known(t task) (int, bool) {
	if m.left <= 0 {
		return full, true
	}
	x, ok := m.done[t]
	if !ok {
		m.left--
	}
	return x, ok
}

func (m *maker) keep(n node) int {
	k := n.key()
	x, ok := m.places[k]
	if !ok {
		x = len(m.nodes)
		m.nodes = append(m.nodes, n)
		m.says = append(m.says, m.fields(n))
		m.places[k] = x
	}
	return x
}

func (m *maker) fields(n node) int {
	if a, ok := n.(asks); ok {
		return 1<<a.pair.F | m.says[a.yes] | m.says[a.no]
	}
	bits := 0
	for _, act := range n.(tells).acts {
		for _, c := range act {
			bits |= 1 << c.F
		}
	}
	return bits
}

// take keeps all nodes of a diagram, and answers the place of its first question.
func (m *maker) take(l []node) int {
	var places []int
	for _, n := range l {
		if a, ok := n.(asks); ok {
			n = asks{a.pair, places[a.yes], places[a.no]}
		}
		places = append(places, m.keep(n))
	}
	return places[len(places)-1]
}

// tell answers the node of these acts, which are in order.
func (m *maker) tell(l []api.Act) int {
	m.left -= len(l)
	if len(l) > maxMade {
		return full
	}
	return m.keep(tells{l})
}

func (m *maker) tellIf(so bool) int {
	if so {
		return m.tell([]api.Act{{}})
	}
	return m.drop
}

// asked answers what is asked at x; false, if nothing is.
func (m *maker) asked(x int) (asks, bool) {
	a, ok := m.nodes[x].(asks)
	return a, ok
}

// told answers what is told at x, which is known to ask nothing.
func (m *maker) told(x int) []api.Act {
	return m.nodes[x].(tells).acts
}

// first answers what x asks first, if that is ahead of pair; else pair.
func (m *maker) first(x int, pair api.Pair) api.Pair {
	if a, ok := m.asked(x); ok && comparePairs(a.pair, pair) < 0 {
		return a.pair
	}
	return pair
}

// given answers x as it is where pair is so.
func (m *maker) given(x int, pair api.Pair) int {
	a, ok := m.asked(x)
	switch {
	case m.says[x]&(1<<pair.F) == 0:
		return x
	case !ok:
		return m.tell(without(m.told(x), pair))
	case a.pair == pair:
		return a.yes
	case a.pair.F == pair.F:
		return m.given(a.no, pair)
	}
	t := task{kind: taskGiven, x: x, pair: pair}
	y, ok := m.known(t)
	if !ok {
		y = m.join(a.pair, m.given(a.yes, pair), m.given(a.no, pair))
		m.done[t] = y
	}
	return y
}

// otherwise answers x, which asks nothing ahead of pair, as it is where pair isn't so.
func (m *maker) otherwise(x int, pair api.Pair) int {
	if a, ok := m.asked(x); ok && a.pair == pair {
		return a.no
	}
	return x
}

// join answers what goes by yes, where pair is so, and else by no. All that they ask is behind pair, and yes, as it is where pair is so, neither asks nor puts it.
func (m *maker) join(pair api.Pair, yes, no int) int {
	if m.given(no, pair) == yes {
		return no
	}
	return m.keep(asks{pair, yes, no})
}

// ask is join of a yes and a no that ask and put whatever they do.
func (m *maker) ask(pair api.Pair, yes, no int) int {
	first := m.first(yes, m.first(no, pair))
	if first == pair {
		return m.join(pair, m.given(yes, pair), m.otherwise(no, pair))
	}
	t := task{kind: taskAsk, x: yes, y: no, pair: pair}
	z, ok := m.known(t)
	if !ok {
		// Where first is so, pair can't be, if both ask of one field.
		so := m.given(no, first)
		if first.F != pair.F {
			so = m.ask(pair, m.given(yes, first), so)
		}
		z = m.join(first, so, m.ask(pair, m.otherwise(yes, first), m.otherwise(no, first)))
		m.done[t] = z
	}
	return z
}

// both answers what x makes together with what y makes.
func (m *maker) both(x, y int) int {
	switch {
	case x == full || y == full:
		return full
	case x == y || y == m.drop:
		return x
	case x == m.drop:
		return y
	}
	t := task{kind: taskBoth, x: min(x, y), y: max(x, y)}
	z, ok := m.known(t)
	if ok {
		return z
	}
	none := api.Pair{F: api.Fields}
	first := m.first(x, m.first(y, none))
	if first == none {
		z = m.tell(ordered(slices.Concat(m.told(x), m.told(y))))
	} else {
		yes := m.both(m.given(x, first), m.given(y, first))
		z = m.join(first, yes, m.both(m.otherwise(x, first), m.otherwise(y, first)))
	}
	m.done[t] = z
	return z
}

// not answers what lets through what x, a predicate's, doesn't.
func (m *maker) not(x int) int {
	a, ok := m.asked(x)
	if !ok {
		return m.tellIf(x == m.drop)
	}
	t := task{kind: taskNot, x: x}
	y, ok := m.known(t)
	if !ok {
		y = m.join(a.pair, m.not(a.yes), m.not(a.no))
		m.done[t] = y
	}
	return y
}

// behind answers what y makes of what x makes.
func (m *maker) behind(x, y int) int {
	if x == full {
		return full
	}
	t := task{kind: taskBehind, x: x, y: y}
	z, ok := m.known(t)
	if ok {
		return z
	}
	if a, ok := m.asked(x); ok {
		z = m.ask(a.pair, m.behind(a.yes, y), m.behind(a.no, y))
	} else {
		z = m.drop
		for _, act := range m.told(x) {
			z = m.both(z, m.after(m.tell([]api.Act{act}), y))
		}
	}
	m.done[t] = z
	return z
}

// after answers what y makes of what the one act at x makes.
func (m *maker) after(x, y int) int {
	if y == full {
		return full
	}
	t := task{kind: taskAfter, x: x, y: y}
	z, ok := m.known(t)
	if ok {
		return z
	}
	act := m.told(x)[0]
	a, ok := m.asked(y)
	n, isPut := put(act, a.pair.F)
	switch {
	case !ok:
		z = m.tellAfter(act, m.told(y))
	case !isPut:
		z = m.join(a.pair, m.after(x, a.yes), m.after(x, a.no))
	case n == a.pair.N:
		z = m.after(x, a.yes)
	default:
		z = m.after(x, a.no)
	}
	m.done[t] = z
	return z
}

func (m *maker) tellAfter(act api.Act, l []api.Act) int {
	var all []api.Act
	for _, b := range l {
		all = append(all, following(act, b))
	}
	return m.tell(ordered(all))
}
