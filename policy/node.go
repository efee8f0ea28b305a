package policy

import (
	"slices"

	"pointsman/api"
	"pointsman/packet"
)

const (
	maxMade = 64      // packets of any set on the way
	maxKept = 1 << 14 // answers in a book
)

// node is a node of a well-formed policy that asks nothing of the state.
type node struct {
	op   int
	f    int
	n    uint16
	kids []*node
	book *book
}

func grow(p api.Pol) *node {
	n := &node{op: p.Op, f: p.F, n: p.N}
	for _, kid := range p.Kids {
		n.kids = append(n.kids, grow(kid))
	}
	return n
}

// makes answers what n makes of q; false, if the work is too great.
func (n *node) makes(q api.Packet) ([]api.Packet, bool) {
	lets := false
	switch n.op {
	case api.Id:
		lets = true
	case api.Test:
		lets = q[n.f] == n.n
	case api.Not:
		// The work of a predicate, which makes one packet at most, is never too great.
		l, _ := n.kids[0].makes(q)
		lets = len(l) == 0
	case api.Put:
		return []api.Packet{packet.With(q, n.f, n.n)}, true
	case api.Seq:
		return n.inTurn(q)
	case api.Sum:
		return n.together(q)
	}
	if !lets {
		return nil, true
	}
	return []api.Packet{q}, true
}

func (n *node) together(q api.Packet) ([]api.Packet, bool) {
	var all []api.Packet
	for _, kid := range n.kids {
		l, ok := kid.makes(q)
		all = packet.Sort(append(all, l...))
		if !ok || len(all) > maxMade {
			return nil, false
		}
	}
	return all, true
}

func (n *node) inTurn(q api.Packet) ([]api.Packet, bool) {
	all, ok := []api.Packet{q}, true
	for _, kid := range n.kids {
		all, ok = kid.ofEach(all)
		if !ok {
			return nil, false
		}
	}
	return all, true
}

// ofEach answers what n makes of all packets of l; false, if the work is too great, or these are too many.
func (n *node) ofEach(l []api.Packet) ([]api.Packet, bool) {
	var all []api.Packet
	for _, q := range l {
		made, ok := n.again(q, len(l))
		all = packet.Sort(append(all, made...))
		if !ok || len(all) > maxMade {
			return nil, false
		}
	}
	return all, true
}

// again is makes by the book, where n has kids and there are several packets: sequences in sequences ask the same so often that there would be no waiting for all of it.
func (n *node) again(q api.Packet, several int) ([]api.Packet, bool) {
	if several < 2 || len(n.kids) == 0 {
		return n.makes(q)
	}
	if n.book == nil {
		n.book = newBook(n)
	}
	like := n.book.like(q)
	l, known := n.book.made[like]
	if !known {
		made, ok := n.makes(like)
		if !ok {
			return nil, false
		}
		n.book.keep(like, made)
		l = made
	}
	return n.book.back(l, q), true
}

// book holds what a node made. Packets that the node can't tell from one another are one there: a number of a field that none of its tests and puts says is as good as any other such number.
type book struct {
	said  [api.Fields][]uint16 // rising
	other [api.Fields]uint16   // a number that isn't said
	made  map[api.Packet][]api.Packet
}

func newBook(n *node) *book {
	b := &book{made: make(map[api.Packet][]api.Packet)}
	b.hear(n)
	for f, l := range b.said {
		slices.Sort(l)
		b.said[f] = slices.Compact(l)
		b.other[f] = unsaid(b.said[f])
	}
	return b
}

func (b *book) hear(n *node) {
	if n.op == api.Test || n.op == api.Put {
		b.said[n.f] = append(b.said[n.f], n.n)
	}
	for _, kid := range n.kids {
		b.hear(kid)
	}
}

// unsaid answers the least number that isn't in a rising list; there is one, since a policy hasn't nodes enough to say all.
func unsaid(l []uint16) uint16 {
	least := uint16(0)
	for _, n := range l {
		if n != least {
			break
		}
		least++
	}
	return least
}

// like answers the packet that stands for q in the book.
func (b *book) like(q api.Packet) api.Packet {
	for f, n := range q {
		if _, said := slices.BinarySearch(b.said[f], n); !said {
			q[f] = b.other[f]
		}
	}
	return q
}

// back answers the packets of l, which were made of q's likeness, as they are made of q: what is unsaid there no put has made, so it is q's own.
func (b *book) back(l []api.Packet, q api.Packet) []api.Packet {
	own := slices.Clone(l)
	for i := range own {
		for f, n := range own[i] {
			if n == b.other[f] {
				own[i][f] = q[f]
			}
		}
	}
	return own
}

// keep keeps an answer; a book that is full begins anew, so that no policy makes it outgrow the memory.
func (b *book) keep(like api.Packet, l []api.Packet) {
	if len(b.made) >= maxKept {
		clear(b.made)
	}
	b.made[like] = l
}
