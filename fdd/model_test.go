package fdd_test

import (
	"fmt"
	"math/rand"
	"slices"
	"strings"
	"testing"

	"pointsman/api"
	"pointsman/fdd"
	"pointsman/packet"
	"pointsman/policy"
	"pointsman/syntax"
)

// world: of some policies, the numbers that they say of each field, rising, and one that they don't. What they make of a packet hangs on these alone.
type world struct {
	said  [api.Fields][]uint16
	fresh [api.Fields]uint16
}

func worldOf(l ...api.Pol) world {
	var w world
	for _, p := range l {
		w.hear(p)
	}
	for f := range w.said {
		slices.Sort(w.said[f])
		w.said[f] = slices.Compact(w.said[f])
		w.fresh[f] = 60000
		for slices.Contains(w.said[f], w.fresh[f]) {
			w.fresh[f]--
		}
	}
	return w
}

func (w *world) hear(p api.Pol) {
	if p.Op == api.Test || p.Op == api.Put {
		w.said[p.F] = append(w.said[p.F], p.N)
	}
	for _, kid := range p.Kids {
		w.hear(kid)
	}
}

// from answers all packets of the world that have the fields ahead of f from q.
func (w *world) from(f int, q api.Packet) []api.Packet {
	if f == api.Fields {
		return []api.Packet{q}
	}
	var l []api.Packet
	for _, n := range append(slices.Clone(w.said[f]), w.fresh[f]) {
		q[f] = n
		l = append(l, w.from(f+1, q)...)
	}
	return l
}

// reps answers packets that stand for all, as far as these policies can tell them from one another.
func reps(l ...api.Pol) []api.Packet {
	w := worldOf(l...)
	return w.from(0, api.Packet{})
}

// drawing is a model of a diagram: not made of the policy's nodes, but of what it makes of each packet.
type drawing struct {
	pair    api.Pair
	yes, no *drawing // nil, where nothing is asked
	acts    []api.Act
}

type artist struct {
	w    world
	made map[api.Packet][]api.Packet
}

func draw(t *testing.T, p api.Pol, parts []uint16) *drawing {
	t.Helper()
	a := artist{worldOf(p), map[api.Packet][]api.Packet{}}
	for _, q := range reps(p) {
		l, e := policy.Make(p, parts, q)
		if e != api.OK {
			t.Fatal(brief(p), q, e)
		}
		a.made[q] = l
	}
	return a.draw(0, api.Packet{})
}

// draw draws what is made of all packets that have the fields ahead of f from q.
func (a *artist) draw(f int, q api.Packet) *drawing {
	if f == api.Fields {
		return a.leaf(q)
	}
	q[f] = a.w.fresh[f]
	rest := a.draw(f+1, q)
	d := rest
	for _, n := range slices.Backward(a.w.said[f]) {
		q[f] = n
		// Whether the answer changes anything is asked of each packet, not of the drawing.
		if changes := func(r api.Packet) bool { return !slices.Equal(doAll(rest.at(r), r), a.made[r]) }; slices.ContainsFunc(a.w.from(f+1, q), changes) {
			d = &drawing{pair: api.Pair{F: f, N: n}, yes: a.draw(f+1, q), no: d}
		}
	}
	return d
}

func (a *artist) leaf(q api.Packet) *drawing {
	d := &drawing{}
	for _, r := range a.made[q] {
		var act api.Act
		for f := range r {
			if r[f] != q[f] {
				act = append(act, api.Pair{F: f, N: r[f]})
			}
		}
		d.acts = append(d.acts, act)
	}
	slices.SortFunc(d.acts, compareActs)
	return d
}

func (d *drawing) at(q api.Packet) []api.Act {
	for d.yes != nil {
		if q[d.pair.F] == d.pair.N {
			d = d.yes
		} else {
			d = d.no
		}
	}
	return d.acts
}

// text tells all of d, and puts it and all below it into a set.
func (d *drawing) text(set map[string]int) string {
	s := actsText(d.acts)
	if d.yes != nil {
		s = fmt.Sprintf("(%v ? %s : %s)", d.pair, d.yes.text(set), d.no.text(set))
	}
	set[s] = 1
	return s
}

func (d *drawing) rows(match []api.Pair) []api.Row {
	if d.yes == nil {
		return []api.Row{{Match: match, Acts: d.acts}}
	}
	return append(d.yes.rows(append(slices.Clone(match), d.pair)), d.no.rows(match)...)
}

// wantDrawing holds the diagram of p against the drawing.
func wantDrawing(t *testing.T, p api.Pol, parts []uint16) {
	t.Helper()
	d, want := built(t, p, parts...), draw(t, p, parts)
	set := map[string]int{}
	want.text(set)
	if d.Len() != len(set) {
		t.Errorf("%s: %d nodes, want %d", brief(p), d.Len(), len(set))
	}
	rows := d.Rows()
	if got, want := rowsText(rows), rowsText(want.rows(nil)); got != want {
		t.Errorf("%s: %s, want %s", brief(p), got, want)
	}
	wantRows(t, brief(p), rows)
	for _, q := range reps(p) {
		made, _ := policy.Make(p, parts, q)
		wantAt(t, brief(p), d, rows, q, made)
		if got, want := actsText(d.Acts(q)), actsText(want.at(q)); got != want {
			t.Errorf("%s: acts of %v: %s, want %s", brief(p), q, got, want)
		}
	}
}

func leaves() []api.Pol {
	return []api.Pol{dropAll(), identity(), test(1, 1), test(1, 2), test(3, 1), put(1, 1), put(1, 2), put(3, 1), state(0, 1)}
}

// small answers all policies of leaves, nots, and sums and sequences of two kids, with at most this many nodes.
func small(nodes int) []api.Pol {
	by := [][]api.Pol{nil, leaves()}
	for n := 2; n <= nodes; n++ {
		var l []api.Pol
		for _, p := range by[n-1] {
			if syntax.Predicate(p) {
				l = append(l, not(p))
			}
		}
		for i := 1; i < n-1; i++ {
			for _, a := range by[i] {
				for _, b := range by[n-1-i] {
					l = append(l, seq(a, b), sum(a, b))
				}
			}
		}
		by = append(by, l)
	}
	return slices.Concat(by...)
}

// P8.1: all policies of up to 5 nodes have the diagrams that are drawn of what they make.
func TestAgainstDrawings(t *testing.T) {
	for _, p := range small(5) {
		wantDrawing(t, p, []uint16{1})
	}
}

// anyPol answers a policy of about this size, at random: a predicate, if it is for a Not.
func anyPol(r *rand.Rand, size int, numbers int, predicate bool) api.Pol {
	if size <= 1 {
		n := uint16(r.Intn(numbers))
		switch k := r.Intn(12); {
		case k == 0:
			return dropAll()
		case k == 1:
			return identity()
		case k == 2:
			return state(r.Intn(4), n%2)
		case k < 7 || predicate:
			return test([]int{0, 1, 3, 4}[r.Intn(4)], n)
		default:
			return put([]int{1, 3, 4}[r.Intn(3)], n)
		}
	}
	if predicate && r.Intn(3) == 0 || r.Intn(12) == 0 {
		return not(anyPol(r, size-1, numbers, true))
	}
	var kids []api.Pol
	for left := size - 1; left > 0 || len(kids) < 2; {
		n := 1 + r.Intn(max(left, 1))
		kids = append(kids, anyPol(r, n, numbers, predicate))
		left -= n
	}
	return api.Pol{Op: []int{api.Seq, api.Sum}[r.Intn(2)], Kids: kids}
}

func isFormed(p api.Pol) bool {
	return syntax.Check(api.Program{Init: make([]uint16, 4), Pol: p}) == api.OK
}

// formed answers such a policy that is well formed.
func formed(r *rand.Rand, size int, numbers int, predicate bool) api.Pol {
	for {
		if p := anyPol(r, size, numbers, predicate); isFormed(p) {
			return p
		}
	}
}

// P8.1: so have policies of every kind and size.
func TestAgainstDrawingsAtRandom(t *testing.T) {
	r := rand.New(rand.NewSource(1))
	for range 3000 {
		wantDrawing(t, formed(r, 1+r.Intn(30), 2, false), []uint16{0, 1, 1, 0}[:r.Intn(5)])
	}
	for range 300 {
		wantDrawing(t, formed(r, 20+r.Intn(150), 2, false), []uint16{0, 1})
	}
}

// mean tells what p makes of each of these packets.
func mean(t *testing.T, p api.Pol, parts []uint16, l []api.Packet) string {
	t.Helper()
	var b strings.Builder
	for _, q := range l {
		made, e := policy.Make(p, parts, q)
		if e != api.OK {
			t.Fatal(brief(p), q, e)
		}
		fmt.Fprintln(&b, made)
	}
	return b.String()
}

// wantUnlike holds Same and Unlike of two policies' diagrams, both ways round: unlike, just if these packets show it, and by a packet that does.
func wantUnlike(t *testing.T, a, b api.Pol, parts []uint16, unlike bool) {
	t.Helper()
	x, y := built(t, a, parts...), built(t, b, parts...)
	for range 2 {
		q, apart := fdd.Unlike(x, y)
		if apart != unlike || fdd.Same(x, y) == unlike {
			t.Fatalf("%s, %s: unlike %v, same %v", brief(a), brief(b), apart, fdd.Same(x, y))
		}
		made, _ := policy.Make(a, parts, q)
		other, _ := policy.Make(b, parts, q)
		if apart && slices.Equal(made, other) || !apart && q != (api.Packet{}) {
			t.Fatalf("%s, %s: %s doesn't show it", brief(a), brief(b), packet.Text(q))
		}
		x, y = y, x
	}
}

// P8.2: of all policies of up to 5 nodes those that make the same have one diagram, and no others have that one.
func TestOneDiagram(t *testing.T) {
	all := small(5)
	l := reps(leaves()...)
	diagrams, meanings := map[string]*fdd.FDD{}, map[string]string{}
	for _, p := range all {
		d, m := built(t, p, 1), mean(t, p, []uint16{1}, l)
		if diagrams[m] == nil {
			diagrams[m] = d
		}
		wantOne(t, brief(p), diagrams[m], d)
		rows := rowsText(d.Rows())
		if other, ok := meanings[rows]; ok && other != m {
			t.Errorf("%s has another one's rows: %s", brief(p), rows)
		}
		meanings[rows] = m
	}
	if len(diagrams) < 100 || len(diagrams) != len(meanings) {
		t.Error(len(diagrams), len(meanings))
	}
}

// wantOne holds that two diagrams are the same in all that they answer.
func wantOne(t *testing.T, name string, a, b *fdd.FDD) {
	t.Helper()
	q, apart := fdd.Unlike(a, b)
	if !fdd.Same(a, b) || !fdd.Same(b, a) || apart || q != (api.Packet{}) {
		t.Errorf("%s: unlike by %v", name, q)
	}
	if a.Len() != b.Len() || rowsText(a.Rows()) != rowsText(b.Rows()) {
		t.Errorf("%s: %d nodes, %s; and %d nodes, %s", name, a.Len(), rowsText(a.Rows()), b.Len(), rowsText(b.Rows()))
	}
}

// P8.2: of each two small policies a packet is told that shows them unlike, or none, if there is none.
func TestUnlikeOfSmall(t *testing.T) {
	all := small(3)
	l := reps(leaves()...)
	var means []string
	for _, p := range all {
		means = append(means, mean(t, p, []uint16{1}, l))
	}
	for i, a := range all {
		for j := range i + 1 {
			wantUnlike(t, a, all[j], []uint16{1}, means[i] != means[j])
		}
	}
}

// P8.2: so of each two greater ones, which are often unlike at some packets alone.
func TestUnlikeAtRandom(t *testing.T) {
	r := rand.New(rand.NewSource(2))
	unlike := 0
	for range 4000 {
		a := formed(r, 1+r.Intn(25), 2, false)
		b := changed(r, a)
		l := reps(a, b)
		parts := []uint16{0, 1, 1, 0}[:r.Intn(5)]
		apart := mean(t, a, parts, l) != mean(t, b, parts, l)
		wantUnlike(t, a, b, parts, apart)
		if apart {
			unlike++
		}
	}
	if unlike < 1000 || unlike > 3000 {
		t.Error(unlike)
	}
}

// changed answers p with one leaf another one.
func changed(r *rand.Rand, p api.Pol) api.Pol {
	p = copied(p)
	at := &p
	for len(at.Kids) > 0 {
		at = &at.Kids[r.Intn(len(at.Kids))]
	}
	if at.Op == api.Put {
		*at = put([]int{1, 3, 4}[r.Intn(3)], uint16(r.Intn(3)))
	} else {
		*at = anyPol(r, 1, 2, true)
	}
	return p
}

func wantLaw(t *testing.T, law string, parts []uint16, l ...api.Pol) {
	t.Helper()
	first := built(t, l[0], parts...)
	for _, p := range l[1:] {
		wantOne(t, law+": "+brief(l[0]), first, built(t, p, parts...))
	}
}

// P8.2: policies that make the same by the laws (P7.2) have one diagram.
func TestLaws(t *testing.T) {
	r := rand.New(rand.NewSource(3))
	drop, id := dropAll(), identity()
	for range 400 {
		s := []uint16{0, 1, 1, 0}[:r.Intn(5)]
		a, b, c := formed(r, 1+r.Intn(12), 3, false), formed(r, 1+r.Intn(12), 3, false), formed(r, 1+r.Intn(12), 3, false)
		p, q := formed(r, 1+r.Intn(12), 3, true), formed(r, 1+r.Intn(12), 3, true)
		wantLaw(t, "one", s, a, sum(a, a), sum(drop, a), sum(a, drop), seq(id, a), seq(a, id), sum(seq(p, a), seq(not(p), a)))
		wantLaw(t, "drop", s, drop, seq(drop, a), seq(a, drop), seq(p, not(p)), not(sum(p, not(p))))
		wantLaw(t, "id", s, id, sum(p, not(p)), sum(not(p), p), not(seq(not(p), p)))
		wantLaw(t, "a sum", s, sum(a, b, c), sum(a, sum(b, c)), sum(sum(c, b), a), sum(c, a, b, a))
		wantLaw(t, "a sequence", s, seq(a, b, c), seq(a, seq(b, c)), seq(seq(a, b), c))
		wantLaw(t, "from the left", s, seq(a, sum(b, c)), sum(seq(a, b), seq(a, c)))
		wantLaw(t, "from the right", s, seq(sum(a, b), c), sum(seq(a, c), seq(b, c)))
		wantLaw(t, "predicates", s, seq(p, q), seq(q, p), not(sum(not(p), not(q))), seq(p, q, p))
	}
}

// P8.2: puts and tests of one field.
func TestLawsOfFields(t *testing.T) {
	for f := 1; f < api.Fields; f++ {
		g := 1 + f%7
		for _, n := range []uint16{0, 1, 65535} {
			m := n + 1
			wantLaw(t, "what is so is put", nil, test(f, n), seq(test(f, n), put(f, n)), seq(test(f, n), test(f, n)))
			wantLaw(t, "what is put is so", nil, put(f, n), seq(put(f, n), test(f, n)), seq(put(f, m), put(f, n)), sum(test(f, n), seq(not(test(f, n)), put(f, n))))
			wantLaw(t, "not both", nil, dropAll(), seq(test(f, n), test(f, m)), seq(put(f, n), test(f, m)), seq(put(f, n), not(test(f, n))))
			wantLaw(t, "other fields", nil, seq(put(f, n), put(g, m)), seq(put(g, m), put(f, n)), sum(seq(test(g, m), put(f, n)), seq(not(test(g, m)), put(g, m), put(f, n))))
			wantLaw(t, "other tests", nil, seq(put(f, n), test(g, m)), seq(test(g, m), put(f, n)))
			wantLaw(t, "put or not", nil, sum(identity(), put(f, n)), sum(test(f, n), seq(not(test(f, n)), sum(put(f, n), identity()))))
		}
	}
}

func FuzzBuild(f *testing.F) {
	f.Add("dst=1 ; dst:=1", "dst=1", uint16(1), uint16(2))
	f.Add("!(@0=4 ; dst=5) ; (pt:=1 + dst:=2 ; (src:=1 + id))", "(dst:=1 + id) ; (dst=1 ; src:=2)", uint16(4), uint16(5))
	f.Fuzz(func(t *testing.T, s, u string, a, b uint16) {
		p, e := syntax.Parse("init 0 0 . policy " + s + " .")
		r, e2 := syntax.Parse("init 0 0 . policy " + u + " .")
		if e != api.OK || e2 != api.OK {
			return
		}
		parts := []uint16{a, b}
		d, e := fdd.Build(p.Pol, parts)
		if e == api.OK {
			wantMakes(t, p.Pol, parts, []api.Packet{{}, {1, a, 0, b}, {a, 1, b, 2, 3, 4, 5, 6}})
		}
		d2, e2 := fdd.Build(r.Pol, parts)
		if q, apart := fdd.Unlike(d, d2); apart && e == api.OK && e2 == api.OK {
			x, _ := policy.Make(p.Pol, parts, q)
			y, _ := policy.Make(r.Pol, parts, q)
			if slices.Equal(x, y) {
				t.Error(s, u, q)
			}
		}
	})
}
