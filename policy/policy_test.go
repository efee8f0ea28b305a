package policy_test

import (
	"fmt"
	"math"
	"math/rand"
	"reflect"
	"slices"
	"strings"
	"testing"

	"pointsman/api"
	"pointsman/packet"
	"pointsman/policy"
	"pointsman/show"
	"pointsman/syntax"
)

func test(f int, n uint16) api.Pol  { return api.Pol{Op: api.Test, F: f, N: n} }
func put(f int, n uint16) api.Pol   { return api.Pol{Op: api.Put, F: f, N: n} }
func state(f int, n uint16) api.Pol { return api.Pol{Op: api.State, F: f, N: n} }
func not(p api.Pol) api.Pol         { return api.Pol{Op: api.Not, Kids: []api.Pol{p}} }
func seq(l ...api.Pol) api.Pol      { return api.Pol{Op: api.Seq, Kids: l} }
func sum(l ...api.Pol) api.Pol      { return api.Pol{Op: api.Sum, Kids: l} }
func identity() api.Pol             { return api.Pol{Op: api.Id} }
func dropAll() api.Pol              { return api.Pol{Op: api.Drop} }
func ids(n int) []api.Pol           { return slices.Repeat([]api.Pol{identity()}, n) }

// puts: a field becomes each of the numbers 1 to n.
func puts(f, n int) api.Pol {
	var l []api.Pol
	for i := range n {
		l = append(l, put(f, uint16(i+1)))
	}
	return sum(l...)
}

// deep: a policy of this depth, which lets all through if that is odd, and nothing if it is even.
func deep(depth int) api.Pol {
	p := identity()
	for range depth - 1 {
		p = not(p)
	}
	return p
}

func parsed(t testing.TB, s string) api.Pol {
	t.Helper()
	p, e := syntax.Parse("init 0 0 0 0 . policy " + s + " .")
	if e != api.OK {
		t.Fatal(s, e)
	}
	return p.Pol
}

// copied answers p in new memory.
func copied(p api.Pol) api.Pol {
	p.Kids = slices.Clone(p.Kids)
	for i := range p.Kids {
		p.Kids[i] = copied(p.Kids[i])
	}
	return p
}

// brief tells a policy by its text, or, if it has none, by its nodes; the beginning, if that is long.
func brief(p api.Pol) string {
	s := show.Pol(p)
	if s == "" {
		s = fmt.Sprintf("%+v", p)
	}
	return s[:min(len(s), 400)]
}

func texts(l []api.Packet) string {
	var out []string
	for _, q := range l {
		out = append(out, packet.Text(q))
	}
	return strings.Join(out, ", ")
}

// wantMake holds what Make answers, that Lets says the same, that At ahead of Make changes nothing, and that all that was handed in is left as it was.
func wantMake(t *testing.T, p api.Pol, parts []uint16, q api.Packet, want []api.Packet, wantErr api.Errno) {
	t.Helper()
	wasPol, wasParts := copied(p), slices.Clone(parts)
	got, e := policy.Make(p, parts, q)
	if e != wantErr || !slices.Equal(got, want) {
		t.Errorf("Make(%s, %v, %v) = %v %v, want %v %v", brief(p), parts, q, got, e, want, wantErr)
	}
	if lets := policy.Lets(p, parts, q); lets != (len(want) > 0) {
		t.Errorf("Lets(%s, %v, %v) = %v", brief(p), parts, q, lets)
	}
	if wantErr != api.ErrForm {
		at := policy.At(p, parts)
		got, e = policy.Make(at, nil, q)
		if e != wantErr || !slices.Equal(got, want) {
			t.Errorf("Make(At(%s, %v), %v) = %v %v, want %v %v", brief(p), parts, q, got, e, want, wantErr)
		}
	}
	if !reflect.DeepEqual(p, wasPol) || !slices.Equal(parts, wasParts) {
		t.Errorf("changed: %s, %v", brief(wasPol), wasParts)
	}
}

// P7.1: what each kind of node makes, alone and within others.
func TestMakeByHand(t *testing.T) {
	for _, c := range []struct{ s, want string }{
		{"id", "sw=1 pt=2 dst=5"},
		{"drop", ""},
		{"sw=1", "sw=1 pt=2 dst=5"},
		{"sw=2", ""},
		{"dst=5", "sw=1 pt=2 dst=5"},
		{"dst=0", ""},
		{"src=0", "sw=1 pt=2 dst=5"},
		{"pt:=2", "sw=1 pt=2 dst=5"},
		{"pt:=0", "sw=1 pt=0 dst=5"},
		{"src:=65535", "sw=1 pt=2 src=65535 dst=5"},
		{"@0=4", "sw=1 pt=2 dst=5"},
		{"@0=5", ""},
		{"@1=0", "sw=1 pt=2 dst=5"},
		{"@2=0", ""},
		{"@3=0", ""},
		{"!id", ""},
		{"!drop", "sw=1 pt=2 dst=5"},
		{"!dst=5", ""},
		{"!dst=6", "sw=1 pt=2 dst=5"},
		{"!@0=4", ""},
		{"!@0=3", "sw=1 pt=2 dst=5"},
		{"!@2=0", "sw=1 pt=2 dst=5"},
		{"!!dst=5", "sw=1 pt=2 dst=5"},
		{"!!!dst=5", ""},
		{"!(dst=5 ; pt=2)", ""},
		{"!(dst=5 ; pt=3)", "sw=1 pt=2 dst=5"},
		{"!(dst=6 + pt=2)", ""},
		{"!(dst=6 + pt=3)", "sw=1 pt=2 dst=5"},
		{"id + id", "sw=1 pt=2 dst=5"},
		{"drop + drop", ""},
		{"drop + dst=5", "sw=1 pt=2 dst=5"},
		{"pt:=9 + pt:=3 + id", "sw=1 pt=2 dst=5, sw=1 pt=3 dst=5, sw=1 pt=9 dst=5"},
		{"pt:=9 + pt:=9", "sw=1 pt=9 dst=5"},
		{"src:=1 + pt:=9 + pt:=1", "sw=1 pt=1 dst=5, sw=1 pt=2 src=1 dst=5, sw=1 pt=9 dst=5"},
		{"opt:=1 + opt:=256 + opt:=0", "sw=1 pt=2 dst=5, sw=1 pt=2 dst=5 opt=1, sw=1 pt=2 dst=5 opt=256"},
		{"id ; id", "sw=1 pt=2 dst=5"},
		{"id ; drop", ""},
		{"drop ; id", ""},
		{"dst=5 ; pt=2", "sw=1 pt=2 dst=5"},
		{"dst=5 ; pt=3", ""},
		{"pt=2 ; pt:=3 ; pt=2", ""},
		{"pt=2 ; pt:=3 ; pt=3", "sw=1 pt=3 dst=5"},
		{"pt:=3 ; pt:=4", "sw=1 pt=4 dst=5"},
		{"dst:=0 ; src:=5", "sw=1 pt=2 src=5"},
		{"(pt:=1 + pt:=2) ; pt=1", "sw=1 pt=1 dst=5"},
		{"(pt:=1 + pt:=2) ; pt:=3", "sw=1 pt=3 dst=5"},
		{"(pt:=1 + pt:=2) ; (dst:=1 + pt=2)", "sw=1 pt=1 dst=1, sw=1 pt=2 dst=1, sw=1 pt=2 dst=5"},
		{"(pt:=1 + pt:=2) ; !pt=1", "sw=1 pt=2 dst=5"},
		{"(pt:=4 + pt:=3) ; (dst:=2 + dst:=1)", "sw=1 pt=3 dst=1, sw=1 pt=3 dst=2, sw=1 pt=4 dst=1, sw=1 pt=4 dst=2"},
		{"(pt:=1 + pt:=2) ; (pt=1 ; pt:=2 + pt=2 ; pt:=1)", "sw=1 pt=1 dst=5, sw=1 pt=2 dst=5"},
		{"pt:=1 + dst:=1 ; pt:=3", "sw=1 pt=1 dst=5, sw=1 pt=3 dst=1"},
		{"@0=4 ; pt:=1 + @1=4 ; pt:=2", "sw=1 pt=1 dst=5"},
		{"!(@0=4 ; dst=5) ; pt:=1", ""},
		{"!(@0=4 ; dst=6) ; pt:=1", "sw=1 pt=1 dst=5"},
	} {
		p := parsed(t, c.s)
		q := api.Packet{1, 2, 0, 5}
		l, e := policy.Make(p, []uint16{4, 0}, q)
		if got := texts(l); got != c.want || e != api.OK {
			t.Errorf("%s: %s %v, want %s", c.s, got, e, c.want)
		}
		wantMake(t, p, []uint16{4, 0}, q, l, api.OK)
	}
}

// P7.1, the chapter's example: of any packet it, at port 1.
func TestExample(t *testing.T) {
	p := parsed(t, "(pt:=1 + pt:=2) ; pt=1")
	r := rand.New(rand.NewSource(1))
	for range 200 {
		q := anyPacket(r, math.MaxUint16+1)
		wantMake(t, p, nil, q, []api.Packet{packet.With(q, api.Pt, 1)}, api.OK)
	}
}

func anyPacket(r *rand.Rand, below int) api.Packet {
	var q api.Packet
	for f := range q {
		q[f] = uint16(r.Intn(below))
	}
	return q
}

// P7.1: a test and a put of each field, at numbers that are so, and aren't by one bit.
func TestFields(t *testing.T) {
	for f := range api.Fields {
		for _, n := range []uint16{0, 1, 255, 256, 32768, 65535} {
			q := api.Packet{11, 12, 13, 14, 15, 16, 17, 18}
			with := q
			with[f] = n
			wantMake(t, test(f, n), nil, with, []api.Packet{with}, api.OK)
			wantMake(t, not(test(f, n)), nil, with, nil, api.OK)
			wantMake(t, test(f, n), nil, q, nil, api.OK)
			for bit := range 16 {
				off := with
				off[f] ^= 1 << bit
				wantMake(t, test(f, n), nil, off, nil, api.OK)
				wantMake(t, not(test(f, n)), nil, off, []api.Packet{off}, api.OK)
			}
			if f != api.Sw {
				wantMake(t, put(f, n), nil, q, []api.Packet{with}, api.OK)
				wantMake(t, put(f, n), nil, with, []api.Packet{with}, api.OK)
			}
		}
	}
}

// P7.1: what is asked of states with any number of parts: a part that there isn't is never so.
func TestStates(t *testing.T) {
	q := api.Packet{1, 2}
	all := []uint16{0, 7, 0, 65535, 0, 0}
	for parts := range len(all) + 1 {
		for part := range api.MaxParts {
			for _, n := range []uint16{0, 7, 65535} {
				var so, other []api.Packet
				if part < parts && all[part] == n {
					so = []api.Packet{q}
				} else {
					other = []api.Packet{q}
				}
				wantMake(t, state(part, n), all[:parts], q, so, api.OK)
				wantMake(t, not(state(part, n)), all[:parts], q, other, api.OK)
				wantMake(t, seq(identity(), state(part, n)), all[:parts], q, so, api.OK)
				wantMake(t, sum(dropAll(), state(part, n)), all[:parts], q, so, api.OK)
			}
		}
	}
	wantMake(t, state(0, 0), nil, q, nil, api.OK)
	wantMake(t, not(state(0, 0)), nil, q, []api.Packet{q}, api.OK)
}

// unformed: policies that aren't well formed, whatever the parts of the state.
func unformed() []api.Pol {
	id := identity()
	bad := []api.Pol{
		{Op: -1}, {Op: 8}, {Op: math.MinInt}, {Op: math.MaxInt}, {Op: 258},
		{Op: api.Drop, F: 1}, {Op: api.Drop, N: 1}, {Op: api.Drop, Kids: ids(1)},
		{Op: api.Id, F: 1}, {Op: api.Id, N: 1}, {Op: api.Id, Kids: ids(1)}, {Op: api.Id, F: -1},
		test(8, 0), test(-1, 0), test(math.MinInt, 0), test(math.MaxInt, 0), {Op: api.Test, Kids: ids(1)},
		put(0, 0), put(8, 0), put(-1, 0), put(math.MaxInt, 1), {Op: api.Put, F: 1, Kids: ids(1)},
		state(4, 0), state(-1, 0), state(math.MaxInt, 0), state(math.MinInt, 0), {Op: api.State, Kids: ids(1)},
		{Op: api.Not}, {Op: api.Not, Kids: ids(2)}, {Op: api.Not, F: 1, Kids: ids(1)}, {Op: api.Not, N: 1, Kids: ids(1)},
		not(put(1, 1)), not(not(put(1, 1))), not(seq(id, put(1, 1))), not(sum(put(1, 1), id)), not(seq(dropAll(), put(1, 1))),
		seq(), seq(id), {Op: api.Seq, F: 1, Kids: ids(2)}, {Op: api.Seq, N: 1, Kids: ids(2)},
		sum(), sum(id), {Op: api.Sum, F: 1, Kids: ids(2)}, {Op: api.Sum, N: 1, Kids: ids(2)},
		deep(21), deep(22), sum(ids(300)...), seq(ids(300)...), sum(seq(ids(149)...), seq(ids(150)...)),
	}
	for _, p := range slices.Clone(bad) {
		// Where no packet comes, and where the work is too great besides.
		bad = append(bad, not(p), seq(id, p), sum(p, id), seq(dropAll(), p), seq(p, dropAll()), sum(puts(1, 65), p), sum(p, puts(1, 65)))
	}
	return bad
}

// P7.1: ErrForm of policies that aren't well formed, also where no packet comes, ahead of ErrFull.
func TestUnformed(t *testing.T) {
	for _, p := range unformed() {
		for _, parts := range [][]uint16{nil, {0}, {0, 0, 0, 0}, {0, 0, 0, 0, 0, 0}} {
			wantMake(t, p, parts, api.Packet{}, nil, api.ErrForm)
			wantMake(t, p, parts, api.Packet{1, 2, 3, 4, 5, 6, 7, 8}, nil, api.ErrForm)
		}
	}
}

// P7.1: policies of the most nodes and levels are well formed.
func TestGreatest(t *testing.T) {
	q := api.Packet{1, 2}
	one := []api.Packet{q}
	wantMake(t, sum(ids(299)...), nil, q, one, api.OK)
	wantMake(t, seq(ids(299)...), nil, q, one, api.OK)
	wantMake(t, sum(seq(ids(149)...), seq(ids(148)...)), nil, q, one, api.OK)
	wantMake(t, deep(19), nil, q, one, api.OK)
	wantMake(t, deep(20), nil, q, nil, api.OK)
	wantMake(t, seq(deep(19), test(1, 2)), nil, q, one, api.OK)
	wantMake(t, seq(deep(20), test(1, 2)), nil, q, nil, api.ErrForm)
}

// P7.1: sets of 64 packets and of 65, of kids and of beginnings, whatever stands behind.
func TestWorkByHand(t *testing.T) {
	q := api.Packet{1, 0, 9}
	full := puts(2, 65)
	most := puts(2, 64)
	cube := seq(puts(3, 4), puts(4, 4), puts(5, 4))
	two := sum(put(6, 1), put(6, 2))
	for _, c := range []struct {
		name string
		p    api.Pol
		n    int // -1: too great
	}{
		{"a sum of 64", most, 64},
		{"a sum of 65", full, -1},
		{"a sum of 64, and the packet", sum(most, identity()), 64},
		{"the packet, and a sum of 63", sum(put(2, 99), puts(2, 63)), 64},
		{"another packet, and a sum of 64", sum(put(2, 99), most), -1},
		{"a sum of 64, and another packet", sum(most, put(2, 99)), -1},
		{"a sum of 64, twice", sum(most, most), 64},
		{"a sum of 64, and nothing", sum(most, dropAll()), 64},
		{"a sequence of 64", cube, 64},
		{"a sequence of 128", seq(cube, two), -1},
		{"a sequence of 128, in one", seq(puts(3, 4), puts(4, 4), puts(5, 4), two), -1},
		{"a sequence of 128 that comes to 64", seq(cube, two, test(6, 1)), -1},
		{"a sequence of 128 that comes to one", seq(cube, two, test(3, 1), test(4, 1), test(5, 1), test(6, 1)), -1},
		{"a sequence of 128 that comes to nothing", seq(cube, two, dropAll()), -1},
		{"a sequence of 65 ahead of nothing", seq(full, dropAll()), -1},
		{"a sequence of 65 ahead of one", seq(full, test(2, 1)), -1},
		{"a sequence of 65 ahead of a put", seq(full, put(2, 1)), -1},
		{"a sequence of 65 in a sum", sum(dropAll(), seq(full, dropAll())), -1},
		{"a sequence of 65 behind nothing", seq(dropAll(), full), 0},
		{"a sequence of 65 behind what isn't so", seq(test(1, 1), full), 0},
		{"a sequence of 65 behind what is so", seq(test(1, 0), full), -1},
		{"a sum of 65 that no packet comes to, in a sum", sum(identity(), seq(test(1, 1), full)), 1},
		{"64 as 32 times 2", seq(puts(3, 32), two), 64},
		{"66 as 33 times 2", seq(puts(3, 33), two), -1},
		{"65 as 13 times 5", seq(puts(3, 13), puts(4, 5)), -1},
		{"64 puts of 64 packets to the same field", seq(most, most), 64},
		{"64 puts to the same field, and one other", seq(most, sum(most, put(3, 1))), -1},
		{"64 packets, each its own or one of them", seq(most, sum(identity(), put(2, 1))), 64},
		{"64 packets, each its own or another one", seq(most, sum(identity(), put(2, 65))), -1},
		{"64 packets that become 1, and then 64", seq(most, put(2, 1), cube), 64},
		{"64 packets that become 2, and then 128", seq(most, sum(put(2, 1), put(2, 2)), cube), -1},
	} {
		l, e := policy.Make(c.p, nil, q)
		if c.n < 0 {
			wantMake(t, c.p, nil, q, nil, api.ErrFull)
			continue
		}
		if e != api.OK || len(l) != c.n {
			t.Errorf("%s: %d packets, error %d, want %d", c.name, len(l), e, c.n)
		}
		wantMake(t, c.p, nil, q, l, api.OK)
	}
}

// P7.1: a set is what is made of one packet: a sequence that is a kid makes a set of each packet that comes to it.
func TestWorkOfEachPacket(t *testing.T) {
	q := api.Packet{1, 0, 9}
	a, b, c := puts(3, 8), puts(4, 8), puts(5, 8)
	one := test(5, 1)
	in := seq(a, seq(b, seq(c, one)))
	l, e := policy.Make(in, nil, q)
	if e != api.OK || len(l) != 64 {
		t.Errorf("%d packets, error %d", len(l), e)
	}
	for i, r := range l {
		if want := (api.Packet{1, 0, 9, uint16(i/8 + 1), uint16(i%8 + 1), 1}); r != want {
			t.Errorf("packet %d: %v, want %v", i, r, want)
		}
	}
	wantMake(t, in, nil, q, l, api.OK)
	wantMake(t, seq(a, b, c, one), nil, q, nil, api.ErrFull)
	wantMake(t, seq(seq(seq(a, b), c), one), nil, q, nil, api.ErrFull)
	wantMake(t, seq(a, seq(b, c), one), nil, q, nil, api.ErrFull)
	wantMake(t, seq(a, seq(b, c, one)), nil, q, l, api.OK)
	wantMake(t, seq(a, sum(dropAll(), seq(b, c, one))), nil, q, l, api.OK)
	wantMake(t, seq(a, seq(b, puts(5, 9), one)), nil, q, nil, api.ErrFull)
	wantMake(t, seq(puts(3, 64), seq(puts(4, 64), seq(puts(5, 64), dropAll()))), nil, q, nil, api.OK)
	wantMake(t, seq(puts(3, 64), seq(puts(4, 64), seq(puts(5, 65), dropAll()))), nil, q, nil, api.ErrFull)
	// One of 64 packets alone is what the set is too great of.
	some := seq(test(3, 64), puts(4, 65), dropAll())
	wantMake(t, seq(puts(3, 63), some), nil, q, nil, api.OK)
	wantMake(t, seq(puts(3, 64), some), nil, q, nil, api.ErrFull)
}

// model is what a policy makes, packet by packet, in sets that are maps: steps counts what is left of patience.
type model struct {
	parts []uint16
	steps int
}

type packets = map[api.Packet]struct{}

func (m *model) makes(p api.Pol, q api.Packet) (packets, bool) {
	m.steps--
	if m.steps < 0 {
		return nil, false
	}
	out, ok := packets{}, true
	switch p.Op {
	case api.Id:
		out[q] = struct{}{}
	case api.Test:
		if q[p.F] == p.N {
			out[q] = struct{}{}
		}
	case api.State:
		if p.F < len(m.parts) && m.parts[p.F] == p.N {
			out[q] = struct{}{}
		}
	case api.Not:
		made, fine := m.makes(p.Kids[0], q)
		ok = fine
		if len(made) == 0 {
			out[q] = struct{}{}
		}
	case api.Put:
		q[p.F] = p.N
		out[q] = struct{}{}
	case api.Sum:
		for _, kid := range p.Kids {
			ok = ok && m.add(out, kid, q)
		}
	case api.Seq:
		out[q] = struct{}{}
		for _, kid := range p.Kids {
			next := packets{}
			for r := range out {
				ok = ok && m.add(next, kid, r)
			}
			out = next
			ok = ok && len(out) <= 64
		}
	}
	return out, ok && len(out) <= 64
}

func (m *model) add(to packets, kid api.Pol, q api.Packet) bool {
	made, ok := m.makes(kid, q)
	for r := range made {
		to[r] = struct{}{}
	}
	return ok
}

// wantModel holds Make against the model; false, if the model had no patience for it.
func wantModel(t *testing.T, p api.Pol, parts []uint16, q api.Packet) bool {
	t.Helper()
	m := model{parts: parts, steps: 100000}
	set, ok := m.makes(p, q)
	if m.steps < 0 {
		return false
	}
	if !ok {
		wantMake(t, p, parts, q, nil, api.ErrFull)
		return true
	}
	var l []api.Packet
	for r := range set {
		l = append(l, r)
	}
	slices.SortFunc(l, func(a, b api.Packet) int { return slices.Compare(a[:], b[:]) })
	wantMake(t, p, parts, q, l, api.OK)
	return true
}

// anyPol answers a policy of about this size, at random: a predicate, if it is for a Not.
func anyPol(r *rand.Rand, size int, numbers int, predicate bool) api.Pol {
	if size <= 1 {
		n := uint16(r.Intn(numbers))
		switch k := r.Intn(12); {
		case k == 0:
			return dropAll()
		case k == 1:
			return identity()
		case k == 2:
			return state(r.Intn(4), n%2)
		case k < 7 || predicate:
			return test([]int{0, 1, 3, 4}[r.Intn(4)], n)
		default:
			return put([]int{1, 3, 4}[r.Intn(3)], n)
		}
	}
	if predicate && r.Intn(3) == 0 || r.Intn(12) == 0 {
		return not(anyPol(r, size-1, numbers, true))
	}
	var kids []api.Pol
	for left := size - 1; left > 0 || len(kids) < 2; {
		n := 1 + r.Intn(max(left, 1))
		kids = append(kids, anyPol(r, n, numbers, predicate))
		left -= n
	}
	return api.Pol{Op: []int{api.Seq, api.Sum}[r.Intn(2)], Kids: kids}
}

func isFormed(p api.Pol) bool {
	return syntax.Check(api.Program{Init: make([]uint16, 4), Pol: p}) == api.OK
}

// P7.1: policies at random make what the model does.
func TestAgainstModel(t *testing.T) {
	r := rand.New(rand.NewSource(7))
	made := 0
	for range 20000 {
		p := anyPol(r, 1+r.Intn(60), 2+r.Intn(4), false)
		if !isFormed(p) {
			continue
		}
		parts := []uint16{0, 1, 0, 1, 1}[:r.Intn(6)]
		if wantModel(t, p, parts, anyPacket(r, 5)) {
			made++
		}
	}
	if made < 10000 {
		t.Errorf("only %d policies were held", made)
	}
}

// anyWork answers a sequence within sequences of sums of puts and tests, at random, so that sets are about as great as they may be.
func anyWork(r *rand.Rand, levels int) api.Pol {
	var kids []api.Pol
	for range 2 + r.Intn(2) {
		f, n := 1+r.Intn(4), 1+r.Intn(9)
		switch k := r.Intn(10); {
		case k < 3 && levels > 0:
			kids = append(kids, anyWork(r, levels-1))
		case k < 7:
			kids = append(kids, sum(append(puts(f, n).Kids, dropAll())...))
		case k == 7:
			kids = append(kids, sum(identity(), put(f, uint16(n))))
		case k == 8:
			kids = append(kids, not(test(f, uint16(n))))
		default:
			kids = append(kids, sum(test(f, 1), test(f, 2)))
		}
	}
	if r.Intn(4) == 0 {
		return sum(kids...)
	}
	return seq(kids...)
}

// P7.1: work that is about as great as it may be is too great where the model's is.
func TestWorkAgainstModel(t *testing.T) {
	r := rand.New(rand.NewSource(9))
	count := map[api.Errno]int{}
	for range 6000 {
		p := anyWork(r, 3)
		if isFormed(p) && wantModel(t, p, nil, anyPacket(r, 4)) {
			_, e := policy.Make(p, nil, api.Packet{})
			count[e]++
		}
	}
	if count[api.OK] < 1000 || count[api.ErrFull] < 1000 {
		t.Error(count)
	}
}

// leaves: of every kind, in a world of packets that are unlike in pt and dst alone, of the numbers 0 to 2.
func leaves() []api.Pol {
	return []api.Pol{dropAll(), identity(), test(1, 1), test(3, 2), put(1, 1), put(1, 2), put(3, 1), state(0, 1), state(2, 0)}
}

func world() []api.Packet {
	var l []api.Packet
	for pt := range uint16(3) {
		for dst := range uint16(3) {
			l = append(l, api.Packet{1, pt, 0, dst, 0, 0, 0, 5})
		}
	}
	return l
}

// small answers all policies of leaves, nots, and sums and sequences of two kids, with at most this many nodes.
func small(nodes int) []api.Pol {
	by := [][]api.Pol{nil, leaves()}
	for n := 2; n <= nodes; n++ {
		var l []api.Pol
		for _, p := range by[n-1] {
			if syntax.Predicate(p) {
				l = append(l, not(p))
			}
		}
		for i := 1; i < n-1; i++ {
			for _, a := range by[i] {
				for _, b := range by[n-1-i] {
					l = append(l, seq(a, b), sum(a, b))
				}
			}
		}
		by = append(by, l)
	}
	return slices.Concat(by...)
}

// relation: of the packets of the world, which make which, as bits of rows.
type relation [9]uint16

func relationOf(p api.Pol, parts []uint16) relation {
	var out relation
	switch p.Op {
	case api.Drop:
	case api.Seq:
		out = diagonal(func(int) bool { return true })
		for _, kid := range p.Kids {
			out = behind(out, relationOf(kid, parts))
		}
	case api.Sum:
		for _, kid := range p.Kids {
			for i, row := range relationOf(kid, parts) {
				out[i] |= row
			}
		}
	case api.Not:
		kid := relationOf(p.Kids[0], parts)
		out = diagonal(func(i int) bool { return kid[i] == 0 })
	case api.Put:
		for i, q := range world() {
			q[p.F] = p.N
			out[i] = 1 << slices.Index(world(), q)
		}
	default:
		out = diagonal(func(i int) bool {
			return p.Op == api.Id ||
				p.Op == api.Test && world()[i][p.F] == p.N ||
				p.Op == api.State && p.F < len(parts) && parts[p.F] == p.N
		})
	}
	return out
}

func diagonal(so func(int) bool) relation {
	var out relation
	for i := range out {
		if so(i) {
			out[i] = 1 << i
		}
	}
	return out
}

func behind(a, b relation) relation {
	var out relation
	for i, row := range a {
		for j := range b {
			if row>>j&1 == 1 {
				out[i] |= b[j]
			}
		}
	}
	return out
}

// made answers what Make makes of all packets of the world, as a relation.
func made(t *testing.T, p api.Pol, parts []uint16) relation {
	t.Helper()
	var out relation
	all := world()
	for i, q := range all {
		l, e := policy.Make(p, parts, q)
		if e != api.OK {
			t.Fatalf("%s of %v: error %d", brief(p), q, e)
		}
		last := -1
		for _, r := range l {
			j := slices.Index(all, r)
			if j <= last {
				t.Fatalf("%s of %v: %v, which isn't in order, or isn't of the world", brief(p), q, l)
			}
			last = j
			out[i] |= 1 << j
		}
	}
	return out
}

// P7.1: all policies of up to 5 nodes, in each state, make what relations make of them.
func TestAgainstRelations(t *testing.T) {
	for _, p := range small(5) {
		for _, parts := range [][]uint16{nil, {1}, {0, 0, 0}} {
			if got, want := made(t, p, parts), relationOf(p, parts); got != want {
				t.Errorf("%s in %v: %b, want %b", brief(p), parts, got, want)
			}
		}
	}
}

// wantSame holds that policies make the same of all packets of the world.
func wantSame(t *testing.T, law string, parts []uint16, l ...api.Pol) {
	t.Helper()
	want := made(t, l[0], parts)
	for _, p := range l[1:] {
		if made(t, p, parts) != want {
			t.Errorf("%s: in %v %s isn't %s", law, parts, brief(p), brief(l[0]))
		}
	}
}

func wantLawsOfOne(t *testing.T, parts []uint16, a api.Pol) {
	t.Helper()
	drop, id := dropAll(), identity()
	wantSame(t, "said twice", parts, a, sum(a, a), sum(a, a, a))
	wantSame(t, "drop is nothing to a sum", parts, a, sum(drop, a), sum(a, drop), sum(drop, a, drop))
	wantSame(t, "drop makes a sequence drop", parts, drop, seq(drop, a), seq(a, drop), seq(a, drop, a))
	wantSame(t, "id is nothing to a sequence", parts, a, seq(id, a), seq(a, id), seq(id, a, id))
	if syntax.Predicate(a) {
		wantSame(t, "a predicate and its not together", parts, id, sum(a, not(a)), sum(not(a), a))
		wantSame(t, "a predicate and its not in turn", parts, drop, seq(a, not(a)), seq(not(a), a))
		wantSame(t, "not of not", parts, a, not(not(a)))
	}
}

func wantLawsOfTwo(t *testing.T, parts []uint16, a, b api.Pol) {
	t.Helper()
	wantSame(t, "places in a sum", parts, sum(a, b), sum(b, a), sum(a, b, a), sum(b, a, b))
	if syntax.Predicate(a) && syntax.Predicate(b) {
		wantSame(t, "predicates' places in a sequence", parts, seq(a, b), seq(b, a))
		wantSame(t, "not of a sum", parts, not(sum(a, b)), seq(not(a), not(b)))
	}
}

func wantLawsOfThree(t *testing.T, parts []uint16, a, b, c api.Pol) {
	t.Helper()
	wantSame(t, "brackets in a sum", parts, sum(a, b, c), sum(a, sum(b, c)), sum(sum(a, b), c), sum(c, a, b), sum(c, sum(b, a)))
	wantSame(t, "brackets in a sequence", parts, seq(a, b, c), seq(a, seq(b, c)), seq(seq(a, b), c))
	wantSame(t, "a sequence goes into a sum from the left", parts, seq(a, sum(b, c)), sum(seq(a, b), seq(a, c)))
	wantSame(t, "a sequence goes into a sum from the right", parts, seq(sum(a, b), c), sum(seq(a, c), seq(b, c)))
}

// P7.2: the laws at all small policies.
func TestLawsOfSmallPolicies(t *testing.T) {
	states := [][]uint16{nil, {1, 0, 0}}
	for _, parts := range states {
		for _, a := range small(4) {
			wantLawsOfOne(t, parts, a)
		}
		two, three := small(2), leaves()
		for _, a := range two {
			for _, b := range two {
				wantLawsOfTwo(t, parts, a, b)
			}
		}
		for _, a := range three {
			for _, b := range three {
				for _, c := range three {
					wantLawsOfThree(t, parts, a, b, c)
				}
			}
		}
	}
}

// P7.2: the laws at greater policies of every kind.
func TestLawsAtRandom(t *testing.T) {
	r := rand.New(rand.NewSource(3))
	pick := func(predicate bool) api.Pol {
		for {
			if p := anyPol(r, 1+r.Intn(20), 3, predicate); syntax.Depth(p) < 17 && inWorld(p) {
				return p
			}
		}
	}
	for range 400 {
		parts := []uint16{0, 1, 1, 0}[:r.Intn(5)]
		a, b, c := pick(false), pick(false), pick(false)
		wantLawsOfOne(t, parts, a)
		wantLawsOfOne(t, parts, pick(true))
		wantLawsOfTwo(t, parts, a, b)
		wantLawsOfTwo(t, parts, pick(true), pick(true))
		wantLawsOfThree(t, parts, a, b, c)
	}
}

// inWorld: does p make packets of the world alone?
func inWorld(p api.Pol) bool {
	if p.Op == api.Put && p.F != 1 && p.F != 3 {
		return false
	}
	return !slices.ContainsFunc(p.Kids, func(kid api.Pol) bool { return !inWorld(kid) })
}

// P7.2: the laws where sets are as great as they may be.
func TestLawsOfGreatSets(t *testing.T) {
	q := api.Packet{1, 2}
	a, b, c := puts(3, 4), puts(4, 4), puts(5, 4)
	l, e := policy.Make(seq(a, b, c), nil, q)
	if e != api.OK || len(l) != 64 {
		t.Fatal(len(l), e)
	}
	for _, p := range []api.Pol{
		seq(a, seq(b, c)), seq(seq(a, b), c),
		seq(c, b, a),
		sum(seq(a, b, c), dropAll()), sum(dropAll(), seq(a, b, c)), seq(identity(), a, b, c), seq(a, b, c, identity()),
		sum(seq(a, b, c), seq(a, b, c)),
		seq(sum(append(a.Kids, a.Kids...)...), b, c),
		sum(seq(sum(put(3, 1), put(3, 2)), b, c), seq(sum(put(3, 3), put(3, 4)), b, c)),
		sum(seq(a, b, sum(put(5, 4), put(5, 1))), seq(a, b, sum(put(5, 3), put(5, 2)))),
		sum(seq(test(1, 2), a, b, c), seq(not(test(1, 2)), a, b, c)),
	} {
		wantMake(t, p, nil, q, l, api.OK)
	}
}

// P7.1: At puts id or drop where the state is asked, and leaves all else as it is.
func TestAtByHand(t *testing.T) {
	for _, c := range []struct {
		s     string
		parts []uint16
		want  string
	}{
		{"id", nil, "id"},
		{"drop", []uint16{0}, "drop"},
		{"pt=1", []uint16{1, 1}, "pt=1"},
		{"pt:=1", []uint16{1, 1}, "pt:=1"},
		{"@0=0", nil, "drop"},
		{"@0=0", []uint16{0}, "id"},
		{"@0=0", []uint16{1}, "drop"},
		{"@1=0", []uint16{0}, "drop"},
		{"@1=0", []uint16{7, 0}, "id"},
		{"@3=65535", []uint16{0, 0, 0, 65535}, "id"},
		{"@3=65535", []uint16{0, 0, 0, 65534, 65535}, "drop"},
		{"!@0=0", []uint16{0}, "!id"},
		{"!@0=0", []uint16{1}, "!drop"},
		{"!!@0=0", []uint16{1}, "!!drop"},
		{"@0=0 ; @1=1 ; @2=2", []uint16{0, 1}, "id ; id ; drop"},
		{"@0=0 + @1=1 + @2=2", []uint16{5, 1, 2}, "drop + id + id"},
		{"@0=0 ; pt=2 ; pt:=3 + !(@1=1 ; dst=2) ; (id + @0=1)", []uint16{0, 1}, "id ; pt=2 ; pt:=3 + !(id ; dst=2) ; (id + drop)"},
		{"(@0=0 ; @0=0) ; (@0=1 + @0=1)", []uint16{1}, "(drop ; drop) ; (id + id)"},
	} {
		p := parsed(t, c.s)
		was := copied(p)
		got := policy.At(p, c.parts)
		if !reflect.DeepEqual(got, parsed(t, c.want)) {
			t.Errorf("At(%s, %v) = %s, want %s", c.s, c.parts, brief(got), c.want)
		}
		if !reflect.DeepEqual(p, was) {
			t.Errorf("At changed %s", c.s)
		}
	}
}

// wantAt holds, node by node, that got is p in the state.
func wantAt(t *testing.T, p api.Pol, parts []uint16, got api.Pol) {
	t.Helper()
	want := api.Pol{Op: p.Op, F: p.F, N: p.N, Kids: p.Kids}
	if p.Op == api.State {
		want = dropAll()
		for i, n := range parts {
			if i == p.F && n == p.N {
				want = identity()
			}
		}
	}
	if got.Op != want.Op || got.F != want.F || got.N != want.N || len(got.Kids) != len(want.Kids) {
		t.Fatalf("in %v %s is %s", parts, brief(p), brief(got))
	}
	for i := range want.Kids {
		wantAt(t, want.Kids[i], parts, got.Kids[i])
	}
}

// P7.1: At of any policy, one that isn't well formed among them.
func TestAtOfAny(t *testing.T) {
	states := [][]uint16{nil, {0}, {1, 0}, {0, 1, 0, 1}, {0, 0, 0, 0, 0}}
	l := append(unformed(), small(4)...)
	l = append(l, seq(state(4, 0), state(-1, 0), state(5, 0)), deep(500), sum(ids(5000)...), api.Pol{Op: 9, F: 8, N: 7, Kids: []api.Pol{state(0, 1), put(0, 1)}})
	r := rand.New(rand.NewSource(5))
	for range 500 {
		l = append(l, anyPol(r, 1+r.Intn(80), 3, false))
	}
	for _, p := range l {
		for _, parts := range states {
			was := copied(p)
			got := policy.At(p, parts)
			wantAt(t, p, parts, got)
			if again := policy.At(got, []uint16{1, 1, 1, 1}); !reflect.DeepEqual(again, got) {
				t.Errorf("At(At(%s)) is another one", brief(p))
			}
			if !reflect.DeepEqual(p, was) {
				t.Fatalf("At changed %s", brief(was))
			}
		}
	}
}

// spaced answers p with its lists of kids in the midst of longer ones, and these.
func spaced(p api.Pol) (api.Pol, [][]api.Pol) {
	var whole [][]api.Pol
	if len(p.Kids) == 0 {
		return p, nil
	}
	l := []api.Pol{test(7, 77)}
	for _, kid := range p.Kids {
		k, more := spaced(kid)
		l = append(l, k)
		whole = append(whole, more...)
	}
	l = append(l, test(7, 78), test(7, 79))
	p.Kids = l[1 : len(l)-2]
	return p, append(whole, l)
}

// R4: nothing that is handed in is changed, behind its end neither; nothing that is answered is shared.
func TestMemory(t *testing.T) {
	p, whole := spaced(parsed(t, "(pt:=1 + pt:=2 + @0=7) ; (dst:=1 + !(@1=1 + pt=2) ; dst:=2) ; (id + id)"))
	parts := []uint16{7, 1, 9, 9}
	q := api.Packet{1, 3}
	var was [][]api.Pol
	for _, l := range whole {
		was = append(was, copied(api.Pol{Kids: l}).Kids)
	}
	l, e := policy.Make(p, parts[:2], q)
	want := slices.Clone(l)
	at := policy.At(p, parts[:2])
	wantTree := copied(at)
	if e != api.OK || len(l) == 0 || !policy.Lets(p, parts[:2], q) {
		t.Fatal(l, e)
	}
	if !reflect.DeepEqual(whole, was) || !slices.Equal(parts, []uint16{7, 1, 9, 9}) {
		t.Error("what was handed in is changed")
	}
	for i := range l {
		l[i] = api.Packet{}
	}
	clearKids(at)
	if !reflect.DeepEqual(whole, was) {
		t.Error("the answer is what was handed in")
	}
	if again, _ := policy.Make(p, parts[:2], q); !slices.Equal(again, want) {
		t.Error("the answer is kept")
	}
	if again := policy.At(p, parts[:2]); !reflect.DeepEqual(again, wantTree) {
		t.Error("the policy is kept")
	}
}

// clearKids spoils all of a policy, behind the ends of its lists too.
func clearKids(p api.Pol) {
	for _, kid := range p.Kids {
		clearKids(kid)
	}
	clear(p.Kids[:cap(p.Kids)])
}

// R4: no two lists of At's answer are one, though they are in what is handed in.
func TestAtSharesNothing(t *testing.T) {
	kid := sum(test(1, 1), state(0, 0))
	got := policy.At(seq(kid, kid, kid), []uint16{0})
	got.Kids[0].Kids[0] = put(1, 9)
	got.Kids[1].Kids = append(got.Kids[1].Kids, put(1, 8))
	if want := seq(sum(put(1, 9), identity()), sum(test(1, 1), identity(), put(1, 8)), sum(test(1, 1), identity())); !reflect.DeepEqual(got, want) {
		t.Errorf("%s", brief(got))
	}
	if !reflect.DeepEqual(kid, sum(test(1, 1), state(0, 0))) {
		t.Error("the kid is changed")
	}
}

// R7: the same is answered again and again.
func TestAgain(t *testing.T) {
	p := parsed(t, "(pt:=3 + pt:=1 + pt:=2) ; (dst:=2 + dst:=1) ; ((src:=2 + src:=1) ; (typ:=1 + id))")
	first, _ := policy.Make(p, nil, api.Packet{})
	for range 50 {
		if l, e := policy.Make(p, nil, api.Packet{}); e != api.OK || !slices.Equal(l, first) || len(l) != 24 {
			t.Fatal(l, e)
		}
	}
}

// P0: policies whose kids are shared so often that there is no going over all, and ones that are their own kids.
func TestEndlessPolicies(t *testing.T) {
	shared := identity()
	for range 60 {
		shared = sum(shared, shared)
	}
	loops := []api.Pol{shared}
	for _, op := range []int{api.Not, api.Seq, api.Sum, api.Id, api.State, 99} {
		kids := make([]api.Pol, 2)
		kids[0] = api.Pol{Op: op, Kids: kids}
		kids[1] = api.Pol{Op: op, Kids: kids}
		loops = append(loops, api.Pol{Op: op, Kids: kids[:1]}, api.Pol{Op: op, Kids: kids})
	}
	for _, p := range loops {
		if l, e := policy.Make(p, nil, api.Packet{}); len(l) != 0 || e != api.ErrForm {
			t.Error(l, e)
		}
		if policy.Lets(p, nil, api.Packet{}) {
			t.Error("lets a packet through")
		}
		if got := policy.At(p, nil); got.Op != api.Drop || got.Kids != nil {
			t.Error("there is a policy")
		}
	}
}

// P0: well-formed policies that ask the same of the same packets, or of packets alike, over and over.
func TestLongWork(t *testing.T) {
	q := api.Packet{1, 2}
	same := puts(1, 8)
	for range 17 {
		same = seq(puts(1, 8), same)
	}
	wantMake(t, same, nil, q, mapped(8, func(i int) api.Packet { return api.Packet{1, uint16(i + 1)} }), api.OK)
	mixed := identity()
	for i := range 18 {
		mixed = sum(put(1+i%7, 1), seq(sum(put(1+i%7, 2), put(1+(i+1)%7, 3)), mixed))
	}
	policy.Make(mixed, nil, q)
	alike := dropAll()
	for f := 1; f < api.Fields; f++ {
		alike = seq(puts(f, 40), alike)
	}
	wantMake(t, alike, nil, q, nil, api.OK)
	var ones []api.Pol
	for f := 1; f < api.Fields; f++ {
		ones = append(ones, test(f, 3))
	}
	alike = seq(ones...)
	for f := 1; f < api.Fields; f++ {
		alike = seq(puts(f, 38), alike)
	}
	wantMake(t, alike, nil, q, []api.Packet{{1, 3, 3, 3, 3, 3, 3, 3}}, api.OK)
}

func mapped(n int, of func(int) api.Packet) []api.Packet {
	var l []api.Packet
	for i := range n {
		l = append(l, of(i))
	}
	return l
}

// P7.1: more unlike packets come to one sequence than are kept in mind of it.
func TestManyPackets(t *testing.T) {
	q := api.Packet{1, 2}
	var tests []api.Pol
	for f := 1; f <= 3; f++ {
		for n := 1; n <= 30; n++ {
			tests = append(tests, test(f, uint16(n)))
		}
	}
	last := seq(sum(tests...), test(1, 30), test(2, 30), put(4, 1))
	p := seq(puts(1, 30), seq(puts(2, 30), seq(puts(3, 30), last)))
	wantMake(t, p, nil, q, mapped(30, func(i int) api.Packet { return api.Packet{1, 30, 30, uint16(i + 1), 1} }), api.OK)
}

func FuzzMake(f *testing.F) {
	f.Add("(pt:=1 + pt:=2) ; pt=1", uint16(1), uint16(2))
	f.Add("!(@0=4 ; dst=5) ; (pt:=1 + dst:=2 ; (src:=1 + id))", uint16(4), uint16(5))
	f.Fuzz(func(t *testing.T, s string, a, b uint16) {
		p, e := syntax.Parse("init 0 0 . policy " + s + " .")
		if e == api.OK {
			wantModel(t, p.Pol, []uint16{a, b}, api.Packet{1, a, 0, b})
		}
	})
}
