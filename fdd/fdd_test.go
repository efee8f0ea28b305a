package fdd_test

import (
	"fmt"
	"math"
	"math/rand"
	"slices"
	"strings"
	"testing"

	"pointsman/api"
	"pointsman/fdd"
	"pointsman/packet"
	"pointsman/policy"
	"pointsman/show"
	"pointsman/syntax"
)

func test(f int, n uint16) api.Pol  { return api.Pol{Op: api.Test, F: f, N: n} }
func put(f int, n uint16) api.Pol   { return api.Pol{Op: api.Put, F: f, N: n} }
func state(f int, n uint16) api.Pol { return api.Pol{Op: api.State, F: f, N: n} }
func not(p api.Pol) api.Pol         { return api.Pol{Op: api.Not, Kids: []api.Pol{p}} }
func seq(l ...api.Pol) api.Pol      { return api.Pol{Op: api.Seq, Kids: l} }
func sum(l ...api.Pol) api.Pol      { return api.Pol{Op: api.Sum, Kids: l} }
func identity() api.Pol             { return api.Pol{Op: api.Id} }
func dropAll() api.Pol              { return api.Pol{Op: api.Drop} }
func ids(n int) []api.Pol           { return slices.Repeat([]api.Pol{identity()}, n) }

// puts: a field becomes each of the numbers 1 to n.
func puts(f, n int) api.Pol {
	var l []api.Pol
	for i := range n {
		l = append(l, put(f, uint16(i+1)))
	}
	return sum(l...)
}

// deep: a policy of this depth, which lets all through if that is odd, and nothing if it is even.
func deep(depth int) api.Pol {
	p := identity()
	for range depth - 1 {
		p = not(p)
	}
	return p
}

func parsed(t testing.TB, s string) api.Pol {
	t.Helper()
	p, e := syntax.Parse("init 0 0 0 0 . policy " + s + " .")
	if e != api.OK {
		t.Fatal(s, e)
	}
	return p.Pol
}

// copied answers p in new memory.
func copied(p api.Pol) api.Pol {
	p.Kids = slices.Clone(p.Kids)
	for i := range p.Kids {
		p.Kids[i] = copied(p.Kids[i])
	}
	return p
}

// brief tells a policy by its text, or, if it has none, by its nodes; the beginning, if that is long.
func brief(p api.Pol) string {
	s := show.Pol(p)
	if s == "" {
		s = fmt.Sprintf("%+v", p)
	}
	return s[:min(len(s), 400)]
}

func built(t testing.TB, p api.Pol, parts ...uint16) *fdd.FDD {
	t.Helper()
	d, e := fdd.Build(p, parts)
	if e != api.OK || d == nil {
		t.Fatalf("Build(%s, %v) = %v, error %d", brief(p), parts, d, e)
	}
	return d
}

// wantNone holds that Build answers this error, and no diagram.
func wantNone(t *testing.T, p api.Pol, parts []uint16, want api.Errno) {
	t.Helper()
	if d, e := fdd.Build(p, parts); d != nil || e != want {
		t.Errorf("Build(%s, %v) = %v, error %d, want %d", brief(p), parts, d, e, want)
	}
}

func actText(a api.Act) string {
	if len(a) == 0 {
		return "id"
	}
	var l []string
	for _, c := range a {
		l = append(l, fmt.Sprintf("%s:=%d", packet.Name(c.F), c.N))
	}
	return strings.Join(l, " ; ")
}

func actsText(l []api.Act) string {
	var out []string
	for _, a := range l {
		out = append(out, actText(a))
	}
	return strings.Join(out, " + ")
}

func rowText(r api.Row) string {
	var l []string
	for _, c := range r.Match {
		l = append(l, fmt.Sprintf("%s=%d", packet.Name(c.F), c.N))
	}
	return strings.TrimSpace(strings.Join(l, " ; ") + " -> " + actsText(r.Acts))
}

func rowsText(l []api.Row) string {
	var out []string
	for _, r := range l {
		out = append(out, rowText(r))
	}
	return strings.Join(out, " / ")
}

// doAll answers what acts make of q, in order and each once.
func doAll(l []api.Act, q api.Packet) []api.Packet {
	var made []api.Packet
	for _, a := range l {
		made = append(made, packet.Do(q, a))
	}
	return packet.Sort(made)
}

// byRows answers the acts of the first row that q matches.
func byRows(l []api.Row, q api.Packet) []api.Act {
	for _, r := range l {
		if packet.Has(q, r.Match) {
			return r.Acts
		}
	}
	return nil
}

func isRising(l []api.Pair) bool {
	for i, c := range l {
		if c.F < 0 || c.F >= api.Fields || i > 0 && l[i-1].F >= c.F {
			return false
		}
	}
	return true
}

func compareActs(a, b api.Act) int {
	for i := range min(len(a), len(b)) {
		if a[i].F != b[i].F {
			return a[i].F - b[i].F
		}
		if a[i].N != b[i].N {
			return int(a[i].N) - int(b[i].N)
		}
	}
	return len(a) - len(b)
}

func areActs(l []api.Act) bool {
	for i, a := range l {
		if !isRising(a) || i > 0 && compareActs(l[i-1], a) >= 0 {
			return false
		}
	}
	return true
}

// wantRows holds that the rows are as many as there may be, one for each way, in form.
func wantRows(t *testing.T, name string, rows []api.Row) {
	t.Helper()
	if len(rows) == 0 || len(rows) > api.MaxRows || len(rows[len(rows)-1].Match) != 0 {
		t.Errorf("%s: %d rows, the last one %v", name, len(rows), rows[len(rows)-1:])
	}
	for _, r := range rows {
		if !isRising(r.Match) || !areActs(r.Acts) {
			t.Errorf("%s: row %v", name, r)
		}
	}
}

// wantAt holds what d and its rows answer of one packet.
func wantAt(t *testing.T, name string, d *fdd.FDD, rows []api.Row, q api.Packet, want []api.Packet) {
	t.Helper()
	if got := d.Make(q); !slices.Equal(got, want) {
		t.Errorf("%s: Make(%v) = %v, want %v", name, q, got, want)
	}
	l := d.Acts(q)
	if !areActs(l) || !slices.Equal(doAll(l, q), want) {
		t.Errorf("%s: Acts(%v) = %v, want %v", name, q, l, want)
	}
	if row := byRows(rows, q); actsText(row) != actsText(l) || len(row) != len(l) {
		t.Errorf("%s: the row of %v tells %v, and Acts %v", name, q, row, l)
	}
}

// wantMakes holds that the diagram of p makes what p makes of these packets.
func wantMakes(t *testing.T, p api.Pol, parts []uint16, l []api.Packet) {
	t.Helper()
	d := built(t, p, parts...)
	rows := d.Rows()
	wantRows(t, brief(p), rows)
	for _, q := range l {
		want, e := policy.Make(p, parts, q)
		if e != api.OK {
			t.Fatalf("Make(%s, %v, %v): error %d", brief(p), parts, q, e)
		}
		wantAt(t, brief(p), d, rows, q, want)
	}
}

// P8.1: the diagrams of policies, drawn by hand: how many nodes they have, and their rows.
func TestByHand(t *testing.T) {
	for _, c := range []struct {
		s    string
		n    int
		rows string
	}{
		{"id", 1, "-> id"},
		{"drop", 1, "->"},
		{"dst=1", 3, "dst=1 -> id / ->"},
		{"!dst=1", 3, "dst=1 -> / -> id"},
		{"!!dst=1", 3, "dst=1 -> id / ->"},
		{"dst:=1", 1, "-> dst:=1"},
		{"sw=0", 3, "sw=0 -> id / ->"},
		{"sw=65535 ; opt:=65535", 3, "sw=65535 -> opt:=65535 / ->"},
		{"@0=4", 1, "-> id"},
		{"@0=5", 1, "->"},
		{"@2=0", 1, "->"},
		{"!@0=4", 1, "->"},
		{"!@3=0", 1, "-> id"},
		{"@0=4 ; pt:=1 + @1=4 ; pt:=2", 1, "-> pt:=1"},
		// An answer that changes nothing isn't asked for, and a put that does nothing isn't told.
		{"dst=1 ; dst:=1", 3, "dst=1 -> id / ->"},
		{"dst=5 + !dst=5 ; dst:=5", 1, "-> dst:=5"},
		{"dst=5 + !dst=5 ; (id + dst:=5)", 1, "-> id + dst:=5"},
		{"pt=1 ; (id + pt:=1)", 3, "pt=1 -> id / ->"},
		{"dst=1 + !dst=1", 1, "-> id"},
		{"dst=1 ; dst=2", 1, "->"},
		{"dst=1 ; !dst=2", 3, "dst=1 -> id / ->"},
		{"dst=1 + !dst=2", 3, "dst=2 -> / -> id"},
		{"pt:=2 ; pt=2", 1, "-> pt:=2"},
		{"pt:=2 ; pt=3", 1, "->"},
		{"pt:=1 ; pt:=2", 1, "-> pt:=2"},
		{"src:=0 ; src=0", 1, "-> src:=0"},
		{"src=5 + !src=5 ; (dst=3 + !dst=3 ; src:=5)", 3, "dst=3 -> id / -> src:=5"},
		{"src=5 ; dst=3 + !src=5 ; (dst=3 + !dst=3 ; src:=5)", 6, "src=5 ; dst=3 -> id / src=5 -> / dst=3 -> id / -> src:=5"},
		{"src=1 ; dst=2 + src=3 ; dst=2", 5, "src=1 ; dst=2 -> id / src=1 -> / src=3 ; dst=2 -> id / src=3 -> / ->"},
		{"src=1 ; dst=2 + !src=1 ; dst=2", 3, "dst=2 -> id / ->"},
		// What is asked is rising, whatever stands ahead in the text.
		{"dst=1 ; pt:=2 + dst=2 ; pt:=3", 5, "dst=1 -> pt:=2 / dst=2 -> pt:=3 / ->"},
		{"dst=2 ; pt:=3 + dst=1 ; pt:=2", 5, "dst=1 -> pt:=2 / dst=2 -> pt:=3 / ->"},
		{"dst=2 ; pt:=1 + dst=1 ; pt:=1", 4, "dst=1 -> pt:=1 / dst=2 -> pt:=1 / ->"},
		{"dst=1 + src=2", 4, "src=2 -> id / dst=1 -> id / ->"},
		{"dst=1 ; src=2", 4, "src=2 ; dst=1 -> id / src=2 -> / ->"},
		{"opt=1 ; sw=1", 4, "sw=1 ; opt=1 -> id / sw=1 -> / ->"},
		{"dst=256 + dst=1 + dst=0", 5, "dst=0 -> id / dst=1 -> id / dst=256 -> id / ->"},
		{"pt:=2 ; dst=1", 3, "dst=1 -> pt:=2 / ->"},
		{"dst=1 ; pt:=2 ; pt=2 ; src=3", 4, "src=3 ; dst=1 -> pt:=2 / src=3 -> / ->"},
		{"pt=1 ; pt:=2 + !pt=1", 3, "pt=1 -> pt:=2 / -> id"},
		// Acts are in order, each once.
		{"pt:=9 + id + pt:=3", 1, "-> id + pt:=3 + pt:=9"},
		{"src:=1 + pt:=9 + pt:=1", 1, "-> pt:=1 + pt:=9 + src:=1"},
		{"opt:=0 + opt:=256 + opt:=1", 1, "-> opt:=0 + opt:=1 + opt:=256"},
		{"(pt:=1 + pt:=2) ; (dst:=1 + pt=2)", 1, "-> pt:=1 ; dst:=1 + pt:=2 + pt:=2 ; dst:=1"},
		{"(pt:=1 + id) ; (src:=1 + id) ; (pt:=2 + id)", 1, "-> id + pt:=1 + pt:=1 ; src:=1 + pt:=2 + pt:=2 ; src:=1 + src:=1"},
		{"opt:=1 ; pt:=2 ; dst:=3", 1, "-> pt:=2 ; dst:=3 ; opt:=1"},
		{"pt:=1 + pt:=1", 1, "-> pt:=1"},
		{"dst:=1 ; dst=1 ; src:=0", 1, "-> src:=0 ; dst:=1"},
		{"dst=1 ; (pt:=1 + dst:=1 ; pt:=1)", 3, "dst=1 -> pt:=1 / ->"},
		{"dst=1 ; pt:=1 + !dst=1 ; (pt:=1 + dst:=1 ; pt:=1)", 1, "-> pt:=1 + pt:=1 ; dst:=1"},
		// What is asked behind a put is asked of what was put.
		{"dst:=1 ; (dst=1 ; pt:=1 + dst=2 ; pt:=2)", 1, "-> pt:=1 ; dst:=1"},
		{"(dst:=1 + id) ; (dst=1 ; src:=2 + !dst=1 ; src:=3)", 3, "dst=1 -> src:=2 / -> src:=2 ; dst:=1 + src:=3"},
		{"(dst:=1 + dst:=2) ; (dst=2 + !dst=2 ; dst:=2)", 1, "-> dst:=2"},
		{"(pt=1 ; pt:=2 + pt=2 ; pt:=1) ; (pt=1 ; pt:=2 + pt=2 ; pt:=1)", 4, "pt=1 -> id / pt=2 -> id / ->"},
		// What tells is asked of a later field than what is asked behind it.
		{"(dst=1 ; src:=2 + !dst=1 ; src:=3) ; src=2 ; pt=4", 4, "pt=4 ; dst=1 -> src:=2 / pt=4 -> / ->"},
		{"(opt=1 ; vid:=2 + !opt=1) ; (vid=2 + sw=1)", 7, "sw=1 ; opt=1 -> vid:=2 / sw=1 -> id / vid=2 -> id / opt=1 -> vid:=2 / ->"},
	} {
		p := parsed(t, c.s)
		d := built(t, p, 4, 0)
		rows := d.Rows()
		if got := rowsText(rows); got != c.rows || d.Len() != c.n {
			t.Errorf("%s: %d nodes, %s; want %d, %s", c.s, d.Len(), got, c.n, c.rows)
		}
		wantMakes(t, p, []uint16{4, 0}, reps(p))
	}
}

// P8.1: a test and a put of each field, at numbers that are so, and aren't by one bit.
func TestFields(t *testing.T) {
	for f := range api.Fields {
		for _, n := range []uint16{0, 1, 255, 256, 32768, 65535} {
			with := api.Packet{11, 12, 13, 14, 15, 16, 17, 18}
			with[f] = n
			l := []api.Packet{{}, {11, 12, 13, 14, 15, 16, 17, 18}, with}
			for bit := range 16 {
				other := with
				other[f] ^= 1 << bit
				l = append(l, other)
			}
			wantMakes(t, test(f, n), nil, l)
			wantMakes(t, not(test(f, n)), nil, l)
			if f != api.Sw {
				wantMakes(t, put(f, n), nil, l)
				wantMakes(t, sum(identity(), put(f, n)), nil, l)
				wantMakes(t, seq(put(f, n), test(f, n)), nil, l)
				wantMakes(t, seq(test(f, n), put(f, n+1), not(test(f, n))), nil, l)
			}
		}
	}
}

// P8.1: of states with any number of parts: the diagram is that of the policy there, where a part that there isn't is never so.
func TestStates(t *testing.T) {
	all := []uint16{0, 7, 0, 65535, 0, 0}
	for parts := range len(all) + 1 {
		for part := range api.MaxParts {
			for _, n := range []uint16{0, 7, 65535} {
				p := sum(seq(state(part, n), put(1, 2)), seq(not(state(part, n)), put(2, 3)))
				want := "-> src:=3"
				if part < parts && all[part] == n {
					want = "-> pt:=2"
				}
				if got := rowsText(built(t, p, all[:parts]...).Rows()); got != want {
					t.Errorf("@%d=%d in %v: %s", part, n, all[:parts], got)
				}
			}
		}
	}
	r := rand.New(rand.NewSource(5))
	for range 500 {
		p := anyPol(r, 1+r.Intn(20), 3, false)
		parts := []uint16{0, 1, 1, 0, 1, 0}[:r.Intn(7)]
		if isFormed(p) && !fdd.Same(built(t, p, parts...), built(t, policy.At(p, parts))) {
			t.Errorf("%s in %v", brief(p), parts)
		}
	}
}

// unformed: policies that aren't well formed, whatever the parts of the state.
func unformed() []api.Pol {
	id := identity()
	bad := []api.Pol{
		{Op: -1}, {Op: 8}, {Op: math.MinInt}, {Op: math.MaxInt}, {Op: 258},
		{Op: api.Drop, F: 1}, {Op: api.Drop, N: 1}, {Op: api.Drop, Kids: ids(1)},
		{Op: api.Id, F: 1}, {Op: api.Id, N: 1}, {Op: api.Id, Kids: ids(1)}, {Op: api.Id, F: -1},
		test(8, 0), test(-1, 0), test(math.MinInt, 0), test(math.MaxInt, 0), {Op: api.Test, Kids: ids(1)},
		put(0, 0), put(8, 0), put(-1, 0), put(math.MaxInt, 1), {Op: api.Put, F: 1, Kids: ids(1)},
		state(4, 0), state(-1, 0), state(math.MaxInt, 0), state(math.MinInt, 0), {Op: api.State, Kids: ids(1)},
		{Op: api.Not}, {Op: api.Not, Kids: ids(2)}, {Op: api.Not, F: 1, Kids: ids(1)}, {Op: api.Not, N: 1, Kids: ids(1)},
		not(put(1, 1)), not(not(put(1, 1))), not(seq(id, put(1, 1))), not(sum(put(1, 1), id)), not(seq(dropAll(), put(1, 1))),
		seq(), seq(id), {Op: api.Seq, F: 1, Kids: ids(2)}, {Op: api.Seq, N: 1, Kids: ids(2)},
		sum(), sum(id), {Op: api.Sum, F: 1, Kids: ids(2)}, {Op: api.Sum, N: 1, Kids: ids(2)},
		deep(21), deep(22), sum(ids(300)...), seq(ids(300)...), sum(seq(ids(149)...), seq(ids(150)...)),
	}
	for _, p := range slices.Clone(bad) {
		// Where no packet comes, and where the work is too great besides.
		bad = append(bad, not(p), seq(id, p), sum(p, id), seq(dropAll(), p), seq(p, dropAll()), sum(puts(1, 65), p), sum(p, puts(1, 65)))
	}
	return bad
}

// P8.1: ErrForm of policies that aren't well formed, also where no packet comes, ahead of ErrFull.
func TestUnformed(t *testing.T) {
	for _, p := range unformed() {
		for _, parts := range [][]uint16{nil, {0}, {0, 0, 0, 0}, {0, 0, 0, 0, 0, 0}} {
			wantNone(t, p, parts, api.ErrForm)
		}
	}
}

// P8.1: policies of the most nodes and levels are well formed.
func TestGreatest(t *testing.T) {
	for _, p := range []api.Pol{
		sum(ids(299)...), seq(ids(299)...), sum(seq(ids(149)...), seq(ids(148)...)), deep(19), deep(20), seq(deep(19), test(1, 2)),
	} {
		wantMakes(t, p, nil, []api.Packet{{}, {1, 2}})
	}
	var l []api.Pol
	for n := range uint16(299) {
		l = append(l, test(3, 3*n))
	}
	d := built(t, sum(l...))
	if n := len(d.Rows()); d.Len() != 301 || n != 300 {
		t.Error(d.Len(), n)
	}
	if n := len(d.Make(api.Packet{1, 1, 1, 894})); n != 1 {
		t.Error(n)
	}
	if n := len(d.Make(api.Packet{1, 1, 1, 895})); n != 0 {
		t.Error(n)
	}
}
