package table_test

import (
	"fmt"
	"math/rand"
	"slices"
	"strings"
	"testing"

	"pointsman/api"
	"pointsman/fdd"
	"pointsman/policy"
	"pointsman/syntax"
	"pointsman/table"
)

func parsed(t testing.TB, s string) api.Pol {
	t.Helper()
	p, e := syntax.Parse("init 0 0 0 0 . policy " + s + " .")
	if e != api.OK {
		t.Fatal(s, e)
	}
	return p.Pol
}

// wantOf holds that Of answers a list that is right, and the rows of the diagram.
func wantOf(t testing.TB, name string, p api.Pol, state []uint16) []api.Row {
	t.Helper()
	l, e := table.Of(p, state)
	d, _ := fdd.Build(p, state)
	if e != api.OK || !table.Right(l) || bars(l) != bars(d.Rows()) {
		t.Fatalf("%s in %v: %s, error %d", name, state, bars(l), e)
	}
	return l
}

// wantNone holds that Of answers this error, and no rows.
func wantNone(t *testing.T, name string, p api.Pol, want api.Errno) {
	t.Helper()
	for _, state := range [][]uint16{nil, {0}, {0, 0, 0, 0, 0}} {
		if l, e := table.Of(p, state); e != want || len(l) != 0 {
			t.Errorf("%s in %v: %d rows, error %d, want %d", name, state, len(l), e, want)
		}
	}
}

// P9.1: the rows of policies, by hand.
func TestOf(t *testing.T) {
	for _, c := range [][2]string{
		{"id", "id -> id"},
		{"drop", "id -> drop"},
		{"dst=1 ; pt:=2", "dst=1 -> pt:=2 | id -> drop"},
		{"!dst=1", "dst=1 -> drop | id -> id"},
		{"dst=1 ; dst:=1", "dst=1 -> id | id -> drop"},
		{"pt:=2 + id + pt:=1", "id -> id + pt:=1 + pt:=2"},
		{"@0=7 ; pt:=1 + @1=7 ; pt:=2", "id -> pt:=1"},
		{"@3=0 + !@3=0 ; pt:=3", "id -> pt:=3"},
		{"dst=2 ; pt:=3 ; vid:=0 + src=1 ; pt:=1", "src=1 ; dst=2 -> pt:=1 + pt:=3 ; vid:=0 | src=1 -> pt:=1 | dst=2 -> pt:=3 ; vid:=0 | id -> drop"},
		{"sw=1 ; (pt:=1 + pt:=2) + sw=2 ; dst=1", "sw=1 -> pt:=1 + pt:=2 | sw=2 ; dst=1 -> id | sw=2 -> drop | id -> drop"},
	} {
		if got := bars(wantOf(t, c[0], parsed(t, c[0]), []uint16{7, 1})); got != c[1] {
			t.Errorf("%s: %s, want %s", c[0], got, c[1])
		}
	}
}

// puts: a field becomes each of so many numbers.
func puts(f, n int) string {
	var l []string
	for i := range n {
		l = append(l, fmt.Sprintf("%s:=%d", names[f], i+1))
	}
	return "(" + strings.Join(l, " + ") + ")"
}

// P9.1: of 32 acts in a row there are rows; of 33 in one of them, wherever it stands, none, and of 65 packets none either.
func TestOfManyActs(t *testing.T) {
	for _, at := range []string{"%s", "dst=1 ; %s", "!dst=1 ; %s", "dst=1 ; pt:=1 + dst=2 ; %s + dst=3", "dst=1 ; pt:=1 + dst=2 + dst=3 ; %s", "sw=1 ; src=2 ; dst=3 ; opt=4 ; %s", "!(sw=1 + opt=4) ; %s + opt=4"} {
		for acts, full := range map[string]bool{
			puts(1, 31): false, puts(1, 32): false, puts(1, 33): true, puts(7, 33): true, puts(1, 64): true, puts(1, 65): true,
			"(id + " + puts(1, 31) + ")": false, "(id + " + puts(1, 32) + ")": true,
			puts(1, 4) + " ; " + puts(4, 8): false, puts(1, 4) + " ; " + puts(4, 9): true, puts(1, 3) + " ; " + puts(4, 11): true,
			"(" + puts(1, 33) + " ; drop)": false, "(" + puts(1, 64) + " ; pt=1)": false, "(" + puts(1, 33) + " ; !pt=33)": false, "(" + puts(1, 65) + " ; drop)": true,
		} {
			s := strings.Replace(at, "%s", acts, 1)
			if p := parsed(t, s); full {
				wantNone(t, s, p, api.ErrFull)
			} else {
				wantOf(t, s, p, []uint16{0})
			}
		}
	}
}

// P9.1: no packet comes to a row whose acts would be too many, so it isn't one.
func TestOfManyActsNowhere(t *testing.T) {
	for s, want := range map[string]string{
		"drop ; " + puts(1, 33):                       "id -> drop",
		"dst=1 ; dst=2 ; " + puts(1, 33) + " + dst=2": "dst=2 -> id | id -> drop",
		"dst:=1 ; dst=2 ; " + puts(1, 33):             "id -> drop",
		"@0=5 ; " + puts(1, 33) + " + pt:=1":          "id -> pt:=1",
	} {
		if got := bars(wantOf(t, s, parsed(t, s), []uint16{0})); got != want {
			t.Errorf("%s: %s", s, got)
		}
	}
}

// grid: a policy with a row for each triple of the numbers 1 to n of three fields, none of a field being one more.
func grid(n ...int) string {
	var l []string
	for i := range n {
		for k := range n[i] {
			l = append(l, fmt.Sprintf("%s=%d;%s:=%d", names[2+i], k+1, names[5+i], k+1))
		}
	}
	return strings.Join(l, "+")
}

// P9.1: 1000 rows are a list; more are none.
func TestOfManyRows(t *testing.T) {
	p := parsed(t, grid(9, 9, 9))
	l := wantOf(t, "1000 rows", p, nil)
	if len(l) != 1000 {
		t.Error(len(l))
	}
	r := rand.New(rand.NewSource(7))
	for range 300 {
		wantMade(t, "1000 rows", p, nil, l, anyPacket(r, 11))
	}
	wantNone(t, "1001 rows", parsed(t, grid(6, 10, 12)), api.ErrFull)
	wantNone(t, "1100 rows", parsed(t, grid(9, 9, 10)), api.ErrFull)
}

// P9.1: policies that aren't well formed, some of them too great besides.
func TestOfUnformed(t *testing.T) {
	many := parsed(t, puts(1, 33))
	more := parsed(t, puts(1, 65))
	id := api.Pol{Op: api.Id}
	for _, p := range []api.Pol{
		{Op: -1}, {Op: 8}, {Op: api.Sum}, {Op: api.Seq, Kids: []api.Pol{id}}, {Op: api.Not}, {Op: api.Test, F: 8}, {Op: api.Put, F: 0}, {Op: api.Put, F: -1}, {Op: api.State, F: 4}, {Op: api.Id, N: 1},
		{Op: api.Not, Kids: []api.Pol{many}}, {Op: api.Sum, Kids: slices.Repeat([]api.Pol{id}, 300)},
	} {
		for _, other := range []api.Pol{id, many, more} {
			wantNone(t, fmt.Sprint(p), p, api.ErrForm)
			wantNone(t, fmt.Sprint(p), api.Pol{Op: api.Sum, Kids: []api.Pol{other, p}}, api.ErrForm)
			wantNone(t, fmt.Sprint(p), api.Pol{Op: api.Seq, Kids: []api.Pol{{Op: api.Drop}, p, other}}, api.ErrForm)
		}
	}
	deep := id
	for range 20 {
		deep = api.Pol{Op: api.Not, Kids: []api.Pol{deep}}
	}
	wantNone(t, "21 levels", deep, api.ErrForm)
}

// R4: what Of answers is the caller's own, and p and the state aren't changed.
func TestOfMemory(t *testing.T) {
	p := parsed(t, "dst=2 ; pt:=3 ; vid:=0 + src=1 ; (pt:=1 + id) + @0=7 ; sw=3")
	was, state := fmt.Sprint(p), []uint16{7, 8}
	wantApart(t, func() []api.Row {
		l, _ := table.Of(p, state)
		return l
	}, nil)
	if fmt.Sprint(p) != was || !slices.Equal(state, []uint16{7, 8}) {
		t.Error(p, state)
	}
}

// wantMade holds that the rows, and those for q's switch, make of q what the policy makes.
func wantMade(t testing.TB, name string, p api.Pol, state []uint16, l []api.Row, q api.Packet) {
	t.Helper()
	want, e := policy.Make(p, state, q)
	if e != api.OK {
		t.Fatal(name, e)
	}
	own := table.At(l, q[0])
	for _, rows := range [][]api.Row{l, own} {
		if got, at := table.Lookup(rows, q); at < 0 || !slices.Equal(got, want) {
			t.Fatalf("%s in %v: %s: of %v %v by %d, want %v", name, state, bars(rows), q, got, at, want)
		}
	}
}

// worlds answers all packets whose sw, pt and dst are below n.
func worlds(n uint16) []api.Packet {
	var l []api.Packet
	for sw := range n {
		for pt := range n {
			for dst := range n {
				l = append(l, api.Packet{sw, pt, 0, dst})
			}
		}
	}
	return l
}

// wantPolicy holds the promises of all rows of a policy.
func wantPolicy(t testing.TB, name string, p api.Pol, state []uint16, l []api.Packet) {
	t.Helper()
	list := wantOf(t, name, p, state)
	for sw := range uint16(4) {
		if own := table.At(list, sw); !table.Right(own) {
			t.Fatalf("%s at %d: %s", name, sw, bars(own))
		}
	}
	for _, q := range l {
		wantMade(t, name, p, state, list, q)
	}
}

// P9.2: all policies of up to three leaves.
func TestSmallPolicies(t *testing.T) {
	leaves := []string{"id", "drop", "sw=1", "!sw=2", "pt=1", "pt:=1", "pt:=2", "dst=1", "dst:=1", "@0=1"}
	l := worlds(3)
	for _, a := range leaves {
		wantPolicy(t, a, parsed(t, a), []uint16{1}, l)
		for _, b := range leaves {
			for _, c := range leaves {
				for _, form := range []string{"a ; b ; c", "a + b ; c", "a ; (b + c)", "a + b + c", "(a + b) ; c"} {
					s := strings.NewReplacer("a", a, "b", b, "c", c).Replace(form)
					wantPolicy(t, s, parsed(t, s), []uint16{1}, l)
				}
			}
		}
	}
}

// anyText answers a policy's text at random: a predicate's, if it is for a not.
func anyText(r *rand.Rand, levels int, predicate bool) string {
	k := r.Intn(10)
	if levels == 0 || k < 2 {
		leaves := []string{"id", "drop", "@0=1", "@1=0", "sw=%", "pt=%", "dst=%", "sw=%", "dst=%", "pt:=%", "dst:=%", "pt:=%"}
		if predicate {
			leaves = leaves[:9]
		}
		return strings.Replace(leaves[r.Intn(len(leaves))], "%", fmt.Sprint(r.Intn(3)), 1)
	}
	if k == 2 {
		return "!(" + anyText(r, levels-1, true) + ")"
	}
	var kids []string
	for range 2 + r.Intn(3) {
		kids = append(kids, anyText(r, levels-1, predicate))
	}
	return "(" + strings.Join(kids, []string{" ; ", " + "}[r.Intn(2)]) + ")"
}

// P9.2: policies of many kinds and sizes, in any state.
func TestPoliciesAtRandom(t *testing.T) {
	r := rand.New(rand.NewSource(8))
	l := worlds(4)
	rows := 0
	for range 3000 {
		s := anyText(r, 1+r.Intn(4), false)
		p := parsed(t, s)
		state := []uint16{uint16(r.Intn(2)), 0, 7, 0, 0}[:r.Intn(6)]
		wantPolicy(t, s, p, state, l)
		rows = max(rows, len(wantOf(t, s, p, state)))
	}
	if rows < 10 {
		t.Error(rows)
	}
}

// P9.2: all fields of packets, and numbers that are unlike by one bit.
func TestFields(t *testing.T) {
	for f, name := range names {
		for _, n := range []uint16{0, 1, 255, 256, 32768, 65535} {
			s := fmt.Sprintf("%s=%d ; pt:=7 ; opt:=%d + !%s=%d ; dst:=%d", name, n, n, name, n, n)
			p := parsed(t, s)
			l := wantOf(t, s, p, nil)
			for bit := range 17 {
				q := api.Packet{11, 12, 13, 14, 15, 16, 17, 18}
				q[f] = n ^ uint16(1<<bit)
				wantMade(t, s, p, nil, l, q)
			}
		}
	}
}

func FuzzOf(f *testing.F) {
	f.Add("dst=1 ; pt:=2 + @0=7 ; sw=1", uint16(7), uint16(1))
	f.Add("!(sw=1 ; dst=5) ; (pt:=1 + dst:=2 ; (src:=1 + id))", uint16(0), uint16(5))
	f.Fuzz(func(t *testing.T, s string, a, b uint16) {
		g, e := syntax.Parse("init 0 0 . policy " + s + " .")
		if e != api.OK {
			return
		}
		state := []uint16{a, b}
		if _, e := table.Of(g.Pol, state); e == api.OK {
			wantPolicy(t, s, g.Pol, state, []api.Packet{{}, {1, a, 0, b}, {a, 1, b, 2, 3, 4, 5, 6}})
		}
	})
}
