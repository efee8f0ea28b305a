package show_test

import (
	"fmt"
	"math"
	"math/rand"
	"reflect"
	"slices"
	"strings"
	"testing"

	"pointsman/api"
	"pointsman/show"
	"pointsman/syntax"
)

var fieldNames = []string{"sw", "pt", "src", "dst", "typ", "svc", "vid", "opt"}

// lengths: numbers of each length, the least and the greatest.
var lengths = []uint16{0, 1, 9, 10, 99, 100, 999, 1000, 9999, 10000, 65535}

func test(f int, n uint16) api.Pol      { return api.Pol{Op: api.Test, F: f, N: n} }
func put(f int, n uint16) api.Pol       { return api.Pol{Op: api.Put, F: f, N: n} }
func state(f int, n uint16) api.Pol     { return api.Pol{Op: api.State, F: f, N: n} }
func not(p api.Pol) api.Pol             { return api.Pol{Op: api.Not, Kids: []api.Pol{p}} }
func seq(l ...api.Pol) api.Pol          { return api.Pol{Op: api.Seq, Kids: l} }
func sum(l ...api.Pol) api.Pol          { return api.Pol{Op: api.Sum, Kids: l} }
func identity() api.Pol                 { return api.Pol{Op: api.Id} }
func dropAll() api.Pol                  { return api.Pol{Op: api.Drop} }
func ids(n int) []api.Pol               { return slices.Repeat([]api.Pol{identity()}, n) }
func pair(f int, n uint16) api.Pair     { return api.Pair{F: f, N: n} }
func pairs(l ...api.Pair) []api.Pair    { return l }
func port() []api.Pair                  { return pairs(pair(0, 1), pair(1, 2)) }
func first() []api.Pair                 { return pairs(pair(0, 1)) }
func plainRule() api.Rule               { return api.Rule{When: port(), Then: first()} }
func bare(p api.Pol) api.Program        { return api.Program{Init: make([]uint16, 4), Pol: p} }
func sameProgram(a, b api.Program) bool { return reflect.DeepEqual(copied(a), copied(b)) }

// copied answers p in new memory, with empty lists being nil all the way down: an empty list may be either.
func copied(p api.Program) api.Program {
	q := api.Program{Init: copiedList(p.Init), Pol: copiedPol(p.Pol), Rules: copiedList(p.Rules)}
	for i, r := range q.Rules {
		q.Rules[i] = api.Rule{When: copiedList(r.When), Guard: copiedList(r.Guard), Then: copiedList(r.Then)}
	}
	return q
}

func copiedList[T any](l []T) []T {
	return append([]T(nil), l...)
}

func copiedPol(p api.Pol) api.Pol {
	p.Kids = copiedList(p.Kids)
	for i := range p.Kids {
		p.Kids[i] = copiedPol(p.Kids[i])
	}
	return p
}

// brief tells the beginning of what may be too long to be read in a test's words.
func brief(v any) string {
	s := fmt.Sprintf("%+v", v)
	return s[:min(len(s), 400)]
}

// How close a node's text holds together.
const (
	loose = iota
	likeSeq
	likeAtom
)

// wordsOf answers a policy's text by its words, in another way than show: brackets are words by themselves, and stand where the node isn't as tight as its place asks.
func wordsOf(p api.Pol, tight int) []string {
	var l []string
	is := likeAtom
	switch p.Op {
	case api.Drop:
		l = []string{"drop"}
	case api.Id:
		l = []string{"id"}
	case api.Test:
		l = []string{fmt.Sprintf("%s=%d", fieldNames[p.F], p.N)}
	case api.Put:
		l = []string{fmt.Sprintf("%s:=%d", fieldNames[p.F], p.N)}
	case api.State:
		l = []string{fmt.Sprintf("@%d=%d", p.F, p.N)}
	case api.Not:
		l = append([]string{"!"}, wordsOf(p.Kids[0], likeAtom)...)
	case api.Seq:
		is = likeSeq
		for _, k := range p.Kids {
			l = append(append(l, ";"), wordsOf(k, likeAtom)...)
		}
		l = l[1:]
	case api.Sum:
		is = loose
		for _, k := range p.Kids {
			l = append(append(l, "+"), wordsOf(k, likeSeq)...)
		}
		l = l[1:]
	}
	if is < tight {
		l = append(append([]string{"("}, l...), ")")
	}
	return l
}

func policyOf(p api.Pol) string {
	return strings.NewReplacer("( ", "(", " )", ")", "! ", "!").Replace(strings.Join(wordsOf(p, loose), " "))
}

func ruleOf(r api.Rule) string {
	s := "on"
	for _, c := range r.When {
		s += fmt.Sprintf(" %s=%d &", fieldNames[c.F], c.N)
	}
	for _, c := range r.Guard {
		s += fmt.Sprintf(" @%d=%d &", c.F, c.N)
	}
	s = s[:len(s)-1] + "=>"
	for _, c := range r.Then {
		s += fmt.Sprintf(" @%d:=%d &", c.F, c.N)
	}
	return s[:len(s)-1] + "."
}

func programOf(p api.Program) string {
	s := fmt.Sprintf("init %s .\npolicy %s .\n", strings.Trim(fmt.Sprint(p.Init), "[]"), policyOf(p.Pol))
	for _, r := range p.Rules {
		s += ruleOf(r) + "\n"
	}
	return s
}

// wantProgram holds that a program's text is this one, that it is parsed as p if it isn't too long, and that p is left as it was.
func wantProgram(t *testing.T, p api.Program, want string) {
	t.Helper()
	was := copied(p)
	got := show.Program(p)
	if got != want {
		t.Errorf("Program(%s) = %q, want %q", brief(p), brief(got), brief(want))
	}
	if !sameProgram(p, was) {
		t.Errorf("Program changed %s", brief(was))
	}
	if got == "" {
		return
	}
	q, e := syntax.Parse(got)
	switch {
	case len(got) > 4000:
		if e != api.ErrLong {
			t.Errorf("%d bytes: %v", len(got), e)
		}
	case e != api.OK || !sameProgram(p, q):
		t.Errorf("Parse(%q) = %s %v, want %s", brief(got), brief(q), e, brief(p))
	}
}

// wantPol holds that a policy's text is this one, alone and in a program.
func wantPol(t *testing.T, p api.Pol, want string) {
	t.Helper()
	was := copiedPol(p)
	if got := show.Pol(p); got != want {
		t.Errorf("Pol(%s) = %q, want %q", brief(p), brief(got), brief(want))
	}
	if !reflect.DeepEqual(copiedPol(p), was) {
		t.Errorf("Pol changed %s", brief(was))
	}
	if want != "" {
		want = "init 0 0 0 0 .\npolicy " + want + " .\n"
	}
	wantProgram(t, bare(p), want)
}

// wantRule holds that a rule's line is this one, alone and in a program.
func wantRule(t *testing.T, r api.Rule, want string) {
	t.Helper()
	p := bare(identity())
	p.Rules = []api.Rule{r}
	was := copied(p)
	if got := show.Rule(r); got != want {
		t.Errorf("Rule(%+v) = %q, want %q", r, got, want)
	}
	if !sameProgram(p, was) {
		t.Errorf("Rule changed %+v", was.Rules)
	}
	if want != "" {
		want = "init 0 0 0 0 .\npolicy id .\n" + want + "\n"
	}
	wantProgram(t, p, want)
}

// P6.1, P6.2: each kind of node, and each kind within each.
func TestPolByHand(t *testing.T) {
	a, b, c := test(3, 1), test(4, 2), put(5, 3)
	for want, p := range map[string]api.Pol{
		"id":                                     identity(),
		"drop":                                   dropAll(),
		"dst=1":                                  a,
		"svc:=3":                                 c,
		"@3=7":                                   state(3, 7),
		"!id":                                    not(identity()),
		"!drop":                                  not(dropAll()),
		"!dst=1":                                 not(a),
		"!@0=0":                                  not(state(0, 0)),
		"!!@1=3":                                 not(not(state(1, 3))),
		"dst=2 ; (pt:=1 + pt:=2) + !(id + drop)": sum(seq(test(3, 2), sum(put(1, 1), put(1, 2))), not(sum(identity(), dropAll()))),
		"dst=1 + typ=2":                          sum(a, b),
		"dst=1 ; typ=2":                          seq(a, b),
		"dst=1 + typ=2 + svc:=3":                 sum(a, b, c),
		"dst=1 ; typ=2 ; svc:=3":                 seq(a, b, c),
		"(dst=1 + typ=2) + svc:=3":               sum(sum(a, b), c),
		"dst=1 + (typ=2 + svc:=3)":               sum(a, sum(b, c)),
		"(dst=1 ; typ=2) ; svc:=3":               seq(seq(a, b), c),
		"dst=1 ; (typ=2 ; svc:=3)":               seq(a, seq(b, c)),
		"dst=1 ; typ=2 + svc:=3":                 sum(seq(a, b), c),
		"dst=1 + typ=2 ; svc:=3":                 sum(a, seq(b, c)),
		"dst=1 ; (typ=2 + svc:=3)":               seq(a, sum(b, c)),
		"(dst=1 + typ=2) ; svc:=3":               seq(sum(a, b), c),
		"!(dst=1 + typ=2)":                       not(sum(a, b)),
		"!(dst=1 ; typ=2)":                       not(seq(a, b)),
		"!!(dst=1 ; typ=2)":                      not(not(seq(a, b))),
		"!(!(dst=1 + typ=2) ; id)":               not(seq(not(sum(a, b)), identity())),
		"!dst=1 ; typ=2":                         seq(not(a), b),
		"!dst=1 + !typ=2":                        sum(not(a), not(b)),
		"(dst=1 ; typ=2) ; (id + id ; id)":       seq(seq(a, b), sum(identity(), seq(identity(), identity()))),
		"(dst=1 ; typ=2 + id) + drop ; id":       sum(sum(seq(a, b), identity()), seq(dropAll(), identity())),
		"(src=1 ; dst=2) ; typ=3 + (id + id)":    sum(seq(seq(test(2, 1), test(3, 2)), test(4, 3)), sum(identity(), identity())),
		"id ; (id ; (id ; (id + (id + id))))":    seq(identity(), seq(identity(), seq(identity(), sum(identity(), sum(identity(), identity()))))),
	} {
		wantPol(t, p, want)
	}
}

// P6.1, P6.2: each field and part, with numbers of each length; no text of a field or part that there isn't.
func TestPolFields(t *testing.T) {
	for _, n := range lengths {
		for f, name := range fieldNames {
			wantPol(t, test(f, n), fmt.Sprintf("%s=%d", name, n))
			if f != api.Sw {
				wantPol(t, put(f, n), fmt.Sprintf("%s:=%d", name, n))
			}
		}
		for f := range 4 {
			wantPol(t, state(f, n), fmt.Sprintf("@%d=%d", f, n))
		}
		wantPol(t, put(api.Sw, n), "")
		for _, f := range []int{-1, 8, 9, 255, 256, 65536, math.MinInt, math.MaxInt} {
			wantPol(t, test(f, n), "")
			wantPol(t, put(f, n), "")
		}
		for _, f := range []int{-1, 4, 5, 8, 65536, math.MinInt, math.MaxInt} {
			wantPol(t, state(f, n), "")
		}
	}
}

// polsOf answers every policy of so many nodes, of sums and sequences of two and three kids, of nots, and of an atom.
func polsOf(nodes int, known map[int][]api.Pol) []api.Pol {
	if nodes == 1 {
		return []api.Pol{test(3, 1)}
	}
	if l, there := known[nodes]; there {
		return l
	}
	var l []api.Pol
	for _, k := range polsOf(nodes-1, known) {
		l = append(l, not(k))
	}
	for a := 1; a < nodes-1; a++ {
		for _, x := range polsOf(a, known) {
			for _, y := range polsOf(nodes-1-a, known) {
				l = append(l, sum(x, y), seq(x, y))
			}
			for b := 1; b < nodes-1-a; b++ {
				for _, y := range polsOf(b, known) {
					for _, z := range polsOf(nodes-1-a-b, known) {
						l = append(l, sum(x, y, z), seq(x, y, z))
					}
				}
			}
		}
	}
	known[nodes] = l
	return l
}

// P6.1, P6.2: every policy of a few nodes, held against the model; no two have one text.
func TestPolShapes(t *testing.T) {
	seen := map[string]bool{}
	known := map[int][]api.Pol{}
	for nodes := 1; nodes <= 9; nodes++ {
		for _, p := range polsOf(nodes, known) {
			s := policyOf(p)
			wantPol(t, p, s)
			if seen[s] {
				t.Errorf("%s is the text of two policies", s)
			}
			seen[s] = true
		}
	}
	if len(seen) < 2000 {
		t.Errorf("%d policies were tried", len(seen))
	}
}

// wantNoPol holds that p has no text, wherever it stands.
func wantNoPol(t *testing.T, p api.Pol) {
	t.Helper()
	wantPol(t, p, "")
	wantPol(t, sum(identity(), p), "")
	wantPol(t, seq(p, identity()), "")
	wantPol(t, not(p), "")
	wantPol(t, seq(identity(), sum(identity(), seq(p, identity()))), "")
}

// P6.1: of a policy that isn't well formed, at any node, there is no text.
func TestPolNotFormed(t *testing.T) {
	for _, op := range []int{-1, 8, 9, 256, math.MinInt, math.MaxInt} {
		wantNoPol(t, api.Pol{Op: op})
		wantNoPol(t, api.Pol{Op: op, Kids: ids(2)})
	}
	for _, op := range []int{api.Drop, api.Id, api.Test, api.State, api.Put} {
		wantNoPol(t, api.Pol{Op: op, F: 1, N: 1, Kids: ids(1)})
		wantNoPol(t, api.Pol{Op: op, Kids: ids(2)})
	}
	for _, op := range []int{api.Seq, api.Sum} {
		wantNoPol(t, api.Pol{Op: op})
		wantNoPol(t, api.Pol{Op: op, Kids: ids(1)})
		wantNoPol(t, api.Pol{Op: op, F: 1, Kids: ids(2)})
		wantNoPol(t, api.Pol{Op: op, N: 1, Kids: ids(2)})
	}
	wantNoPol(t, api.Pol{Op: api.Not})
	wantNoPol(t, api.Pol{Op: api.Not, Kids: ids(2)})
	wantNoPol(t, api.Pol{Op: api.Not, F: 1, Kids: ids(1)})
	wantNoPol(t, api.Pol{Op: api.Not, N: 1, Kids: ids(1)})
	for _, op := range []int{api.Drop, api.Id} {
		wantNoPol(t, api.Pol{Op: op, F: 1})
		wantNoPol(t, api.Pol{Op: op, F: -1})
		wantNoPol(t, api.Pol{Op: op, N: 1})
	}
	wantNoPol(t, not(put(1, 1)))
	wantNoPol(t, not(sum(identity(), put(1, 1))))
	wantNoPol(t, not(seq(identity(), seq(put(1, 1), identity()))))
	wantNoPol(t, not(not(put(1, 1))))
	wantNoPol(t, put(api.Sw, 0))
	wantNoPol(t, state(4, 0))
	wantNoPol(t, state(-1, 0))
	wantPol(t, api.Pol{Op: api.Id, Kids: []api.Pol{}}, "id")
}

// chain answers a policy that is so deep, of nots, of sums, or of sums and sequences in turns.
func chain(depth int, kind int) api.Pol {
	p := identity()
	for i := range depth - 1 {
		switch {
		case kind == 0:
			p = not(p)
		case kind == 1 || i%2 == 0:
			p = sum(identity(), p)
		default:
			p = seq(p, identity())
		}
	}
	return p
}

// P6.1, P6.2: as many nodes, and as many levels, as there may be, and one more.
func TestPolLimits(t *testing.T) {
	want := func(p api.Pol, isFormed bool) string {
		if !isFormed {
			return ""
		}
		return policyOf(p)
	}
	for depth := 1; depth <= 25; depth++ {
		for kind := range 3 {
			p := chain(depth, kind)
			wantPol(t, p, want(p, depth <= 20))
		}
	}
	for nodes := 290; nodes <= 310; nodes++ {
		for _, p := range []api.Pol{
			sum(ids(nodes - 1)...), seq(ids(nodes - 1)...), not(sum(ids(nodes - 2)...)),
			seq(sum(ids(100)...), sum(ids(nodes-103)...)), sum(seq(ids(100)...), seq(ids(nodes-103)...)),
		} {
			wantPol(t, p, want(p, nodes <= 300))
		}
	}
	wantPol(t, sum(ids(299)...), "id"+strings.Repeat(" + id", 298))
	wantPol(t, seq(ids(299)...), "id"+strings.Repeat(" ; id", 298))
	wantPol(t, chain(20, 0), strings.Repeat("!", 19)+"id")
	wantPol(t, chain(20, 1), strings.Repeat("id + (", 18)+"id + id"+strings.Repeat(")", 18))
}

// P0: each call ends, of kids that are shared so often that there is no counting them, and of a policy that is its own kid.
func TestEnds(t *testing.T) {
	p := identity()
	for range 1000 {
		p = sum(p, p)
	}
	kids := ids(2)
	kids[1] = api.Pol{Op: api.Seq, Kids: kids}
	for _, p := range []api.Pol{p, kids[1]} {
		if show.Pol(p) != "" || show.Program(bare(p)) != "" {
			t.Error("a text of what has no end")
		}
	}
	many := api.Rule{When: make([]api.Pair, 1<<16), Guard: make([]api.Pair, 1<<16), Then: make([]api.Pair, 1<<16)}
	if show.Rule(many) != "" {
		t.Error("a text of a rule with too many fields")
	}
}

// P6.1, P6.2: what a rule asks and makes, in their order.
func TestRuleByHand(t *testing.T) {
	for want, r := range map[string]api.Rule{
		"on sw=1 & pt=2 => @0:=1 .":                                   plainRule(),
		"on sw=1 & pt=2 & opt=0 => @0:=1 .":                           {When: append(port(), pair(7, 0)), Then: first()},
		"on sw=1 & pt=2 & @0=1 => @0:=1 .":                            {When: port(), Guard: first(), Then: first()},
		"on sw=1 & pt=2 => @3:=0 .":                                   {When: port(), Guard: []api.Pair{}, Then: pairs(pair(3, 0))},
		"on sw=1 & pt=2 & dst=9 & @0=0 => @0:=1 & @1:=2 .":            {When: append(port(), pair(3, 9)), Guard: pairs(pair(0, 0)), Then: pairs(pair(0, 1), pair(1, 2))},
		"on sw=1 & pt=2 & src=3 & vid=4 & @1=5 & @3=6 => @2:=65535 .": {When: append(port(), pair(2, 3), pair(6, 4)), Guard: pairs(pair(1, 5), pair(3, 6)), Then: pairs(pair(2, 65535))},
	} {
		wantRule(t, r, want)
	}
	for _, n := range lengths {
		wantRule(t, api.Rule{When: pairs(pair(0, n), pair(1, n)), Guard: pairs(pair(2, n)), Then: pairs(pair(3, n))}, fmt.Sprintf("on sw=%d & pt=%d & @2=%d => @3:=%d .", n, n, n, n))
	}
}

// chosen answers pairs of the fields, from least on, whose bits are set.
func chosen(bits, least, end int) []api.Pair {
	var l []api.Pair
	for f := least; f < end; f++ {
		if bits>>(f-least)&1 == 1 {
			l = append(l, pair(f, lengths[(bits+f)%len(lengths)]))
		}
	}
	return l
}

// P6.1, P6.2: rules with each set of fields and parts, held against the model; none has a byte 10.
func TestRuleFields(t *testing.T) {
	for when := range 1 << 6 {
		for guard := range 1 << 4 {
			for then := 1; then < 1<<4; then++ {
				r := api.Rule{When: append(port(), chosen(when, 2, 8)...), Guard: chosen(guard, 0, 4), Then: chosen(then, 0, 4)}
				wantRule(t, r, ruleOf(r))
				if strings.Contains(show.Rule(r), "\n") {
					t.Errorf("%q has more than a line", show.Rule(r))
				}
			}
		}
	}
}

// P6.1: of a rule that isn't well formed, with as many parts as there may be, there is no text.
func TestRuleNotFormed(t *testing.T) {
	wantRule(t, api.Rule{}, "")
	for _, when := range [][]api.Pair{
		nil, {}, pairs(pair(0, 1)), pairs(pair(1, 2)), pairs(pair(1, 2), pair(0, 1)), pairs(pair(0, 1), pair(0, 1)), pairs(pair(0, 1), pair(2, 1)), pairs(pair(1, 2), pair(2, 1)),
		append(port(), pair(8, 0)), append(port(), pair(-1, 0)), append(port(), pair(1, 2)), append(port(), pair(3, 1), pair(3, 1)), append(port(), pair(4, 1), pair(3, 1)),
		append(pairs(pair(-1, 0)), port()...), append(port(), pair(math.MaxInt, 0)), append(port(), pair(math.MinInt, 0)),
	} {
		wantRule(t, api.Rule{When: when, Then: first()}, "")
	}
	for _, parts := range [][]api.Pair{
		pairs(pair(-1, 0)), pairs(pair(4, 0)), pairs(pair(0, 1), pair(4, 0)), pairs(pair(0, 1), pair(0, 1)), pairs(pair(0, 1), pair(0, 2)), pairs(pair(2, 0), pair(1, 0)),
		pairs(pair(0, 0), pair(1, 0), pair(2, 0), pair(3, 0), pair(4, 0)), pairs(pair(math.MaxInt, 0)), pairs(pair(math.MinInt, 0)),
	} {
		wantRule(t, api.Rule{When: port(), Guard: parts, Then: first()}, "")
		wantRule(t, api.Rule{When: port(), Then: parts}, "")
	}
	wantRule(t, api.Rule{When: port(), Guard: first()}, "")
	wantRule(t, api.Rule{When: port(), Guard: first(), Then: []api.Pair{}}, "")
}

// P6.1, P6.2: whole programs, line by line.
func TestProgramByHand(t *testing.T) {
	wantProgram(t, api.Program{Init: []uint16{0}, Pol: identity()}, "init 0 .\npolicy id .\n")
	wantProgram(t, api.Program{Init: []uint16{65535}}, "init 65535 .\npolicy drop .\n")
	wantProgram(t, api.Program{Init: lengths[1:4], Pol: identity(), Rules: []api.Rule{}}, "init 1 9 10 .\npolicy id .\n")
	wantProgram(t, api.Program{
		Init: []uint16{0, 7},
		Pol:  seq(test(0, 1), put(1, 65535)),
		Rules: []api.Rule{
			{When: append(port(), pair(3, 9)), Guard: pairs(pair(0, 0)), Then: pairs(pair(0, 1), pair(1, 2))},
			{When: pairs(pair(0, 2), pair(1, 1)), Then: pairs(pair(1, 0))},
		},
	}, "init 0 7 .\npolicy sw=1 ; pt:=65535 .\non sw=1 & pt=2 & dst=9 & @0=0 => @0:=1 & @1:=2 .\non sw=2 & pt=1 => @1:=0 .\n")
	wantProgram(t, api.Program{
		Init:  []uint16{3, 0, 10000, 65535},
		Pol:   sum(seq(state(3, 0), put(7, 0)), not(sum(state(0, 1), dropAll()))),
		Rules: []api.Rule{plainRule(), plainRule()},
	}, "init 3 0 10000 65535 .\npolicy @3=0 ; opt:=0 + !(@0=1 + drop) .\non sw=1 & pt=2 => @0:=1 .\non sw=1 & pt=2 => @0:=1 .\n")
}

// P6.1: of a program that isn't well formed there is no text: of its own parts, not of as many as there may be.
func TestProgramNotFormed(t *testing.T) {
	wantProgram(t, api.Program{}, "")
	for n := range 40 {
		p := api.Program{Init: make([]uint16, n), Pol: identity()}
		want := "init" + strings.Repeat(" 0", n) + " .\npolicy id .\n"
		if n < 1 || n > 4 {
			want = ""
		}
		wantProgram(t, p, want)
		p = bare(identity())
		p.Rules = slices.Repeat([]api.Rule{plainRule()}, n)
		want = "init 0 0 0 0 .\npolicy id .\n" + strings.Repeat("on sw=1 & pt=2 => @0:=1 .\n", n)
		if n > 24 {
			want = ""
		}
		wantProgram(t, p, want)
	}
	for parts := 1; parts <= 4; parts++ {
		for part := range 5 {
			asked := pairs(pair(part, 1))
			for _, p := range []api.Program{
				{Pol: state(part, 1)},
				{Pol: sum(identity(), not(state(part, 1)))},
				{Rules: []api.Rule{plainRule(), {When: port(), Guard: asked, Then: first()}}},
				{Rules: []api.Rule{{When: port(), Then: asked}, plainRule()}},
			} {
				p.Init = make([]uint16, parts)
				want := ""
				if part < parts {
					want = programOf(p)
				}
				wantProgram(t, p, want)
			}
		}
	}
	for _, bad := range []int{0, 1, 23} {
		p := bare(identity())
		p.Rules = slices.Repeat([]api.Rule{plainRule()}, 24)
		wantProgram(t, p, programOf(p))
		p.Rules[bad] = api.Rule{When: port()}
		wantProgram(t, p, "")
	}
}

func randomNumber(r *rand.Rand) uint16 {
	if r.Intn(2) == 0 {
		return lengths[r.Intn(len(lengths))]
	}
	return uint16(r.Intn(1 << 16))
}

// randomPol answers a well formed policy with so many levels at most.
func randomPol(r *rand.Rand, levels, parts int, predicate bool) api.Pol {
	if levels <= 1 || r.Intn(5) == 0 {
		switch n := randomNumber(r); r.Intn(6) {
		case 0:
			return dropAll()
		case 1:
			return state(r.Intn(parts), n)
		case 2:
			return test(r.Intn(8), n)
		case 3, 4:
			if !predicate {
				return put(1+r.Intn(7), n)
			}
		}
		return identity()
	}
	if r.Intn(4) == 0 {
		return not(randomPol(r, levels-1, parts, true))
	}
	p := api.Pol{Op: api.Seq + r.Intn(2)}
	for range 2 + r.Intn(3) {
		p.Kids = append(p.Kids, randomPol(r, levels-1, parts, predicate))
	}
	return p
}

// randomPairs answers a rising list of such fields.
func randomPairs(r *rand.Rand, from, end int) []api.Pair {
	var l []api.Pair
	for f := from; f < end; f++ {
		if r.Intn(3) == 0 {
			l = append(l, pair(f, randomNumber(r)))
		}
	}
	return l
}

func randomProgram(r *rand.Rand) api.Program {
	parts := 1 + r.Intn(4)
	p := api.Program{Pol: randomPol(r, 1+r.Intn(6), parts, false)}
	for range parts {
		p.Init = append(p.Init, randomNumber(r))
	}
	for range r.Intn(25) {
		then := r.Intn(parts)
		p.Rules = append(p.Rules, api.Rule{
			When:  append(pairs(pair(0, randomNumber(r)), pair(1, randomNumber(r))), randomPairs(r, 2, 8)...),
			Guard: randomPairs(r, 0, parts),
			Then:  append(pairs(pair(then, randomNumber(r))), randomPairs(r, then+1, parts)...),
		})
	}
	return p
}

// P6.1, P6.2: programs at random, held against the model and parsed again.
func TestProgramRandom(t *testing.T) {
	r := rand.New(rand.NewSource(6))
	formed, long := 0, 0
	for range 5000 {
		p := randomProgram(r)
		want := programOf(p)
		if syntax.Size(p.Pol) > 300 {
			want = ""
		}
		wantProgram(t, p, want)
		if want != "" {
			formed++
		}
		if len(want) > 4000 {
			long++
		}
		for _, rule := range p.Rules {
			if got := show.Rule(rule); got != ruleOf(rule) {
				t.Errorf("Rule(%+v) = %q", rule, got)
			}
		}
	}
	if formed-long < 3000 {
		t.Errorf("%d texts were told, %d of them too long", formed, long)
	}
}

// longAs answers a program with a text of so many bytes, of about 2400 or more.
func longAs(bytes int) api.Program {
	p := api.Program{Init: []uint16{0}, Pol: sum(ids(299)...)}
	for i := range 24 {
		p.Rules = append(p.Rules, api.Rule{When: port(), Guard: pairs(pair(0, uint16(i))), Then: first()})
	}
	missing := bytes - len(programOf(p))
	for i := 0; missing > 4; i++ {
		if missing >= 7 {
			p.Pol.Kids[i] = test(3, 10000)
			missing -= len("dst=10000") - len("id")
		} else {
			p.Pol.Kids[i] = dropAll()
			missing -= len("drop") - len("id")
		}
	}
	p.Init[0] = []uint16{9, 99, 999, 9999, 65535}[missing]
	return p
}

// P6.2: programs' texts of as many bytes as a text may have, of fewer and of more: what is too long is told whole, but isn't parsed.
func TestProgramLength(t *testing.T) {
	for bytes := 3980; bytes <= 4020; bytes++ {
		p := longAs(bytes)
		if n := len(show.Program(p)); n != bytes {
			t.Errorf("%d bytes, want %d", n, bytes)
		}
		wantProgram(t, p, programOf(p))
	}
	// All that a program may have, and all of it as long as may be.
	p := api.Program{Init: slices.Repeat([]uint16{65535}, 4), Pol: sum(slices.Repeat([]api.Pol{put(7, 65535)}, 299)...)}
	r := api.Rule{}
	for f := range 8 {
		r.When = append(r.When, pair(f, 65535))
	}
	for f := range 4 {
		r.Guard = append(r.Guard, pair(f, 65535))
		r.Then = append(r.Then, pair(f, 65535))
	}
	p.Rules = slices.Repeat([]api.Rule{r}, 24)
	wantProgram(t, p, programOf(p))
	wantRule(t, r, "on sw=65535 & pt=65535 & src=65535 & dst=65535 & typ=65535 & svc=65535 & vid=65535 & opt=65535 & @0=65535 & @1=65535 & @2=65535 & @3=65535 => @0:=65535 & @1:=65535 & @2:=65535 & @3:=65535 .")
}

// R4: what is handed in is left as it is, behind the ends of its lists, too.
func TestMemory(t *testing.T) {
	p := api.Program{Init: make([]uint16, 2, 9), Pol: api.Pol{Op: api.Sum, Kids: make([]api.Pol, 2, 9)}, Rules: make([]api.Rule, 1, 9)}
	p.Rules[0] = api.Rule{When: make([]api.Pair, 2, 9), Guard: make([]api.Pair, 1, 9), Then: make([]api.Pair, 2, 9)}
	r := p.Rules[0]
	r.When[1].F, r.Then[1].F = 1, 1
	wantProgram(t, p, "init 0 0 .\npolicy drop + drop .\non sw=0 & pt=0 & @0=0 => @0:=0 & @1:=0 .\n")
	wantPol(t, p.Pol, "drop + drop")
	wantRule(t, r, "on sw=0 & pt=0 & @0=0 => @0:=0 & @1:=0 .")
	isZero := func(l any, n int) bool {
		return reflect.DeepEqual(l, reflect.MakeSlice(reflect.TypeOf(l), n, n).Interface())
	}
	if !isZero(p.Init[:9], 9) || !isZero(p.Pol.Kids[:9], 9) || !isZero(p.Rules[1:9], 8) || !isZero(r.When[2:9], 7) || !isZero(r.Guard[:9], 9) || !isZero(r.Then[2:9], 7) {
		t.Errorf("%+v", p)
	}
}

// P6.2: of any bytes that are a program's text, that program's text is parsed as it again, and shown as it was.
func FuzzProgram(f *testing.F) {
	for _, s := range []string{
		"", "init 0 . policy @0=0 ; dst=2 ; pt:=1 . on sw=1 & pt=2 => @0:=1 .",
		"init 0 1 . let x = 2 . policy (dst=x + !(@1=0 ; id)) ; pt:=1 . on sw=1 & pt=x & @0=1 => @0:=1 & @1:=x .",
		"init 9 . policy ((id)) + (drop + (id ; id)) ; ((id ; id) ; id) .",
	} {
		f.Add(s)
	}
	f.Fuzz(func(t *testing.T, s string) {
		p, e := syntax.Parse(s)
		if e == api.OK {
			wantProgram(t, p, programOf(p))
		}
	})
}
