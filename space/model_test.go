package space_test

import (
	"fmt"
	"math/rand"
	"slices"
	"strconv"
	"testing"

	"pointsman/api"
	"pointsman/space"
	"pointsman/syntax"
)

// step answers the state behind a rule, and whether the rule goes there and changes it; states are lists of exactly so many parts, told as texts.
func step(r api.Rule, state string, parts int) (string, bool) {
	asked, put := map[int]uint16{}, map[int]uint16{}
	for _, c := range r.Guard {
		asked[c.F] = c.N
	}
	for _, c := range r.Then {
		put[c.F] = c.N
	}
	next := ""
	for part := range parts {
		n := partOf(state, part)
		if want, ok := asked[part]; ok && want != n {
			return "", false
		}
		if to, ok := put[part]; ok {
			n = to
		}
		next += fmt.Sprintf("%05d", n)
	}
	return next, next != state
}

func partOf(state string, part int) uint16 {
	n, _ := strconv.Atoi(state[5*part : 5*part+5])
	return uint16(n)
}

// model explores a program that is well formed by another way: all states first, as a set that grows till it is closed; then their order, by the number of edges from the first one and by what leads to them; then what is round, by the states that lead to themselves in the closure of the edges.
func model(p api.Program) (api.Space, api.Errno) {
	parts := len(p.Init)
	first := ""
	for _, n := range p.Init {
		first += fmt.Sprintf("%05d", n)
	}
	all := map[string]bool{first: true}
	for grown := true; grown; {
		grown = false
		for state := range all {
			for _, r := range p.Rules {
				if next, ok := step(r, state, parts); ok && !all[next] {
					all[next], grown = true, true
				}
			}
		}
		if len(all) > 128 {
			return api.Space{}, api.ErrMany
		}
	}
	order := inOrder(p, first)
	s := spaceOf(p, order)
	if len(order) != len(all) {
		panic("the model's two ways differ")
	}
	if leadsBack(s) {
		return api.Space{}, api.ErrCycle
	}
	return s, api.OK
}

// inOrder answers the states level by level.
func inOrder(p api.Program, first string) []string {
	order, level := []string{first}, []string{first}
	for len(level) > 0 {
		var next []string
		for _, state := range level {
			for _, r := range p.Rules {
				to, ok := step(r, state, len(p.Init))
				if ok && !slices.Contains(order, to) {
					order, next = append(order, to), append(next, to)
				}
			}
		}
		level = next
	}
	return order
}

func spaceOf(p api.Program, order []string) api.Space {
	var s api.Space
	for from, state := range order {
		var l []uint16
		for part := range p.Init {
			l = append(l, partOf(state, part))
		}
		s.States = append(s.States, l)
		for i, r := range p.Rules {
			if to, ok := step(r, state, len(p.Init)); ok {
				s.Edges = append(s.Edges, api.Edge{From: from, Rule: i, To: slices.Index(order, to)})
			}
		}
	}
	return s
}

func leadsBack(s api.Space) bool {
	n := len(s.States)
	leads := make([][]bool, n)
	for i := range leads {
		leads[i] = make([]bool, n)
	}
	for _, e := range s.Edges {
		leads[e.From][e.To] = true
	}
	for via := range n {
		for a := range n {
			for b := range n {
				leads[a][b] = leads[a][b] || leads[a][via] && leads[via][b]
			}
		}
	}
	for i := range n {
		if leads[i][i] {
			return true
		}
	}
	return false
}

// wantModel holds Explore, From and Ends of a well-formed program against the model, and answers what Explore did.
func wantModel(t testing.TB, p api.Program) api.Errno {
	t.Helper()
	want, errno := model(p)
	s, e := space.Explore(p)
	if e != errno || told(s) != told(want) {
		t.Fatalf("%v:\n%s, error %d, want\n%s, error %d", p, told(s), e, told(want), errno)
	}
	wantParts(t, s)
	return e
}

// wantParts holds From and Ends against the edges: those from all states, one behind the other, are all there are.
func wantParts(t testing.TB, s api.Space) {
	t.Helper()
	var edges []api.Edge
	var ends []int
	for state := range s.States {
		l := space.From(s, state)
		if len(l) == 0 {
			ends = append(ends, state)
		}
		edges = append(edges, l...)
	}
	if !slices.Equal(edges, s.Edges) || !slices.Equal(ends, space.Ends(s)) {
		t.Fatalf("%s: from its states %v, ends %v", told(s), edges, space.Ends(s))
	}
}

// smallRules answers all rules of states of so many parts that ask for, and put, numbers below most.
func smallRules(parts, most int) []api.Rule {
	var l []api.Rule
	for _, guard := range smallPairs(parts, most) {
		for _, then := range smallPairs(parts, most) {
			if len(then) > 0 {
				l = append(l, api.Rule{When: []api.Pair{{F: api.Sw}, {F: api.Pt}}, Guard: guard, Then: then})
			}
		}
	}
	return l
}

func smallPairs(parts, most int) [][]api.Pair {
	if parts == 0 {
		return [][]api.Pair{nil}
	}
	var l [][]api.Pair
	for _, short := range smallPairs(parts-1, most) {
		l = append(l, short)
		for n := range most {
			l = append(l, append(slices.Clone(short), api.Pair{F: parts - 1, N: uint16(n)}))
		}
	}
	return l
}

// P11.1: all programs of a few small rules.
func TestSmallPrograms(t *testing.T) {
	for _, c := range []struct{ parts, most, rules int }{{1, 2, 4}, {1, 3, 4}, {2, 2, 2}, {2, 3, 1}, {3, 2, 1}} {
		all := smallRules(c.parts, c.most)
		count := map[api.Errno]int{}
		var each func(l []api.Rule)
		each = func(l []api.Rule) {
			p := api.Program{Init: make([]uint16, c.parts), Pol: api.Pol{Op: api.Id}, Rules: l}
			count[wantModel(t, p)]++
			if len(l) == c.rules {
				return
			}
			for _, r := range all {
				each(append(slices.Clip(l), r))
			}
		}
		each(nil)
		if count[api.OK] == 0 || c.rules > 1 && count[api.ErrCycle] == 0 {
			t.Errorf("%v: %v", c, count)
		}
	}
}

// anyProgram answers a well-formed program with numbers below most; upward, if its rules make parts greater alone, so that nothing is round.
func anyProgram(r *rand.Rand, most int, upward bool) api.Program {
	parts := 1 + r.Intn(4)
	rules := r.Intn(api.MaxRules + 1)
	if most > 4 {
		parts, rules = 4, api.MaxRules
	}
	p := api.Program{Pol: api.Pol{Op: api.Id}}
	for range parts {
		p.Init = append(p.Init, uint16(r.Intn(1+r.Intn(most))))
	}
	for range rules {
		p.Rules = append(p.Rules, anyRule(r, parts, most, upward))
	}
	return p
}

func anyRule(r *rand.Rand, parts, most int, upward bool) api.Rule {
	l := api.Rule{When: []api.Pair{{F: api.Sw, N: 1}, {F: api.Pt, N: 1}}}
	put := r.Intn(parts)
	for part := range parts {
		n := uint16(r.Intn(most))
		isPut := part == put || r.Intn(4) == 0
		if r.Intn(4) == 0 || upward && isPut {
			l.Guard = append(l.Guard, api.Pair{F: part, N: n})
		}
		if isPut {
			to := uint16(r.Intn(most))
			if upward {
				to = n + uint16(r.Intn(3))
			}
			l.Then = append(l.Then, api.Pair{F: part, N: to})
		}
	}
	return l
}

// P11.1: programs at random.
func TestAnyPrograms(t *testing.T) {
	r := rand.New(rand.NewSource(11))
	count := map[api.Errno]int{}
	great := 0
	for i := range 6000 {
		p := anyProgram(r, 1+r.Intn(6), i%3 > 0)
		if e := syntax.Check(p); e != api.OK {
			t.Fatal(p, e)
		}
		was := fmt.Sprint(p)
		count[wantModel(t, p)]++
		if fmt.Sprint(p) != was {
			t.Fatal("changed: ", was)
		}
		if s, _ := space.Explore(p); len(s.States) > 20 {
			great++
		}
	}
	if count[api.OK] < 500 || count[api.ErrMany] < 100 || count[api.ErrCycle] < 500 || great < 20 {
		t.Errorf("too few of a kind: %v, %d great ones", count, great)
	}
}

// P11.1: Goes and After of any rules and states, against what a map of the parts tells.
func TestAnyRules(t *testing.T) {
	r := rand.New(rand.NewSource(12))
	some := func() []api.Pair {
		var l []api.Pair
		for range r.Intn(4) {
			l = append(l, api.Pair{F: r.Intn(7) - 1, N: uint16(r.Intn(2))})
		}
		return l
	}
	for range 20000 {
		rule := api.Rule{When: some(), Guard: some(), Then: some()}
		state, parts := []uint16{}, map[int]uint16{}
		for i := range r.Intn(7) {
			state = append(state, uint16(r.Intn(2)))
			parts[i] = state[i]
		}
		goes := true
		for _, c := range rule.Guard {
			n, ok := parts[c.F]
			goes = goes && ok && n == c.N
		}
		if got := space.Goes(rule, state); got != goes {
			t.Fatalf("%v of %v: %v", rule, state, got)
		}
		for _, c := range rule.Then {
			if _, ok := parts[c.F]; ok {
				parts[c.F] = c.N
			}
		}
		after := space.After(rule, state)
		if len(after) != len(state) {
			t.Fatalf("%v of %v: %v", rule, state, after)
		}
		for i, n := range after {
			if n != parts[i] {
				t.Fatalf("%v of %v: %v", rule, state, after)
			}
		}
	}
}

// bytesRule makes a rule of some bytes, well formed or not.
func bytesRule(b []byte) (api.Rule, []byte) {
	r := api.Rule{When: []api.Pair{{F: api.Sw}, {F: api.Pt}}}
	for len(b) > 0 {
		c := api.Pair{F: int(b[0]>>4&7) - 1, N: uint16(b[0] & 7)}
		isGuard, isLast := b[0]&8 == 0, b[0]&128 != 0
		b = b[1:]
		if isGuard {
			r.Guard = append(r.Guard, c)
		} else {
			r.Then = append(r.Then, c)
		}
		if isLast {
			break
		}
	}
	return r, b
}

// P0, P11.1: any program ends, and is answered as the model does, or as Check says.
func FuzzExplore(f *testing.F) {
	f.Add(byte(0), []byte{})
	f.Add(byte(1), []byte("\x10\x99\x11\x9a"))
	f.Add(byte(2), []byte("\x10\x99\x20\xa9\x11\x21\x98"))
	f.Add(byte(4), []byte("\x99\x9a\x9b\xa9\xaa\xab\xb9\xba\xbb"))
	f.Fuzz(func(t *testing.T, parts byte, b []byte) {
		p := api.Program{Init: make([]uint16, parts%6), Pol: api.Pol{Op: api.Id}}
		for len(b) > 0 && len(p.Rules) < 30 {
			var r api.Rule
			r, b = bytesRule(b)
			p.Rules = append(p.Rules, r)
			space.Goes(r, p.Init)
			space.After(r, p.Init)
		}
		if e := syntax.Check(p); e != api.OK {
			wantNone(t, "not well formed", p, e)
			return
		}
		wantModel(t, p)
	})
}
