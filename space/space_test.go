package space_test

import (
	"fmt"
	"math"
	"slices"
	"strings"
	"testing"

	"pointsman/api"
	"pointsman/space"
	"pointsman/syntax"
)

// noParts lists numbers that are no part's of a state of four.
var noParts = []int{-1, 4, 5, 8, 256, 65536, math.MinInt, math.MaxInt}

// program answers the program whose state begins with init, and whose rules are these: "0=1 1=2 > 0:=3 1:=4" is one that asks two things of the state.
func program(t testing.TB, init string, rules ...string) api.Program {
	t.Helper()
	p, e := syntax.Parse("init " + init + " . policy id .")
	if e != api.OK {
		t.Fatalf("init %s: error %d", init, e)
	}
	for _, s := range rules {
		p.Rules = append(p.Rules, rule(t, s))
	}
	return p
}

func rule(t testing.TB, s string) api.Rule {
	t.Helper()
	guard, then, ok := strings.Cut(s, ">")
	if !ok {
		t.Fatalf("no rule: %s", s)
	}
	return api.Rule{When: []api.Pair{{F: api.Sw, N: 1}, {F: api.Pt, N: 1}}, Guard: pairs(t, guard, "="), Then: pairs(t, then, ":=")}
}

func pairs(t testing.TB, s, sign string) []api.Pair {
	t.Helper()
	var l []api.Pair
	for _, w := range strings.Fields(s) {
		var c api.Pair
		if n, e := fmt.Sscanf(w, "%d"+sign+"%d", &c.F, &c.N); n != 2 || e != nil {
			t.Fatalf("no pair: %s", w)
		}
		l = append(l, c)
	}
	return l
}

// told tells a space as "0,0 1,0 | 0-0-1": its states, and its edges as from, rule, to.
func told(s api.Space) string {
	var states, edges []string
	for _, state := range s.States {
		states = append(states, numbers(state))
	}
	for _, e := range s.Edges {
		edges = append(edges, fmt.Sprintf("%d-%d-%d", e.From, e.Rule, e.To))
	}
	return strings.TrimSpace(strings.Join(states, " ") + " | " + strings.Join(edges, " "))
}

func numbers[T any](l []T) string {
	return strings.ReplaceAll(strings.Trim(fmt.Sprint(l), "[]"), " ", ",")
}

func wantSpace(t testing.TB, name string, p api.Program, want string) api.Space {
	t.Helper()
	s, e := space.Explore(p)
	if e != api.OK {
		t.Fatalf("%s: error %d, want %s", name, e, want)
	}
	if got := told(s); got != want {
		t.Fatalf("%s:\n%s, want\n%s", name, got, want)
	}
	return s
}

func wantNone(t testing.TB, name string, p api.Program, want api.Errno) {
	t.Helper()
	s, e := space.Explore(p)
	if e != want || s.States != nil || s.Edges != nil {
		t.Fatalf("%s: %s, error %d, want error %d alone", name, told(s), e, want)
	}
}

// P11.1: the states in the order in which they are met, and the edges.
func TestExplore(t *testing.T) {
	for _, c := range []struct {
		init, rules, want string
	}{
		{"7", "", "7 |"},
		{"7 0 65535 7", "", "7,0,65535,7 |"},
		// Rules that never go.
		{"0", "0=1 > 0:=2", "0 |"},
		{"0 1", "0=0 1=0 > 0:=2; 0=1 1=1 > 0:=2", "0,1 |"},
		{"0", "0=0 > 0:=1; 0=2 > 0:=3", "0 1 | 0-0-1"},
		// Rules that go and change nothing.
		{"0", "> 0:=0", "0 |"},
		{"0 1", "0=0 1=1 > 0:=0 1:=1", "0,1 |"},
		{"0", "> 0:=1", "0 1 | 0-0-1"},
		{"0 0", "> 0:=1 1:=0", "0,0 1,0 | 0-0-1"},
		{"0", "0=0 > 0:=0; 0=0 > 0:=1; 0=1 > 0:=1", "0 1 | 0-1-1"},
		// The chapter's: three states, two edges.
		{"0", "0=0 > 0:=1; 0=1 > 0:=2", "0 1 2 | 0-0-1 1-1-2"},
		// Rule by rule, wherever the rule stands that goes first.
		{"0", "0=1 > 0:=2; 0=0 > 0:=1", "0 1 2 | 0-1-1 1-0-2"},
		{"0", "0=0 > 0:=2; 0=0 > 0:=1", "0 2 1 | 0-0-1 0-1-2"},
		// State by state: what the first leads to stands ahead of what that leads to.
		{"0", "0=1 > 0:=3; 0=0 > 0:=1; 0=0 > 0:=2; 0=2 > 0:=4", "0 1 2 3 4 | 0-1-1 0-2-2 1-0-3 2-3-4"},
		// Two rules to the same state are two edges, and a state that is met again has its elder place.
		{"0", "0=0 > 0:=1; 0=0 > 0:=1", "0 1 | 0-0-1 0-1-1"},
		{"0", "> 0:=1; 0=0 > 0:=1; 0=1 > 0:=1", "0 1 | 0-0-1 0-1-1"},
		{"0 0", "0=0 > 0:=1; 1=0 > 1:=1", "0,0 1,0 0,1 1,1 | 0-0-1 0-1-2 1-1-3 2-0-3"},
		{"0", "0=0 > 0:=1; 0=0 > 0:=2; 0=2 > 0:=1", "0 1 2 | 0-0-1 0-1-2 2-2-1"},
		{"0", "0=0 > 0:=1; 0=1 > 0:=2; 0=0 > 0:=2; 0=2 > 0:=3; 0=0 > 0:=3", "0 1 2 3 | 0-0-1 0-2-2 0-4-3 1-1-2 2-3-3"},
		// A rule that puts several parts, and one that asks for none and goes from many states.
		{"0 0", "0=0 > 0:=1 1:=1; 0=1 > 1:=2", "0,0 1,1 1,2 | 0-0-1 1-1-2"},
		{"0 0", "> 0:=1; > 1:=1", "0,0 1,0 0,1 1,1 | 0-0-1 0-1-2 1-1-3 2-0-3"},
		{"3 3 3 3", "3=3 > 3:=4; 0=3 3=4 > 0:=1 1:=2 2:=3", "3,3,3,3 3,3,3,4 1,2,3,4 | 0-0-1 1-1-2"},
		// The greatest number is one like others.
		{"65535", "0=65535 > 0:=0; 0=0 > 0:=65534", "65535 0 65534 | 0-0-1 1-1-2"},
	} {
		wantSpace(t, c.init+": "+c.rules, program(t, c.init, split(c.rules)...), c.want)
	}
}

func split(rules string) []string {
	if rules == "" {
		return nil
	}
	return strings.Split(rules, ";")
}

// P11.1: what the rules ask of packets, and the policy, make no other states.
func TestExploreAllElse(t *testing.T) {
	p, e := syntax.Parse(`init 0 0 . let k = 4 . policy @0=1 ; dst=2 ; pt:=1 + !(@1=7) ; src:=k .
		on sw=1 & pt=2 & @0=0 => @0:=k . on dst=9 & sw=65535 & pt=0 & opt=1 & @0=k => @1:=1 & @0:=5 . on sw=1 & pt=2 => @1:=1 .`)
	if e != api.OK {
		t.Fatal(e)
	}
	wantSpace(t, "a program", p, "0,0 4,0 0,1 5,1 4,1 | 0-0-1 0-2-2 1-1-3 1-2-4 2-0-4 4-1-3")
}

// counters answers rules that count each part of a state on by itself, so far.
func counters(most ...int) []string {
	var l []string
	for part, n := range most {
		for i := range n {
			l = append(l, fmt.Sprintf("%d=%d > %d:=%d", part, i, part, i+1))
		}
	}
	return l
}

// P11.1: 128 states are answered, 129 are ErrMany.
func TestExploreLimit(t *testing.T) {
	for _, most := range [][]int{{7, 3, 3}, {3, 3, 3, 1}, {7, 15}, {1, 15, 3}} {
		rules := counters(most...)
		init := strings.TrimSpace(strings.Repeat("0 ", len(most)))
		p := program(t, init, rules...)
		s, e := space.Explore(p)
		want, errno := model(p)
		if e != api.OK || errno != api.OK || len(s.States) != 128 || told(s) != told(want) {
			t.Fatalf("%v: error %d, %d states, %s", most, e, len(s.States), told(s))
		}
		if got := numbers(space.Ends(s)); got != "127" {
			t.Errorf("%v: ends %s", most, got)
		}
		last := strings.ReplaceAll(numbers(s.States[127]), ",", " ")
		asked := []string{}
		for part, w := range strings.Fields(last) {
			asked = append(asked, fmt.Sprintf("%d=%s", part, w))
		}
		// One more: from the last state by the last rule, or the first one; from the first state.
		more := strings.Join(asked, " ") + " > 0:=99"
		wantNone(t, "one more, last", program(t, init, append(rules, more)...), api.ErrMany)
		wantNone(t, "one more, first", program(t, init, append([]string{more}, rules...)...), api.ErrMany)
		wantNone(t, "one more, of the first state", program(t, init, append(rules, zeros(len(most))+" > 0:=99")...), api.ErrMany)
		// No more: it changes nothing, leads to one of the states, or never goes.
		for _, none := range []string{"0=0 > 0:=0", zeros(len(most)) + " > 0:=1", "0=98 > 0:=99"} {
			s, e := space.Explore(program(t, init, append(rules, none)...))
			if e != api.OK || len(s.States) != 128 {
				t.Errorf("%v and %s: error %d, %d states", most, none, e, len(s.States))
			}
		}
	}
}

func zeros(parts int) string {
	var l []string
	for part := range parts {
		l = append(l, fmt.Sprintf("%d=0", part))
	}
	return strings.Join(l, " ")
}

// P11.1: ErrMany of as many states as rules can make.
func TestExploreVeryMany(t *testing.T) {
	wantNone(t, "counters", program(t, "0 0 0 0", counters(6, 6, 6, 6)...), api.ErrMany)
	var anywhere []string
	for i := range 24 {
		anywhere = append(anywhere, fmt.Sprintf("> %d:=%d", i%4, i))
	}
	wantNone(t, "from anywhere", program(t, "99 99 99 99", anywhere...), api.ErrMany)
}

// P11.1: ErrCycle of edges that lead back, at once or by a way round.
func TestExploreCycle(t *testing.T) {
	for _, c := range []struct {
		init, rules string
	}{
		{"0", "0=0 > 0:=1; 0=1 > 0:=0"},
		{"0", "0=1 > 0:=0; 0=0 > 0:=1"},
		{"0", "0=0 > 0:=1; 0=1 > 0:=2; 0=2 > 0:=0"},
		// Not by way of the first state.
		{"0", "0=0 > 0:=1; 0=1 > 0:=2; 0=2 > 0:=1"},
		{"0", "0=0 > 0:=1; 0=1 > 0:=2; 0=2 > 0:=3; 0=3 > 0:=1"},
		{"0", "0=0 > 0:=1; 0=1 > 0:=2; 0=2 > 0:=3; 0=3 > 0:=2; 0=3 > 0:=4"},
		{"0", "0=0 > 0:=1; 0=0 > 0:=2; 0=2 > 0:=3; 0=3 > 0:=2"},
		{"0", "0=0 > 0:=1; 0=0 > 0:=2; 0=1 > 0:=3; 0=3 > 0:=1"},
		// Rules without a guard.
		{"0", "> 0:=1; > 0:=0"},
		{"0", "> 0:=1; > 0:=2"},
		{"9 9", "> 0:=1; 1=9 > 0:=2 1:=8; 1=8 > 1:=9"},
		// One way on, another one back.
		{"0 0", "0=0 > 0:=1; 1=0 > 1:=1; 0=1 1=1 > 0:=0"},
		{"0 0", "0=0 > 0:=1; 1=0 > 1:=1; 0=1 1=1 > 0:=0 1:=0"},
		{"0 0 0 0", "3=0 > 3:=1; 3=1 > 3:=0"},
	} {
		wantNone(t, c.init+": "+c.rules, program(t, c.init, split(c.rules)...), api.ErrCycle)
	}
}

// P11.1: a way back that no state goes, or that changes nothing, is none; nor are ways that part and meet.
func TestExploreNoCycle(t *testing.T) {
	for _, c := range []struct {
		init, rules, want string
	}{
		{"0", "0=0 > 0:=1; 0=2 > 0:=0", "0 1 | 0-0-1"},
		{"0", "0=0 > 0:=1; 0=2 > 0:=3; 0=3 > 0:=2", "0 1 | 0-0-1"},
		{"0", "0=0 > 0:=0; 0=0 > 0:=1; 0=1 > 0:=1", "0 1 | 0-1-1"},
		{"0 0", "0=0 > 0:=1; 0=1 1=1 > 0:=0", "0,0 1,0 | 0-0-1"},
		{"0", "0=0 > 0:=1; 0=0 > 0:=2; 0=1 > 0:=3; 0=2 > 0:=3; 0=3 > 0:=4; 0=0 > 0:=4", "0 1 2 4 3 | 0-0-1 0-1-2 0-5-3 1-2-4 2-3-4 4-4-3"},
	} {
		wantSpace(t, c.init+": "+c.rules, program(t, c.init, split(c.rules)...), c.want)
	}
}

// P11.1, R1: ErrMany stands ahead of ErrCycle.
func TestExploreManyAndCycle(t *testing.T) {
	rules := counters(7, 3, 3)
	back := "0=7 1=3 2=3 > 0:=0"
	more := "0=7 1=3 2=2 > 0:=99"
	early := "0=1 1=0 2=0 > 0:=0"
	wantNone(t, "128 and back", program(t, "0 0 0", append(rules, back)...), api.ErrCycle)
	wantNone(t, "128 and back early", program(t, "0 0 0", append([]string{early}, rules...)...), api.ErrCycle)
	for _, l := range [][]string{{back, more}, {more, back}, {early, more}, {more, early}} {
		wantNone(t, "129 and back", program(t, "0 0 0", append(rules, l...)...), api.ErrMany)
		wantNone(t, "129 and back", program(t, "0 0 0", append(l, rules...)...), api.ErrMany)
	}
}

// P11.1: the errors of layer 5's Check, whatever the states would be.
func TestExploreNotWellFormed(t *testing.T) {
	many, back := counters(6, 6, 6), []string{"0=0 > 0:=1", "0=1 > 0:=0"}
	id := api.Pol{Op: api.Id}
	for name, rules := range map[string][]string{"none": nil, "one": {"0=0 > 0:=1"}, "many": many, "back": back, "both": append(back, many...)} {
		for _, c := range []struct {
			name string
			make func(p *api.Program)
			want api.Errno
		}{
			{"no part", func(p *api.Program) { p.Init = nil }, api.ErrLong},
			{"five parts", func(p *api.Program) { p.Init = make([]uint16, 5) }, api.ErrLong},
			{"25 rules", func(p *api.Program) { p.Rules = append(p.Rules, make([]api.Rule, 25)...) }, api.ErrLong},
			{"301 nodes", func(p *api.Program) { p.Pol = api.Pol{Op: api.Sum, Kids: slices.Repeat([]api.Pol{id}, 300)} }, api.ErrLong},
			{"a policy's node", func(p *api.Program) { p.Pol = api.Pol{Op: api.Id, F: 1} }, api.ErrForm},
			{"no such Op", func(p *api.Program) { p.Pol = api.Pol{Op: 8} }, api.ErrForm},
			{"a part of the policy's that there isn't", func(p *api.Program) { p.Pol = api.Pol{Op: api.State, F: len(p.Init)} }, api.ErrForm},
			{"no When", func(p *api.Program) { p.Rules = append(p.Rules, api.Rule{Then: []api.Pair{{}}}) }, api.ErrForm},
			{"no Then", func(p *api.Program) { p.Rules = append(p.Rules, rule(t, "0=0 >")) }, api.ErrForm},
			{"a Guard's part that there isn't", func(p *api.Program) { p.Rules = append(p.Rules, rule(t, "3=0 > 0:=1")) }, api.ErrForm},
			{"a Then's part that there isn't", func(p *api.Program) { p.Rules = append(p.Rules, rule(t, "> 0:=0 3:=0")) }, api.ErrForm},
			{"a Guard's part below 0", func(p *api.Program) { p.Rules = append(p.Rules, rule(t, "-1=0 > 0:=1")) }, api.ErrForm},
			{"parts that fall", func(p *api.Program) { p.Rules = append(p.Rules, rule(t, "> 1:=0 0:=0")) }, api.ErrForm},
			{"a part twice", func(p *api.Program) { p.Rules = append(p.Rules, rule(t, "0=0 0=0 > 0:=1")) }, api.ErrForm},
			{"both", func(p *api.Program) { p.Init = nil; p.Pol = api.Pol{Op: 8} }, api.ErrLong},
		} {
			p := program(t, "0 0 0", rules...)
			c.make(&p)
			if e := syntax.Check(p); e != c.want {
				t.Fatalf("%s, %s: Check tells %d", name, c.name, e)
			}
			wantNone(t, name+", "+c.name, p, c.want)
		}
	}
	wantNone(t, "the zero program", api.Program{}, api.ErrLong)
}

// P11.1: whether a rule goes; a part that there isn't is never so.
func TestGoes(t *testing.T) {
	for _, c := range []struct {
		rule  string
		state []uint16
		want  bool
	}{
		{"> 0:=1", nil, true},
		{"> 0:=1", []uint16{}, true},
		{"> 0:=1", []uint16{5, 6}, true},
		{">", []uint16{0}, true},
		{"0=0 >", nil, false},
		{"0=0 >", []uint16{}, false},
		{"0=0 >", []uint16{0}, true},
		{"0=0 >", []uint16{1}, false},
		{"0=65535 >", []uint16{65535}, true},
		{"0=65535 >", []uint16{0}, false},
		{"1=2 >", []uint16{0, 2}, true},
		{"1=2 >", []uint16{2, 0}, false},
		{"1=2 >", []uint16{2}, false},
		{"0=1 1=2 >", []uint16{1, 2}, true},
		{"0=1 1=2 >", []uint16{1, 3}, false},
		{"0=1 1=2 >", []uint16{0, 2}, false},
		{"0=1 1=2 >", []uint16{1}, false},
		{"0=1 1=2 2=3 3=4 >", []uint16{1, 2, 3, 4}, true},
		{"0=1 1=2 2=3 3=4 >", []uint16{1, 2, 3, 5}, false},
		{"0=1 1=2 2=3 3=4 >", []uint16{1, 2, 0, 4}, false},
		// What Then says doesn't matter.
		{"0=1 > 0:=1", []uint16{1}, true},
		{"0=1 > 7:=1", []uint16{1}, true},
		// Rules that aren't well formed.
		{"1=2 0=1 >", []uint16{1, 2}, true},
		{"0=1 0=1 >", []uint16{1}, true},
		{"0=1 0=2 >", []uint16{1}, false},
		{"0=1 0=2 >", []uint16{2}, false},
		// States of more parts than there may be.
		{"5=6 >", []uint16{0, 0, 0, 0, 0, 6}, true},
		{"5=6 >", []uint16{6, 6, 6, 6, 6, 0}, false},
	} {
		if got := space.Goes(rule(t, c.rule), c.state); got != c.want {
			t.Errorf("%s of %v: %v", c.rule, c.state, got)
		}
	}
}

// P11.1, R6: parts that there aren't.
func TestGoesNoParts(t *testing.T) {
	state := []uint16{0, 0, 0, 0}
	for _, f := range noParts {
		for _, l := range [][]api.Pair{{{F: f}}, {{F: 0}, {F: f}}, {{F: f}, {F: 3}}} {
			if space.Goes(api.Rule{Guard: l}, state) {
				t.Errorf("%v goes", l)
			}
		}
	}
}

// P11.1: the state that a rule leads to, whether it goes or not.
func TestAfter(t *testing.T) {
	for _, c := range []struct {
		rule  string
		state []uint16
		want  string
	}{
		{">", nil, ""},
		{"> 0:=1", nil, ""},
		{"> 0:=1", []uint16{}, ""},
		{">", []uint16{3, 4}, "3,4"},
		{"> 0:=1", []uint16{3, 4}, "1,4"},
		{"> 1:=1", []uint16{3, 4}, "3,1"},
		{"> 0:=3", []uint16{3, 4}, "3,4"},
		{"> 0:=65535 1:=0", []uint16{3, 4}, "65535,0"},
		{"> 0:=4 1:=3 2:=2 3:=1", []uint16{9, 9, 9, 9}, "4,3,2,1"},
		{"> 2:=1", []uint16{3, 4}, "3,4"},
		{"> 0:=9 5:=1 -1:=1", []uint16{0, 2}, "9,2"},
		{"> -1:=1 5:=1 1:=9", []uint16{0, 2}, "0,9"},
		{"0=5 > 0:=1", []uint16{3}, "1"},
		{"7=5 > 0:=1", []uint16{3}, "1"},
		{"> 1:=1 0:=2", []uint16{3, 4}, "2,1"},
		{"> 5:=6", []uint16{0, 0, 0, 0, 0, 0}, "0,0,0,0,0,6"},
	} {
		if got := numbers(space.After(rule(t, c.rule), c.state)); got != c.want {
			t.Errorf("%s of %v: %s, want %s", c.rule, c.state, got, c.want)
		}
	}
}

// P11.1, R6: parts that there aren't are left out.
func TestAfterNoParts(t *testing.T) {
	state := []uint16{5, 6, 7, 8}
	for _, f := range noParts {
		for _, l := range [][]api.Pair{{{F: f, N: 1}, {F: 3, N: 9}}, {{F: 3, N: 9}, {F: f, N: 1}}} {
			if got := numbers(space.After(api.Rule{Then: l}, state)); got != "5,6,7,9" {
				t.Errorf("%v: %s", l, got)
			}
		}
	}
}

// P11.1: the edges from each state, in order, and the states without any.
func TestFromAndEnds(t *testing.T) {
	s := wantSpace(t, "two counters", program(t, "0 0", "0=0 > 0:=1", "1=0 > 1:=1", "0=0 1=0 > 0:=7 1:=7", "0=0 1=0 > 0:=1"),
		"0,0 1,0 0,1 7,7 1,1 | 0-0-1 0-1-2 0-2-3 0-3-1 1-1-4 2-0-4")
	for state, want := range []string{"0-0-1 0-1-2 0-2-3 0-3-1", "1-1-4", "2-0-4", "", ""} {
		wantFrom(t, s, state, want)
	}
	for _, state := range []int{-1, 5, 6, 128, math.MinInt, math.MaxInt} {
		wantFrom(t, s, state, "")
	}
	if got := numbers(space.Ends(s)); got != "3,4" {
		t.Error(got)
	}
	alone := wantSpace(t, "one state", program(t, "0"), "0 |")
	wantFrom(t, alone, 0, "")
	wantFrom(t, alone, 1, "")
	if got := numbers(space.Ends(alone)); got != "0" {
		t.Error(got)
	}
}

func wantFrom(t testing.TB, s api.Space, state int, want string) {
	t.Helper()
	l := space.From(s, state)
	if got := strings.TrimPrefix(told(api.Space{Edges: l}), "|"); strings.TrimSpace(got) != want {
		t.Errorf("from %d of %s: %s, want %s", state, told(s), got, want)
	}
}

// P11.1: spaces that no program has.
func TestAnySpace(t *testing.T) {
	for _, state := range []int{-1, 0, 1} {
		wantFrom(t, api.Space{}, state, "")
	}
	if l := space.Ends(api.Space{}); len(l) != 0 {
		t.Error(l)
	}
	three := make([][]uint16, 3)
	for _, c := range []struct {
		edges []api.Edge
		ends  string
		from1 string
	}{
		{nil, "0,1,2", ""},
		{[]api.Edge{{From: 1, To: 1}}, "0,2", "1-0-1"},
		{[]api.Edge{{From: 2, To: 0}, {From: 1, To: 9}, {From: 2, To: 1}, {From: 1, Rule: -3, To: 0}}, "0", "1-0-9 1--3-0"},
		{[]api.Edge{{From: 1, Rule: 2, To: 0}, {From: 0, To: 1}, {From: 1, Rule: 1, To: 2}, {From: 2, To: 0}}, "", "1-2-0 1-1-2"},
		{[]api.Edge{{From: -1}, {From: 3, To: 1}, {From: math.MaxInt}, {From: math.MinInt}}, "0,1,2", ""},
	} {
		s := api.Space{States: three, Edges: c.edges}
		wantFrom(t, s, 1, c.from1)
		if got := numbers(space.Ends(s)); got != c.ends {
			t.Errorf("%v: ends %s, want %s", c.edges, got, c.ends)
		}
	}
}

// R4: what is handed in stays as it was, and what is answered shares nothing with it, nor one list with another.
func TestMemory(t *testing.T) {
	p := program(t, "0 0", "0=0 > 0:=1", "1=0 > 1:=1")
	p.Init = append(p.Init, 5, 5)[:2]
	was := fmt.Sprint(p)
	s, _ := space.Explore(p)
	all := told(s)
	again, _ := space.Explore(p)
	for i := range s.States {
		scribble(s.States[i])
		for j := range s.States {
			if j > i && numbers(s.States[j]) != numbers(again.States[j]) {
				t.Errorf("state %d hangs on state %d", j, i)
			}
		}
	}
	clear(s.Edges[:cap(s.Edges)])
	if got := fmt.Sprint(p); got != was || numbers(p.Init[:4]) != "0,0,5,5" {
		t.Errorf("the program is %s, was %s", got, was)
	}
	if got := told(again); got != all {
		t.Errorf("%s, was %s", got, all)
	}
	r, state := rule(t, "0=1 > 1:=2"), append(make([]uint16, 0, 8), 1, 1)
	r.Then, r.Guard = slices.Grow(r.Then, 4), slices.Grow(r.Guard, 4)
	was = fmt.Sprint(r)
	space.Goes(r, state)
	scribble(space.After(r, state))
	if fmt.Sprint(r) != was || numbers(state[:8]) != "1,1,0,0,0,0,0,0" {
		t.Errorf("%v, %v", r, state)
	}
	same := space.After(api.Rule{}, state)
	scribble(same)
	if numbers(state) != "1,1" {
		t.Error("a state that stays is handed out itself")
	}
	l := space.From(again, 0)
	clear(l[:cap(l)])
	space.Ends(again)
	if got := told(again); got != all {
		t.Errorf("%s, was %s", got, all)
	}
}

func scribble(l []uint16) {
	l = l[:cap(l)]
	for i := range l {
		l[i] = 777
	}
}
