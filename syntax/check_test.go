package syntax

import (
	"math"
	"math/rand"
	"reflect"
	"slices"
	"testing"

	"pointsman/api"
)

// node: of a policy, and at which depth it is.
type node struct {
	p     api.Pol
	depth int
}

// nodesOf answers the nodes of p one by one, without going down into itself.
func nodesOf(p api.Pol) []node {
	l := []node{{p, 1}}
	for i := 0; i < len(l); i++ {
		for _, k := range l[i].p.Kids {
			l = append(l, node{k, l[i].depth + 1})
		}
	}
	return l
}

func depthOf(p api.Pol) int {
	l := nodesOf(p)
	return l[len(l)-1].depth
}

// isPredicate: no node that isn't one can be come to through sums and sequences alone.
func isPredicate(p api.Pol) bool {
	l := []api.Pol{p}
	for i := 0; i < len(l); i++ {
		if l[i].Op == api.Put || l[i].Op < 0 || l[i].Op > 7 {
			return false
		}
		if l[i].Op == api.Seq || l[i].Op == api.Sum {
			l = append(l, l[i].Kids...)
		}
	}
	return true
}

// asked: how many kids an Op has, which fields (or parts), and whether a number.
type asked struct {
	leastKids, mostKids int
	leastF, mostF       int
	number              bool
}

func askedBy(parts int) map[int]asked {
	return map[int]asked{
		api.Drop:  {0, 0, 0, 0, false},
		api.Id:    {0, 0, 0, 0, false},
		api.Test:  {0, 0, 0, 7, true},
		api.State: {0, 0, 0, parts - 1, true},
		api.Not:   {1, 1, 0, 0, false},
		api.Put:   {0, 0, 1, 7, true},
		api.Seq:   {2, math.MaxInt, 0, 0, false},
		api.Sum:   {2, math.MaxInt, 0, 0, false},
	}
}

// checkOf checks by the chapter's words in another way than Check.
func checkOf(p api.Program) api.Errno {
	nodes := nodesOf(p.Pol)
	if len(p.Init) < 1 || len(p.Init) > 4 || len(nodes) > 300 || nodes[len(nodes)-1].depth > 20 || len(p.Rules) > 24 {
		return api.ErrLong
	}
	for _, k := range nodes {
		a, there := askedBy(len(p.Init))[k.p.Op]
		if !there || len(k.p.Kids) < a.leastKids || len(k.p.Kids) > a.mostKids || k.p.F < a.leastF || k.p.F > a.mostF || k.p.N != 0 && !a.number {
			return api.ErrForm
		}
		if k.p.Op == api.Not && !isPredicate(k.p.Kids[0]) {
			return api.ErrForm
		}
	}
	for _, r := range p.Rules {
		when, guard, then := fieldsOf(r.When), fieldsOf(r.Guard), fieldsOf(r.Then)
		if !slices.Contains(when, 0) || !slices.Contains(when, 1) || len(then) == 0 || !rises(when, 8) || !rises(guard, len(p.Init)) || !rises(then, len(p.Init)) {
			return api.ErrForm
		}
	}
	return api.OK
}

func fieldsOf(l []api.Pair) []int {
	var fields []int
	for _, c := range l {
		fields = append(fields, c.F)
	}
	return fields
}

func rises(l []int, end int) bool {
	return slices.IsSorted(l) && len(slices.Compact(slices.Clone(l))) == len(l) && (len(l) == 0 || l[0] >= 0 && l[len(l)-1] < end)
}

// wantCheck holds Check against what is wanted and against the model, and that p is left as it was.
func wantCheck(t *testing.T, p api.Program, want api.Errno) {
	t.Helper()
	was := plain(p)
	if e := Check(p); e != want || e != checkOf(p) {
		t.Errorf("Check(%+v) = %v, want %v (and by the model %v)", p, e, want, checkOf(p))
	}
	if !sameProgram(p, was) {
		t.Errorf("Check changed %+v", was)
	}
}

func wantPol(t *testing.T, p api.Pol, want api.Errno) {
	t.Helper()
	wantCheck(t, bare(p), want)
	// It is the same wherever the policy stands.
	wantCheck(t, bare(sum(identity(), p)), want)
	wantCheck(t, bare(seq(identity(), seq(p, identity()))), want)
}

// P5.1: each Op with each number of kids.
func TestCheckKids(t *testing.T) {
	for op := -2; op <= 10; op++ {
		for kids := range 5 {
			p := api.Pol{Op: op, Kids: slices.Repeat([]api.Pol{identity()}, kids)}
			if op == api.Put {
				p.F = api.Pt
			}
			want := api.ErrForm
			switch op {
			case api.Drop, api.Id, api.Test, api.State, api.Put:
				if kids == 0 {
					want = api.OK
				}
			case api.Not:
				if kids == 1 {
					want = api.OK
				}
			case api.Seq, api.Sum:
				if kids >= 2 {
					want = api.OK
				}
			}
			wantPol(t, p, want)
		}
	}
	for _, op := range []int{math.MinInt, math.MaxInt, 8, -1, 256, 1 << 32} {
		wantPol(t, api.Pol{Op: op}, api.ErrForm)
		wantPol(t, api.Pol{Op: op, Kids: []api.Pol{identity(), identity()}}, api.ErrForm)
		wantPol(t, not(api.Pol{Op: op}), api.ErrForm)
	}
}

// P5.1: each Op with each field, or part, and number: those that there are, those that aren't, and those that nobody asks for.
func TestCheckFields(t *testing.T) {
	fields := []int{math.MinInt, -65536, -8, -1, 0, 1, 2, 3, 4, 5, 6, 7, 8, 9, 15, 16, 256, 65536, 1 << 32, math.MaxInt}
	for parts := 1; parts <= 4; parts++ {
		for op := range 8 {
			kids := map[int]int{api.Not: 1, api.Seq: 2, api.Sum: 3}[op]
			for _, f := range fields {
				for _, n := range []uint16{0, 1, 256, 65535} {
					want := api.ErrForm
					switch {
					case op == api.Test && f >= 0 && f < 8, op == api.Put && f >= 1 && f < 8, op == api.State && f >= 0 && f < parts:
						want = api.OK
					case op != api.Test && op != api.Put && op != api.State && f == 0 && n == 0:
						want = api.OK
					}
					p := api.Pol{Op: op, F: f, N: n, Kids: slices.Repeat([]api.Pol{dropAll()}, kids)}
					wantCheck(t, api.Program{Init: make([]uint16, parts), Pol: p}, want)
					wantCheck(t, api.Program{Init: make([]uint16, parts), Pol: seq(identity(), sum(dropAll(), p))}, want)
				}
			}
		}
	}
}

// P5.1: Not's kid is a predicate, at any depth; what isn't well formed in it counts, too.
func TestCheckNot(t *testing.T) {
	for _, p := range []api.Pol{identity(), dropAll(), test(0, 1), state(0, 9), not(identity()), seq(identity(), dropAll()), sum(test(1, 1), seq(state(0, 0), not(test(7, 7))))} {
		wantPol(t, not(p), api.OK)
		wantPol(t, not(not(p)), api.OK)
	}
	for _, p := range []api.Pol{put(1, 1), seq(identity(), put(1, 1)), seq(put(1, 1), identity()), sum(identity(), put(7, 1)), sum(identity(), seq(test(1, 1), sum(put(2, 0), identity()))), not(put(1, 1)),
		seq(identity(), not(put(1, 1))), state(1, 0), test(8, 0), seq(identity()), sum(), {Op: api.Not}, {Op: api.Id, N: 1}} {
		wantPol(t, not(p), api.ErrForm)
		wantPol(t, not(not(p)), api.ErrForm)
		wantPol(t, sum(identity(), not(p)), api.ErrForm)
		wantPol(t, seq(put(1, 1), not(p)), api.ErrForm)
	}
	wantPol(t, sum(put(1, 1), not(identity())), api.OK)
	wantPol(t, seq(not(identity()), put(1, 1)), api.OK)
}

func ruled(parts int, l ...api.Rule) api.Program {
	return api.Program{Init: make([]uint16, parts), Pol: identity(), Rules: l}
}

// P5.1: When has sw and pt, fields alone, rising, each once.
func TestCheckWhen(t *testing.T) {
	when := func(l ...int) api.Rule {
		r := api.Rule{Then: pairs(pair(0, 1))}
		for i, f := range l {
			r.When = append(r.When, pair(f, uint16(7*i)))
		}
		return r
	}
	good := when(0, 1)
	for _, l := range [][]int{{0, 1}, {0, 1, 2}, {0, 1, 7}, {0, 1, 2, 3, 4, 5, 6, 7}, {0, 1, 3, 5}} {
		wantCheck(t, ruled(1, when(l...)), api.OK)
		wantCheck(t, ruled(1, good, when(l...), good), api.OK)
	}
	for _, l := range [][]int{{}, {0}, {1}, {2}, {1, 2}, {0, 2}, {0, 2, 3}, {1, 2, 3}, {1, 0}, {0, 2, 1}, {2, 0, 1}, {0, 1, 3, 2}, {0, 0, 1}, {0, 1, 1}, {0, 1, 2, 2}, {0, 1, 0}, {0, 1, 7, 7}, {0, 1, 8}, {0, 1, 2, 8},
		{-1, 0, 1}, {0, 1, -1}, {0, -1, 1}, {0, 1, math.MaxInt}, {0, 1, math.MaxInt, math.MinInt}, {math.MinInt, 0, 1}, {0, 1, 256}, {0, 1, 65536}, {7, 6, 5, 4, 3, 2, 1, 0}, {0, 1, 2, 3, 4, 5, 6, 7, 8}, {8, 9}} {
		wantCheck(t, ruled(1, when(l...)), api.ErrForm)
		wantCheck(t, ruled(1, good, when(l...)), api.ErrForm)
		wantCheck(t, ruled(1, when(l...), good), api.ErrForm)
	}
}

// P5.1: Guard and Then have parts alone, rising, each once; Guard may be empty, Then not.
func TestCheckGuardThen(t *testing.T) {
	list := func(l ...int) []api.Pair {
		var made []api.Pair
		for _, f := range l {
			made = append(made, pair(f, 65535))
		}
		return made
	}
	port := pairs(pair(0, 0), pair(1, 0))
	for parts := 1; parts <= 4; parts++ {
		for _, l := range [][]int{{}, {0}, {1}, {2}, {3}, {4}, {7}, {0, 1}, {1, 2}, {2, 3}, {0, 3}, {3, 4}, {0, 2, 3}, {0, 1, 2}, {0, 1, 2, 3}, {0, 1, 2, 3, 4}, {1, 0}, {0, 0}, {3, 3}, {0, 2, 1}, {0, 1, 1}, {0, 1, 0},
			{-1}, {-1, 0}, {0, -1}, {math.MinInt}, {math.MaxInt}, {0, math.MaxInt}, {0, math.MaxInt, math.MinInt}, {256}, {65536}} {
			want := api.OK
			if !rises(l, parts) {
				want = api.ErrForm
			}
			wantCheck(t, ruled(parts, api.Rule{When: port, Guard: list(l...), Then: list(0)}), want)
			if len(l) == 0 {
				want = api.ErrForm
			}
			wantCheck(t, ruled(parts, api.Rule{When: port, Then: list(l...)}), want)
			wantCheck(t, ruled(parts, api.Rule{When: port, Guard: list(0), Then: list(l...)}), want)
			wantCheck(t, ruled(parts, api.Rule{When: port, Then: list(0)}, api.Rule{When: port, Then: list(l...)}), want)
		}
	}
	wantCheck(t, ruled(1, api.Rule{When: port, Guard: []api.Pair{}, Then: list(0)}), api.OK)
	wantCheck(t, ruled(1, api.Rule{When: port, Then: []api.Pair{}}), api.ErrForm)
	wantCheck(t, ruled(1, api.Rule{}), api.ErrForm)
}

// wide answers a policy of depth 3 (of 300 nodes: 20 times 14, and 20 more) or so, that has this many nodes.
func wide(nodes int) api.Pol {
	var kids []api.Pol
	for nodes -= 1; nodes >= 18; nodes -= 15 {
		kids = append(kids, seq(slices.Repeat([]api.Pol{identity()}, 14)...))
	}
	return sum(append(kids, slices.Repeat([]api.Pol{identity()}, nodes)...)...)
}

// P5.1: the limits, at each and past it, and none below.
func TestCheckLong(t *testing.T) {
	port := api.Rule{When: pairs(pair(0, 0), pair(1, 0)), Then: pairs(pair(0, 0))}
	want := func(isOK bool) api.Errno {
		if isOK {
			return api.OK
		}
		return api.ErrLong
	}
	for n := range 40 {
		wantCheck(t, api.Program{Init: make([]uint16, n), Pol: identity()}, want(n >= 1 && n <= 4))
		wantCheck(t, ruled(1, slices.Repeat(rules(port), n)...), want(n <= 24))
		if n > 0 {
			wantCheck(t, bare(chain(n)), want(n <= 20))
			wantCheck(t, bare(sum(identity(), chain(n), identity())), want(n <= 19))
			wantCheck(t, bare(sum(chain(n), chain(3))), want(n <= 19))
			wantCheck(t, bare(sum(chain(3), chain(n))), want(n <= 19))
		}
	}
	wantCheck(t, api.Program{Pol: identity()}, api.ErrLong)
	wantCheck(t, api.Program{}, api.ErrLong)
	for n := 290; n <= 310; n++ {
		wantCheck(t, bare(wide(n)), want(n <= 300))
		wantCheck(t, bare(sum(slices.Repeat([]api.Pol{identity()}, n-1)...)), want(n <= 300))
		wantCheck(t, bare(not(sum(slices.Repeat([]api.Pol{identity()}, n-2)...))), want(n <= 300))
		wantCheck(t, bare(sum(wide(n-2), identity())), want(n <= 300))
		wantCheck(t, bare(sum(identity(), wide(n-2))), want(n <= 300))
	}
	wantCheck(t, bare(sum(slices.Repeat([]api.Pol{identity()}, 1<<16)...)), api.ErrLong)
}

// P5.1: what is ErrLong comes ahead of what is ErrForm, wherever either is.
func TestCheckLongFirst(t *testing.T) {
	port := api.Rule{When: pairs(pair(0, 0), pair(1, 0)), Then: pairs(pair(0, 0))}
	longs := []func(p *api.Program){
		func(p *api.Program) { p.Init = nil },
		func(p *api.Program) { p.Init = make([]uint16, 5) },
		func(p *api.Program) { p.Pol = sum(p.Pol, chain(20)) },
		func(p *api.Program) { p.Pol = sum(chain(20), p.Pol) },
		func(p *api.Program) { p.Pol = sum(p.Pol, wide(299)) },
		func(p *api.Program) { p.Pol = sum(wide(299), p.Pol) },
		func(p *api.Program) { p.Rules = append(p.Rules, slices.Repeat(rules(port), 25)...) },
	}
	forms := []func(p *api.Program){
		func(p *api.Program) { p.Pol = api.Pol{Op: -1} },
		func(p *api.Program) { p.Pol = put(0, 1) },
		func(p *api.Program) { p.Pol = not(put(1, 1)) },
		func(p *api.Program) { p.Pol = seq() },
		func(p *api.Program) { p.Pol = api.Pol{Op: api.Id, Kids: []api.Pol{identity()}} },
		func(p *api.Program) { p.Pol = state(4, 0) },
		func(p *api.Program) { p.Rules = rules(api.Rule{}) },
		func(p *api.Program) {
			p.Rules = rules(api.Rule{When: port.When, Guard: pairs(pair(9, 0)), Then: port.Then})
		},
	}
	for _, form := range forms {
		p := bare(identity())
		form(&p)
		wantCheck(t, p, api.ErrForm)
		for _, long := range longs {
			p := bare(identity())
			form(&p)
			long(&p)
			wantCheck(t, p, api.ErrLong)
		}
	}
	// Kids of what may have none are nodes, and levels, all the same.
	deep := identity()
	for range 20 {
		deep = api.Pol{Op: api.Drop, Kids: []api.Pol{deep}}
	}
	wantCheck(t, bare(deep), api.ErrLong)
	wantCheck(t, bare(deep.Kids[0]), api.ErrForm)
	wantCheck(t, bare(api.Pol{Op: 99, Kids: slices.Repeat([]api.Pol{identity()}, 300)}), api.ErrLong)
	wantCheck(t, bare(api.Pol{Op: 99, Kids: slices.Repeat([]api.Pol{identity()}, 299)}), api.ErrForm)
}

// P0: Check ends, of kids that are shared so often that there is no counting them, and of a policy that is its own kid.
func TestCheckEnds(t *testing.T) {
	p := identity()
	for range 1000 {
		p = sum(p, p)
	}
	if e := Check(bare(p)); e != api.ErrLong {
		t.Error(e)
	}
	kids := []api.Pol{identity(), identity()}
	kids[1] = api.Pol{Op: api.Sum, Kids: kids}
	if e := Check(bare(kids[1])); e != api.ErrLong {
		t.Error(e)
	}
}

// P5.1: what is a predicate, by hand: a Not is one, whatever its kid; of other nodes their Op alone counts, of Seq and Sum the kids.
func TestPredicate(t *testing.T) {
	for _, p := range []api.Pol{identity(), dropAll(), {}, test(0, 1), test(99, 1), state(0, 0), state(-5, 0), not(identity()), not(put(1, 1)), not(not(put(1, 1))), {Op: api.Not}, seq(), sum(), seq(identity()), sum(identity(), dropAll()),
		seq(test(1, 1), not(put(1, 1)), sum(state(0, 1), seq(identity(), dropAll()))), {Op: api.Id, F: 7, N: 7, Kids: []api.Pol{put(1, 1)}}, {Op: api.Test, Kids: []api.Pol{put(1, 1)}}} {
		if !Predicate(p) || !isPredicate(p) {
			t.Errorf("%+v is a predicate", p)
		}
	}
	for _, p := range []api.Pol{put(1, 1), put(0, 0), put(9, 0), {Op: -1}, {Op: 8}, {Op: math.MaxInt}, {Op: math.MinInt}, {Op: api.Put, Kids: []api.Pol{identity()}}, seq(put(1, 1)), sum(put(1, 1)), seq(identity(), put(1, 1)), sum(put(1, 1), identity()),
		sum(identity(), seq(identity(), sum(dropAll(), put(1, 1)))), seq(identity(), api.Pol{Op: 8}), sum(identity(), identity(), identity(), put(3, 3)), {Op: 9, Kids: []api.Pol{identity()}}} {
		if Predicate(p) || isPredicate(p) {
			t.Errorf("%+v is no predicate", p)
		}
	}
}

// P5.1: depth and size, by hand; kids count, whatever the Op.
func TestDepthSize(t *testing.T) {
	for _, c := range []struct {
		p           api.Pol
		depth, size int
	}{
		{api.Pol{}, 1, 1}, {identity(), 1, 1}, {api.Pol{Op: 77, F: -1, N: 9}, 1, 1}, {put(1, 1), 1, 1}, {seq(), 1, 1}, {api.Pol{Op: api.Sum, Kids: []api.Pol{}}, 1, 1}, {not(identity()), 2, 2}, {api.Pol{Op: api.Id, Kids: []api.Pol{not(identity())}}, 3, 3},
		{sum(identity(), identity()), 2, 3}, {sum(identity(), not(identity())), 3, 4}, {sum(not(identity()), identity()), 3, 4}, {sum(chain(5), chain(7), chain(6)), 8, 19}, {api.Pol{Op: -1, Kids: []api.Pol{chain(2), chain(3)}}, 4, 6},
		{seq(identity(), sum(identity(), identity(), seq(identity(), identity())), identity()), 4, 9}, {wide(300), 3, 300}, {chain(300), 300, 300},
	} {
		if Depth(c.p) != c.depth || Size(c.p) != c.size {
			t.Errorf("%+v: depth %d, size %d, want %d and %d", c.p, Depth(c.p), Size(c.p), c.depth, c.size)
		}
	}
}

// P0, P5.1: as many levels and kids as the document speaks of.
func TestGreatPolicies(t *testing.T) {
	const levels = 1 << 16
	p, q := identity(), put(1, 1)
	for range levels - 1 {
		p = api.Pol{Op: api.Seq, Kids: []api.Pol{p}}
		q = api.Pol{Op: api.Sum, Kids: []api.Pol{q}}
	}
	if Depth(p) != levels || Size(p) != levels || !Predicate(p) || Predicate(q) || Check(bare(p)) != api.ErrLong {
		t.Error(Depth(p), Size(p), Predicate(p), Predicate(q), Check(bare(p)))
	}
	p = sum(slices.Repeat([]api.Pol{test(1, 1)}, 1<<20)...)
	if Depth(p) != 2 || Size(p) != 1<<20+1 || !Predicate(p) || Check(bare(p)) != api.ErrLong {
		t.Error(Depth(p), Size(p), Predicate(p), Check(bare(p)))
	}
	p = identity()
	for range 18 {
		p = seq(p, p)
	}
	if Depth(p) != 19 || Size(p) != 1<<19-1 || !Predicate(p) || Check(bare(p)) != api.ErrLong {
		t.Error(Depth(p), Size(p), Predicate(p), Check(bare(p)))
	}
}

// randomPol answers a well formed policy with so many levels at most.
func randomPol(r *rand.Rand, levels, parts int, predicate bool) api.Pol {
	if levels <= 1 || r.Intn(4) == 0 {
		switch r.Intn(6) {
		case 0:
			return dropAll()
		case 1:
			return state(r.Intn(parts), uint16(r.Intn(3)))
		case 2:
			return test(r.Intn(8), uint16(r.Intn(1<<16)))
		case 3, 4:
			if !predicate {
				return put(1+r.Intn(7), uint16(r.Intn(3)))
			}
		}
		return identity()
	}
	if r.Intn(3) == 0 {
		return not(randomPol(r, levels-1, parts, true))
	}
	p := api.Pol{Op: api.Seq + r.Intn(2)}
	for range 2 + r.Intn(3) {
		p.Kids = append(p.Kids, randomPol(r, levels-1, parts, predicate))
	}
	return p
}

// randomPairs answers a rising list of such fields.
func randomPairs(r *rand.Rand, from, end int) []api.Pair {
	var l []api.Pair
	for f := from; f < end; f++ {
		if r.Intn(2) == 0 {
			l = append(l, pair(f, uint16(r.Intn(1<<16))))
		}
	}
	return l
}

func randomProgram(r *rand.Rand) api.Program {
	parts := 1 + r.Intn(4)
	p := api.Program{Init: make([]uint16, parts), Pol: randomPol(r, 1+r.Intn(7), parts, false)}
	for range r.Intn(4) {
		p.Rules = append(p.Rules, api.Rule{
			When:  append(pairs(pair(0, 1), pair(1, 0)), randomPairs(r, 2, 8)...),
			Guard: randomPairs(r, 0, parts),
			Then:  append(pairs(pair(0, 1)), randomPairs(r, 1, parts)...),
		})
	}
	return p
}

// bend changes one thing in p, which may be well formed still.
func bend(r *rand.Rand, p *api.Program) {
	any := []int{-1, 0, 1, 2, 3, 4, 7, 8, 9}[r.Intn(9)]
	if r.Intn(8) == 0 {
		p.Init = make([]uint16, r.Intn(6))
	}
	if r.Intn(2) == 0 || len(p.Rules) == 0 {
		k := &p.Pol
		for len(k.Kids) > 0 && r.Intn(5) > 0 {
			k = &k.Kids[r.Intn(len(k.Kids))]
		}
		switch r.Intn(6) {
		case 0:
			k.Op = any
		case 1:
			k.F = any
		case 2:
			k.N = uint16(r.Intn(2))
		case 3:
			k.Kids = append(k.Kids, randomPol(r, 2, 2, false))
		case 4:
			k.Kids = k.Kids[:len(k.Kids)/2]
		case 5:
			*k = randomPol(r, 3, 4, false)
		}
		return
	}
	rule := &p.Rules[r.Intn(len(p.Rules))]
	l := []*[]api.Pair{&rule.When, &rule.Guard, &rule.Then}[r.Intn(3)]
	switch n := len(*l); {
	case n == 0 || r.Intn(3) == 0:
		*l = append(*l, pair(any, 5))
	case r.Intn(3) == 0:
		*l = slices.Delete(*l, n-1, n)
	case r.Intn(2) == 0:
		(*l)[r.Intn(n)].F = any
	default:
		i, j := r.Intn(n), r.Intn(n)
		(*l)[i], (*l)[j] = (*l)[j], (*l)[i]
	}
}

// P5.1: programs at random, bent at no, one or two places: Check, Predicate, Depth and Size against the models.
func TestCheckRandom(t *testing.T) {
	r := rand.New(rand.NewSource(505))
	tried := map[api.Errno]int{}
	predicates := map[bool]int{}
	for range 40000 {
		p := randomProgram(r)
		for range r.Intn(3) {
			bend(r, &p)
		}
		e := checkOf(p)
		wantCheck(t, p, e)
		tried[e]++
		is := isPredicate(p.Pol)
		if Predicate(p.Pol) != is || Depth(p.Pol) != depthOf(p.Pol) || Size(p.Pol) != len(nodesOf(p.Pol)) {
			t.Errorf("%+v: %v %v %v, want %v %v %v", p.Pol, Predicate(p.Pol), Depth(p.Pol), Size(p.Pol), is, depthOf(p.Pol), len(nodesOf(p.Pol)))
		}
		predicates[is]++
	}
	for _, e := range []api.Errno{api.OK, api.ErrLong, api.ErrForm} {
		if tried[e] < 1000 {
			t.Errorf("error %v was met %d times", e, tried[e])
		}
	}
	if predicates[true] < 1000 || predicates[false] < 1000 {
		t.Error(predicates)
	}
}

// R4: what is handed in is left as it is, behind the ends of its lists, too.
func TestCheckMemory(t *testing.T) {
	p := api.Program{Init: make([]uint16, 2, 9), Pol: sum(identity(), not(seq(test(1, 1), dropAll()))), Rules: make([]api.Rule, 1, 9)}
	p.Rules[0] = api.Rule{When: make([]api.Pair, 2, 9), Guard: make([]api.Pair, 1, 9), Then: make([]api.Pair, 2, 9)}
	r := p.Rules[0]
	r.When[1].F, r.Then[1].F = 1, 1
	wantCheck(t, p, api.OK)
	Predicate(p.Pol)
	Depth(p.Pol)
	Size(p.Pol)
	if !reflect.DeepEqual(p.Init[:9], make([]uint16, 9)) || !reflect.DeepEqual(r.Guard[:9], make([]api.Pair, 9)) || !reflect.DeepEqual(r.When[2:9], make([]api.Pair, 7)) || !reflect.DeepEqual(r.Then[2:9], make([]api.Pair, 7)) {
		t.Errorf("%+v", p)
	}
	if !reflect.DeepEqual(p.Pol, sum(identity(), not(seq(test(1, 1), dropAll())))) {
		t.Errorf("%+v", p.Pol)
	}
}
