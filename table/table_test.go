package table_test

import (
	"math"
	"math/rand"
	"slices"
	"strconv"
	"strings"
	"testing"

	"pointsman/api"
	"pointsman/show"
	"pointsman/table"
)

var names = []string{"sw", "pt", "src", "dst", "typ", "svc", "vid", "opt"}

// noFields lists numbers that are no field's.
var noFields = []int{-1, 8, 9, 256, 65536, math.MinInt, math.MaxInt}

// pair reads a field's name, or its number, then a sign and a number.
func pair(t testing.TB, s, sign string) api.Pair {
	t.Helper()
	name, digits, _ := strings.Cut(s, sign)
	f := slices.Index(names, name)
	if f < 0 {
		f = number(t, name)
	}
	return api.Pair{F: f, N: uint16(number(t, digits))}
}

func number(t testing.TB, s string) int {
	t.Helper()
	n, err := strconv.Atoi(s)
	if err != nil {
		t.Fatal(err)
	}
	return n
}

func pairs(t testing.TB, s, sign string) []api.Pair {
	t.Helper()
	var l []api.Pair
	if s != "id" {
		for part := range strings.SplitSeq(s, " ; ") {
			l = append(l, pair(t, part, sign))
		}
	}
	return l
}

func row(t testing.TB, s string) api.Row {
	t.Helper()
	match, acts, _ := strings.Cut(s, " -> ")
	r := api.Row{Match: pairs(t, match, "=")}
	if acts != "drop" {
		for act := range strings.SplitSeq(acts, " + ") {
			r.Acts = append(r.Acts, pairs(t, act, ":="))
		}
	}
	return r
}

// rows reads rows with a bar between; fields that there aren't are their numbers.
func rows(t testing.TB, s string) []api.Row {
	t.Helper()
	var l []api.Row
	if s != "" {
		for line := range strings.SplitSeq(s, " | ") {
			l = append(l, row(t, line))
		}
	}
	return l
}

// bars tells a list as rows reads it.
func bars(l []api.Row) string {
	var b strings.Builder
	for i, r := range l {
		if i > 0 {
			b.WriteString(" | ")
		}
		b.WriteString(pairsBar(r.Match, "=") + " -> ")
		for k, a := range r.Acts {
			if k > 0 {
				b.WriteString(" + ")
			}
			b.WriteString(pairsBar(a, ":="))
		}
		if len(r.Acts) == 0 {
			b.WriteString("drop")
		}
	}
	return b.String()
}

func pairsBar(l []api.Pair, sign string) string {
	s := ""
	for i, c := range l {
		if i > 0 {
			s += " ; "
		}
		if isField(c.F) {
			s += names[c.F]
		} else {
			s += strconv.Itoa(c.F)
		}
		s += sign + strconv.Itoa(int(c.N))
	}
	if s == "" {
		return "id"
	}
	return s
}

func isField(f int) bool { return 0 <= f && f < 8 }

// copied answers l in new memory.
func copied(l []api.Row) []api.Row {
	var own []api.Row
	for _, r := range l {
		c := api.Row{Match: slices.Clone(r.Match)}
		for _, a := range r.Acts {
			c.Acts = append(c.Acts, slices.Clone(a))
		}
		own = append(own, c)
	}
	return own
}

func anyPacket(r *rand.Rand, below int) api.Packet {
	var q api.Packet
	for f := range q {
		q[f] = uint16(r.Intn(below))
	}
	return q
}

// anyPairs answers pairs of few fields and numbers: rising ones, or any, among them such of fields that there aren't.
func anyPairs(r *rand.Rand, right bool) []api.Pair {
	var l []api.Pair
	for range r.Intn(4) {
		f := []int{0, 1, 3, 7}[r.Intn(4)]
		if !right && r.Intn(6) == 0 {
			f = noFields[r.Intn(len(noFields))]
		}
		l = append(l, api.Pair{F: f, N: uint16(r.Intn(3))})
	}
	if right {
		slices.SortFunc(l, func(a, b api.Pair) int { return a.F - b.F })
		l = slices.CompactFunc(l, func(a, b api.Pair) bool { return a.F == b.F })
	}
	return l
}

func anyRows(r *rand.Rand, n int, right bool) []api.Row {
	var l []api.Row
	for range n {
		a := api.Row{Match: anyPairs(r, right)}
		for range r.Intn(4) {
			a.Acts = append(a.Acts, anyPairs(r, right))
		}
		l = append(l, a)
	}
	return l
}

// P9.1: Lookup, by hand.
func TestLookup(t *testing.T) {
	q := api.Packet{1, 2, 3, 4, 5, 6, 7, 65535}
	for _, c := range []struct {
		l    string
		at   int
		want []api.Packet
	}{
		{"", -1, nil},
		{"id -> drop", 0, nil},
		{"id -> id", 0, []api.Packet{q}},
		{"dst=4 -> pt:=9 | id -> drop", 0, []api.Packet{{1, 9, 3, 4, 5, 6, 7, 65535}}},
		{"dst=5 -> pt:=9 | id -> pt:=8", 1, []api.Packet{{1, 8, 3, 4, 5, 6, 7, 65535}}},
		{"dst=5 -> pt:=9 | src=4 -> pt:=8", -1, nil},
		// The first row that matches, though it makes nothing, and though others ask for more.
		{"dst=4 -> drop | src=3 ; dst=4 -> id", 0, nil},
		{"sw=0 -> id | id -> drop | id -> id", 1, nil},
		{"src=3 ; dst=5 -> id | src=2 ; dst=4 -> id | src=3 ; dst=4 -> pt:=1 | id -> id", 2, []api.Packet{{1, 1, 3, 4, 5, 6, 7, 65535}}},
		{"sw=1 ; pt=2 ; src=3 ; dst=4 ; typ=5 ; svc=6 ; vid=7 ; opt=65534 -> id", -1, nil},
		{"sw=1 ; pt=2 ; src=3 ; dst=4 ; typ=5 ; svc=6 ; vid=7 ; opt=65535 -> id", 0, []api.Packet{q}},
		// What is made is in order, each once.
		{"id -> pt:=9 + pt:=1 + pt:=5", 0, []api.Packet{{1, 1, 3, 4, 5, 6, 7, 65535}, {1, 5, 3, 4, 5, 6, 7, 65535}, {1, 9, 3, 4, 5, 6, 7, 65535}}},
		{"id -> pt:=256 + pt:=1", 0, []api.Packet{{1, 1, 3, 4, 5, 6, 7, 65535}, {1, 256, 3, 4, 5, 6, 7, 65535}}},
		{"id -> opt:=0 + src:=9 + id", 0, []api.Packet{{1, 2, 3, 4, 5, 6, 7, 0}, q, {1, 2, 9, 4, 5, 6, 7, 65535}}},
		{"id -> id + id", 0, []api.Packet{q}},
		{"id -> pt:=2 + id + dst:=4", 0, []api.Packet{q}},
		{"id -> pt:=1 ; dst:=1 + pt:=1", 0, []api.Packet{{1, 1, 3, 1, 5, 6, 7, 65535}, {1, 1, 3, 4, 5, 6, 7, 65535}}},
		{"id -> sw:=7", 0, []api.Packet{{7, 2, 3, 4, 5, 6, 7, 65535}}},
		// Lists that aren't right.
		{"dst=4 ; src=3 -> id", 0, []api.Packet{q}},
		{"dst=4 ; dst=4 -> id", 0, []api.Packet{q}},
		{"dst=4 ; dst=5 -> id | id -> drop", 1, nil},
		{"8=0 -> id | -1=0 -> id", -1, nil},
		{"dst=4 ; 8=0 -> id | id -> id", 1, []api.Packet{q}},
		{"id -> pt:=8 ; pt:=9", 0, []api.Packet{{1, 9, 3, 4, 5, 6, 7, 65535}}},
		{"id -> dst:=8 ; pt:=9", 0, []api.Packet{{1, 9, 3, 8, 5, 6, 7, 65535}}},
		{"id -> 8:=9 + -1:=9", 0, []api.Packet{q}},
		{"id -> 8:=9 ; pt:=9", 0, []api.Packet{{1, 9, 3, 4, 5, 6, 7, 65535}}},
	} {
		if got, at := table.Lookup(rows(t, c.l), q); at != c.at || !slices.Equal(got, c.want) {
			t.Errorf("%q: %v by %d, want %v by %d", c.l, got, at, c.want, c.at)
		}
	}
}

// had tells, field by field, whether q has all of l.
func had(q api.Packet, l []api.Pair) bool {
	n := 0
	for f, v := range q {
		for _, c := range l {
			if c.F == f && c.N == v {
				n++
			}
		}
	}
	return n == len(l)
}

// modelLookup is Lookup by sets of packets, of which the least one is taken out again and again.
func modelLookup(l []api.Row, q api.Packet) ([]api.Packet, int) {
	for i, r := range l {
		if !had(q, r.Match) {
			continue
		}
		set := map[api.Packet]int{}
		for _, a := range r.Acts {
			p := q
			for _, c := range a {
				if isField(c.F) {
					p[c.F] = c.N
				}
			}
			set[p] = 1
		}
		return emptied(set), i
	}
	return nil, -1
}

func emptied(set map[api.Packet]int) []api.Packet {
	var l []api.Packet
	for len(set) > 0 {
		var least *api.Packet
		for p := range set {
			if least == nil || isAhead(p, *least) {
				least = &p
			}
		}
		l = append(l, *least)
		delete(set, *least)
	}
	return l
}

func isAhead(a, b api.Packet) bool {
	for f := range a {
		if a[f] != b[f] {
			return a[f] < b[f]
		}
	}
	return false
}

// P9.1: Lookup, of any lists and packets.
func TestLookupAtRandom(t *testing.T) {
	r := rand.New(rand.NewSource(1))
	places := map[int]int{}
	for range 30000 {
		l, q := anyRows(r, r.Intn(6), r.Intn(2) == 0), anyPacket(r, 3)
		got, at := table.Lookup(l, q)
		want, wantAt := modelLookup(l, q)
		places[at]++
		if at != wantAt || !slices.Equal(got, want) {
			t.Fatalf("%s: of %v %v by %d, want %v by %d", bars(l), q, got, at, want, wantAt)
		}
	}
	for at := -1; at < 5; at++ {
		if places[at] < 300 {
			t.Errorf("place %d only %d times", at, places[at])
		}
	}
}

// P9.1: Lookup goes through lists and rows that are longer than the limits, too.
func TestLookupOfLong(t *testing.T) {
	var l []api.Row
	for n := range 3000 {
		l = append(l, api.Row{Match: []api.Pair{{F: 3, N: uint16(n)}}, Acts: []api.Act{{{F: 1, N: uint16(n)}}}})
	}
	for _, n := range []uint16{0, 1, 999, 1000, 1001, 2999} {
		got, at := table.Lookup(l, api.Packet{0, 0, 0, n})
		if at != int(n) || len(got) != 1 || got[0] != (api.Packet{0, n, 0, n}) {
			t.Error(n, got, at)
		}
	}
	if got, at := table.Lookup(l, api.Packet{0, 0, 0, 3000}); at != -1 || len(got) != 0 {
		t.Error(got, at)
	}
	var acts []api.Act
	for n := range 500 {
		acts = append(acts, api.Act{{F: 1, N: uint16(499 - n)}})
	}
	got, at := table.Lookup([]api.Row{{Acts: acts}}, api.Packet{})
	if at != 0 || len(got) != 500 || got[0] != (api.Packet{}) || got[499] != (api.Packet{0, 499}) {
		t.Error(got, at)
	}
}

// P9.1: Covers, by hand.
func TestCovers(t *testing.T) {
	for _, c := range []struct {
		a, b string
		want bool
	}{
		{"id -> drop", "id -> id", true},
		{"id -> drop", "dst=1 -> id", true},
		{"dst=1 -> drop", "id -> drop", false},
		{"dst=1 -> drop", "dst=1 -> id", true},
		{"dst=1 -> drop", "dst=2 -> drop", false},
		{"dst=1 -> drop", "src=1 -> drop", false},
		{"dst=1 -> drop", "src=1 ; dst=1 -> drop", true},
		{"dst=1 -> drop", "dst=1 ; opt=0 -> drop", true},
		{"src=1 ; dst=1 -> drop", "dst=1 -> drop", false},
		{"src=1 ; dst=1 -> drop", "src=1 -> drop", false},
		{"src=1 ; dst=1 -> drop", "src=1 ; dst=1 -> drop", true},
		{"src=1 ; opt=1 -> drop", "src=1 ; dst=1 ; opt=1 -> drop", true},
		{"src=1 ; opt=1 -> drop", "src=1 ; dst=1 ; opt=2 -> drop", false},
		{"src=1 ; dst=1 -> drop", "src=1 ; opt=1 -> drop", false},
		// In any order, however often, and of fields that there aren't.
		{"dst=1 ; src=1 -> drop", "src=1 ; dst=1 -> drop", true},
		{"dst=1 ; dst=1 -> drop", "dst=1 -> drop", true},
		{"dst=1 ; dst=2 -> drop", "dst=1 -> drop", false},
		{"dst=1 -> drop", "dst=2 ; dst=1 -> drop", true},
		{"8=1 -> drop", "8=1 -> drop", true},
		{"8=1 -> drop", "9=1 -> drop", false},
		{"8=1 -> drop", "id -> drop", false},
		{"id -> drop", "-1=1 -> drop", true},
	} {
		if got := table.Covers(row(t, c.a), row(t, c.b)); got != c.want {
			t.Errorf("%s covers %s: %v", c.a, c.b, got)
		}
	}
}

// P9.1: a row covers another one just if all packets, or what stands for such, that have the other's match have its own; what they make doesn't matter.
func TestCoversAtRandom(t *testing.T) {
	r := rand.New(rand.NewSource(2))
	count := 0
	for range 20000 {
		right := r.Intn(2) == 0
		a, b := anyRows(r, 1, right)[0], anyRows(r, 1, right)[0]
		set := map[api.Pair]int{}
		for _, c := range b.Match {
			set[c] = 1
		}
		want := true
		for _, c := range a.Match {
			want = want && set[c] == 1
		}
		if table.Covers(a, b) != want {
			t.Fatal(bars([]api.Row{a, b}), !want)
		}
		if want {
			count++
		}
	}
	if count < 2000 || count > 18000 {
		t.Error(count)
	}
}

// P9.1: At, by hand.
func TestAt(t *testing.T) {
	l := "sw=1 ; dst=2 -> pt:=3 | sw=2 ; dst=2 -> pt:=4 + pt:=5 | dst=9 -> sw:=1 | sw=1 -> drop | sw=0 -> id | sw=65535 ; opt=1 -> drop | src=1 ; dst=2 -> id | id -> drop"
	for sw, want := range map[uint16]string{
		1:     "dst=2 -> pt:=3 | dst=9 -> sw:=1 | id -> drop | src=1 ; dst=2 -> id | id -> drop",
		2:     "dst=2 -> pt:=4 + pt:=5 | dst=9 -> sw:=1 | src=1 ; dst=2 -> id | id -> drop",
		0:     "dst=9 -> sw:=1 | id -> id | src=1 ; dst=2 -> id | id -> drop",
		65535: "dst=9 -> sw:=1 | opt=1 -> drop | src=1 ; dst=2 -> id | id -> drop",
		3:     "dst=9 -> sw:=1 | src=1 ; dst=2 -> id | id -> drop",
		257:   "dst=9 -> sw:=1 | src=1 ; dst=2 -> id | id -> drop",
	} {
		if got := bars(table.At(rows(t, l), sw)); got != want {
			t.Errorf("At(%d) = %s, want %s", sw, got, want)
		}
	}
	for _, l := range [][]api.Row{nil, {}, rows(t, "sw=1 -> id"), rows(t, "sw=1 ; pt=3 -> id | sw=2 -> drop")} {
		if got := table.At(l, 3); len(got) != 0 {
			t.Errorf("%s: %s", bars(l), bars(got))
		}
	}
}

// P9.1: At of any lists that are right is the rows that don't ask for another switch, in their order, without the first pair, if that asks for this one; it is right again, and makes the same of this switch's packets.
func TestAtAtRandom(t *testing.T) {
	r := rand.New(rand.NewSource(3))
	for range 10000 {
		l, sw := anyRows(r, r.Intn(7), true), uint16(r.Intn(3))
		var want []api.Row
		for _, a := range copied(l) {
			switch {
			case len(a.Match) == 0 || a.Match[0].F != 0:
				want = append(want, a)
			case a.Match[0].N == sw:
				want = append(want, api.Row{Match: a.Match[1:], Acts: a.Acts})
			}
		}
		own := table.At(l, sw)
		if bars(own) != bars(want) || !table.Right(own) {
			t.Fatalf("%s at %d: %s", bars(l), sw, bars(own))
		}
		q := anyPacket(r, 3)
		q[0] = sw
		made, _ := table.Lookup(l, q)
		if got, _ := table.Lookup(own, q); !slices.Equal(got, made) {
			t.Fatalf("%s at %d: of %v %v, want %v", bars(l), sw, q, got, made)
		}
	}
}

// rising answers the pairs of fields from one to the one ahead of another.
func rising(from, to int) []api.Pair {
	var l []api.Pair
	for f := from; f < to; f++ {
		l = append(l, api.Pair{F: f})
	}
	return l
}

// P9.1: Right asks for at most 1000 rows, and at most 32 acts of each.
func TestRightLimits(t *testing.T) {
	for n, want := range map[int]bool{0: true, 1: true, 999: true, 1000: true, 1001: false, 5000: false} {
		if table.Right(make([]api.Row, n)) != want {
			t.Errorf("%d rows: %v", n, !want)
		}
	}
	for n, want := range map[int]bool{0: true, 1: true, 31: true, 32: true, 33: false, 64: false, 1000: false} {
		for _, at := range []int{0, 1, 500, 999} {
			l := make([]api.Row, 1000)
			l[at].Acts = make([]api.Act, n)
			if table.Right(l) != want || table.Right(l[:at+1]) != want || table.Right(l[at:]) != want {
				t.Errorf("%d acts at %d: %v", n, at, !want)
			}
		}
	}
	l := make([]api.Row, 1000)
	for i := range l {
		l[i] = api.Row{Match: rising(0, 8), Acts: slices.Repeat([]api.Act{rising(0, 8)}, 32)}
	}
	if !table.Right(l) || !table.Right(nil) || !table.Right([]api.Row{}) {
		t.Error("what is right")
	}
}

// P9.1: Right asks for matches and acts that rise by fields that there are.
func TestRightPairs(t *testing.T) {
	type trial struct {
		l    []api.Pair
		want bool
	}
	l := []trial{
		{nil, true}, {[]api.Pair{}, true}, {rising(0, 8), true}, {rising(0, 9), false}, {rising(-1, 8), false}, {rising(-1, 1), false},
		{[]api.Pair{{F: 3, N: 1}, {F: 3, N: 1}}, false}, {[]api.Pair{{F: 3, N: 1}, {F: 3, N: 2}}, false},
		{[]api.Pair{{F: 0}, {F: 0}}, false}, {[]api.Pair{{F: 7}, {F: 7}}, false},
		{[]api.Pair{{F: 1, N: 9}, {F: 2, N: 1}}, true}, {[]api.Pair{{F: 2, N: 1}, {F: 1, N: 9}}, false},
		{[]api.Pair{{F: 1}, {F: 3}, {F: 2}}, false}, {[]api.Pair{{F: 2}, {F: 1}, {F: 3}}, false}, {[]api.Pair{{F: 1}, {F: 2}, {F: 1}}, false},
	}
	for f := range 8 {
		l = append(l, trial{[]api.Pair{{F: f, N: 65535}}, true})
		for g := range 8 {
			l = append(l, trial{[]api.Pair{{F: f}, {F: g}}, f < g})
		}
	}
	for _, f := range noFields {
		l = append(l, trial{[]api.Pair{{F: f}}, false}, trial{[]api.Pair{{F: 1}, {F: f}}, false}, trial{[]api.Pair{{F: f}, {F: 1}}, false})
	}
	good := row(t, "sw=1 ; dst=2 -> id + pt:=1 ; opt:=2")
	for _, c := range l {
		for _, r := range []api.Row{{Match: c.l}, {Match: c.l, Acts: []api.Act{{}}}, {Acts: []api.Act{c.l}}, {Match: good.Match, Acts: []api.Act{{{F: 1}}, c.l}}, {Acts: []api.Act{c.l, {{F: 1}}}}} {
			for _, l := range [][]api.Row{{r}, {good, r}, {r, good}, {good, r, good}} {
				if table.Right(l) != c.want {
					t.Errorf("%s: %v", bars(l), !c.want)
				}
			}
		}
	}
}

// P9.1: Right asks for nothing else: rows and acts may be in any order, and stand there twice.
func TestRightOtherwise(t *testing.T) {
	for _, s := range []string{
		"id -> drop | dst=1 -> id", "dst=2 -> id | dst=1 -> id", "id -> drop | id -> drop", "dst=1 -> pt:=2 + pt:=1", "dst=1 -> pt:=2 + pt:=2", "id -> pt:=1 + id", "dst=1 -> dst:=1", "sw=1 -> sw:=2", "dst=1 -> id",
	} {
		if !table.Right(rows(t, s)) {
			t.Error(s)
		}
	}
}

// P9.1: Same of lists that are unlike somewhere, and that aren't.
func TestSame(t *testing.T) {
	l := []string{
		"", "id -> drop", "id -> id", "id -> drop | id -> drop", "id -> id + id", "dst=1 -> drop", "dst=2 -> drop", "src=1 -> drop", "dst=1 -> id", "dst=1 -> pt:=1", "dst=1 -> pt:=2", "dst=1 -> src:=1",
		"dst=1 -> pt:=1 + pt:=2", "dst=1 -> pt:=2 + pt:=1", "dst=1 -> pt:=1 ; src:=2", "dst=1 -> src:=2 ; pt:=1", "dst=1 -> pt:=1 + src:=2", "dst=1 -> pt:=1 + pt:=1", "dst=1 -> pt:=1 + id", "dst=1 -> id + pt:=1",
		"src=1 ; dst=1 -> drop", "dst=1 ; src=1 -> drop", "dst=1 ; dst=1 -> drop", "8=1 -> drop", "-1=1 -> drop", "id -> 8:=1",
		"dst=1 -> drop | dst=2 -> id", "dst=2 -> id | dst=1 -> drop", "dst=1 -> drop | dst=2 -> drop", "dst=1 -> drop | dst=2 -> id | id -> drop", "dst=1 -> id | dst=2 -> drop",
	}
	for i, a := range l {
		for k, b := range l {
			if got := table.Same(rows(t, a), rows(t, b)); got != (i == k) {
				t.Errorf("%q and %q: %v", a, b, got)
			}
		}
	}
	empty := []api.Row{{Match: []api.Pair{}, Acts: []api.Act{{}}}, {Acts: []api.Act{}}}
	if !table.Same(empty, []api.Row{{Acts: []api.Act{nil}}, {}}) || !table.Same(nil, []api.Row{}) {
		t.Error("lists without anything")
	}
	long := make([]api.Row, 2000)
	other := slices.Clone(long)
	other[1999].Match = []api.Pair{{}}
	if !table.Same(long, long) || table.Same(long, other) || table.Same(long, long[1:]) {
		t.Error("long lists")
	}
}

// P9.1: Same is so just of lists that are told alike, all numbers said.
func TestSameAtRandom(t *testing.T) {
	r := rand.New(rand.NewSource(4))
	same := 0
	for range 30000 {
		a := anyRows(r, 1+r.Intn(2), r.Intn(2) == 0)
		b := copied(a)
		for range r.Intn(3) {
			b[r.Intn(len(b))] = anyRows(r, 1, true)[0]
		}
		want := bars(a) == bars(b)
		if table.Same(a, b) != want || table.Same(b, a) != want {
			t.Fatalf("%s and %s: %v", bars(a), bars(b), !want)
		}
		if want {
			same++
		}
	}
	if same < 8000 || same > 20000 {
		t.Error(same)
	}
}

// P9.1: Text, by hand.
func TestText(t *testing.T) {
	for _, c := range [][2]string{
		{"", ""},
		{"id -> drop", "id -> drop\n"},
		{"id -> id", "id -> id\n"},
		{"id -> id + id", "id -> id + id\n"},
		{"dst=1 -> pt:=2 | id -> drop", "dst=1 -> pt:=2\nid -> drop\n"},
		{"sw=0 ; pt=1 ; src=10 ; dst=256 ; typ=9999 ; svc=10000 ; vid=65535 ; opt=7 -> drop", "sw=0 ; pt=1 ; src=10 ; dst=256 ; typ=9999 ; svc=10000 ; vid=65535 ; opt=7 -> drop\n"},
		{"id -> pt:=0 ; opt:=65535 + id + sw:=3", "id -> pt:=0 ; opt:=65535 + id + sw:=3\n"},
		// Of lists that aren't right: in the order that they have, but without fields that there aren't.
		{"dst=1 ; src=2 ; dst=1 -> pt:=2 ; pt:=1", "dst=1 ; src=2 ; dst=1 -> pt:=2 ; pt:=1\n"},
		{"8=1 -> drop", "id -> drop\n"},
		{"-1=1 ; 9=0 -> 8:=1", "id -> id\n"},
		{"-1=1 ; dst=1 ; 8=2 ; opt=0 ; 9=9 -> 8:=1 ; pt:=2 ; 8:=2 + -1:=4 + pt:=3", "dst=1 ; opt=0 -> pt:=2 + id + pt:=3\n"},
		{"9223372036854775807=0 ; -9223372036854775808=0 ; src=1 -> id", "src=1 -> id\n"},
	} {
		if got := table.Text(rows(t, c[0])); got != c[1] {
			t.Errorf("%q: %q, want %q", c[0], got, c[1])
		}
	}
	if got := table.Text([]api.Row{}); got != "" {
		t.Errorf("%q", got)
	}
	if got := table.Text(make([]api.Row, 3000)); got != strings.Repeat("id -> drop\n", 3000) {
		t.Error(len(got))
	}
}

// shown tells pairs as layer 6 tells a sequence of tests, or of puts.
func shown(op int, l []api.Pair) string {
	var kids []api.Pol
	for _, c := range l {
		if isField(c.F) {
			kids = append(kids, api.Pol{Op: op, F: c.F, N: c.N})
		}
	}
	switch len(kids) {
	case 0:
		return show.Pol(api.Pol{Op: api.Id})
	case 1:
		return show.Pol(kids[0])
	}
	return show.Pol(api.Pol{Op: api.Seq, Kids: kids})
}

// P9.1: Text, of any lists (but for puts of sw, which layer 6 has none of), as layer 6 writes tests and puts.
func TestTextAtRandom(t *testing.T) {
	r := rand.New(rand.NewSource(5))
	isSwitch := func(c api.Pair) bool { return c.F == api.Sw }
	for range 5000 {
		l := anyRows(r, r.Intn(5), r.Intn(2) == 0)
		want := ""
		for _, a := range l {
			var acts []string
			for i := range a.Acts {
				a.Acts[i] = slices.DeleteFunc(a.Acts[i], isSwitch)
				acts = append(acts, shown(api.Put, a.Acts[i]))
			}
			if len(acts) == 0 {
				acts = []string{"drop"}
			}
			want += shown(api.Test, a.Match) + " -> " + strings.Join(acts, " + ") + "\n"
		}
		if got := table.Text(l); got != want {
			t.Fatalf("%s: %q, want %q", bars(l), got, want)
		}
	}
}

// P0: nothing panics, of lists with any numbers.
func TestAnyNumbers(t *testing.T) {
	var l []api.Row
	for _, f := range noFields {
		for _, g := range append([]int{0, 7}, noFields...) {
			both := []api.Pair{{F: f, N: 65535}, {F: g}}
			l = append(l, api.Row{Match: both, Acts: []api.Act{both, nil, {}}})
		}
	}
	if got, at := table.Lookup(l, api.Packet{}); at != -1 || len(got) != 0 {
		t.Error(got, at)
	}
	if table.Right(l) || !table.Same(l, copied(l)) || !table.Covers(l[0], l[0]) || table.Covers(l[0], l[1]) {
		t.Error("of numbers that are no field's")
	}
	table.At(l, 0)
	table.Text(l)
}

// parts answers all lists of pairs in l.
func parts(l []api.Row) [][]api.Pair {
	var all [][]api.Pair
	for _, r := range l {
		all = append(all, r.Match)
		for _, a := range r.Acts {
			all = append(all, a)
		}
	}
	return all
}

// wantApart holds that no two of the lists of an answer share memory, up to their capacities, nor one with what was handed in.
func wantApart(t *testing.T, answer func() []api.Row, handed []api.Row) {
	t.Helper()
	was, told := bars(handed), bars(answer())
	for i := range parts(answer()) {
		l := answer()
		all := parts(l)
		kept := slices.Clone(all[i])
		for k := range all[i][:cap(all[i])] {
			all[i][:cap(all[i])][k] = api.Pair{F: 77, N: 77}
		}
		if bars(handed) != was {
			t.Fatalf("%s became %s", was, bars(handed))
		}
		copy(all[i], kept)
		if bars(l) != told {
			t.Fatalf("%s became %s", told, bars(l))
		}
	}
	for i, l := 0, answer(); i < len(l); i++ {
		clear(l[i].Acts[:cap(l[i].Acts)])
		l[i].Acts = answer()[i].Acts
		if bars(handed) != was || bars(l) != told {
			t.Fatalf("%s became %s, or %s %s", was, bars(handed), told, bars(l))
		}
	}
}

// R4: nothing that is handed in is changed, behind its end neither; and what is answered shares nothing with it, nor within.
func TestMemory(t *testing.T) {
	r := rand.New(rand.NewSource(6))
	for range 500 {
		whole := anyRows(r, 8, true)
		// The same memory thrice, as what is handed in may have it.
		whole[3], whole[4] = whole[2], whole[2]
		was, l := bars(whole), whole[1:6]
		wantApart(t, func() []api.Row { return table.At(l, 1) }, whole)
		made, _ := table.Lookup(l, anyPacket(r, 3))
		clear(made)
		table.Covers(l[0], l[1])
		table.Right(l)
		table.Same(l, whole[:5])
		table.Text(l)
		if bars(whole) != was {
			t.Fatalf("%s became %s", was, bars(whole))
		}
	}
}
