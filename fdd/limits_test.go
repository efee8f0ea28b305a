package fdd_test

import (
	"math/rand"
	"reflect"
	"slices"
	"strings"
	"testing"

	"pointsman/api"
	"pointsman/fdd"
	"pointsman/packet"
	"pointsman/policy"
	"pointsman/syntax"
)

func anyPacket(r *rand.Rand, below int) api.Packet {
	var q api.Packet
	for f := range q {
		q[f] = uint16(r.Intn(below))
	}
	return q
}

func anyPackets(r *rand.Rand, n, below int) []api.Packet {
	var l []api.Packet
	for range n {
		l = append(l, anyPacket(r, below))
	}
	return l
}

func width(p api.Pol) int {
	w := 1
	switch p.Op {
	case api.Sum:
		w = 0
		for _, kid := range p.Kids {
			w += width(kid)
		}
	case api.Seq:
		for _, kid := range p.Kids {
			w *= width(kid)
		}
	}
	return w
}

func isSlim(p api.Pol) bool {
	wide := func(kid api.Pol) bool { return !isSlim(kid) }
	return syntax.Size(p) <= 20 && width(p) <= 64 && !slices.ContainsFunc(p.Kids, wide)
}

// P8.1: sets of 64 packets and of 65, of kids and of beginnings, whatever stands behind; and of some packets alone.
func TestWork(t *testing.T) {
	full := puts(2, 65)
	most := puts(2, 64)
	cube := seq(puts(3, 4), puts(4, 4), puts(5, 4))
	two := sum(put(6, 1), put(6, 2))
	for _, c := range []struct {
		name string
		p    api.Pol
		full bool
	}{
		{"a sum of 64", most, false},
		{"a sum of 65", full, true},
		{"a sum of 64, and the packet", sum(most, identity()), true},
		{"the packet, and a sum of 63", sum(identity(), puts(2, 63)), false},
		{"a sum of 64, twice", sum(most, most), false},
		{"a sum of 64, and nothing", sum(most, dropAll()), false},
		{"a sum of 64, and another packet for some", sum(most, seq(test(1, 7), put(2, 99))), true},
		{"a sum of 64, or another packet", sum(seq(test(1, 7), put(2, 99)), seq(not(test(1, 7)), most)), false},
		{"a sequence of 64", cube, false},
		{"a sequence of 128", seq(cube, two), true},
		{"a sequence of 128, in one", seq(puts(3, 4), puts(4, 4), puts(5, 4), two), true},
		{"a sequence of 128 that comes to 64", seq(cube, two, test(6, 1)), true},
		{"a sequence of 128 that comes to one", seq(cube, two, test(3, 1), test(4, 1), test(5, 1), test(6, 1)), true},
		{"a sequence of 128 that comes to nothing", seq(cube, two, dropAll()), true},
		{"64 and then nothing", seq(most, dropAll()), false},
		{"65 ahead of nothing", seq(full, dropAll()), true},
		{"65 ahead of one", seq(full, test(2, 1)), true},
		{"65 ahead of a put", seq(full, put(2, 1)), true},
		{"65 in a sum", sum(dropAll(), seq(full, dropAll())), true},
		{"65 in a sequence, of a kid", seq(seq(full, put(2, 1)), put(3, 1)), true},
		{"65 behind nothing", seq(dropAll(), full), false},
		{"65 behind what is never so", seq(test(1, 1), test(1, 2), full), false},
		{"65 behind what isn't so by then", seq(put(1, 1), test(1, 2), full), false},
		{"65 behind what is so for some", seq(test(1, 0), full), true},
		{"65 behind what is so for all but one", seq(not(test(1, 0)), full), true},
		{"65 behind what is so for one packet", seq(test(0, 1), test(1, 2), test(2, 3), test(3, 4), test(4, 5), test(5, 6), test(6, 7), test(7, 8), full), true},
		{"65 that no packet comes to, in a sum", sum(identity(), seq(test(1, 1), not(test(1, 1)), full)), false},
		{"65 in a state that isn't", seq(state(0, 5), full), false},
		{"65 in a state that is", seq(state(0, 4), full), true},
		{"64 as 32 times 2", seq(puts(3, 32), two), false},
		{"66 as 33 times 2", seq(puts(3, 33), two), true},
		{"65 as 13 times 5", seq(puts(3, 13), puts(4, 5)), true},
		{"64 puts of 64 packets to the same field", seq(most, most), false},
		{"64 puts to the same field, and one other", seq(most, sum(most, put(3, 1))), true},
		{"64 packets, each its own or one of them", seq(most, sum(identity(), put(2, 1))), false},
		{"64 packets, each its own or another one", seq(most, sum(identity(), put(2, 65))), true},
		{"64 packets that become 1, and then 64", seq(most, put(2, 1), cube), false},
		{"64 packets that become 2, and then 128", seq(most, sum(put(2, 1), put(2, 2)), cube), true},
		{"64 of each packet, 64 of all", seq(puts(2, 8), seq(puts(2, 8), puts(3, 8))), false},
		{"8 of each packet, 65 of all", seq(puts(2, 8), sum(seq(test(2, 1), puts(3, 9)), seq(not(test(2, 1)), puts(3, 8)))), true},
		{"8 of each packet, 64 of all", seq(puts(2, 8), sum(seq(test(2, 1), puts(3, 8)), seq(not(test(2, 1)), puts(3, 8)))), false},
		{"a sequence within, 512 of all ahead of its end", seq(puts(3, 8), seq(puts(4, 8), seq(puts(5, 8), test(5, 1)))), false},
		{"the same without brackets", seq(puts(3, 8), puts(4, 8), puts(5, 8), test(5, 1)), true},
	} {
		if isSlim(c.p) && c.full {
			t.Fatal(c.name)
		}
		if c.full {
			wantNone(t, c.p, []uint16{4}, api.ErrFull)
			continue
		}
		d := built(t, c.p, 4)
		for _, q := range append(reps(c.p)[:1], api.Packet{1, 7}, api.Packet{1, 2, 3, 4, 5, 6, 7, 8}, api.Packet{60000, 60000, 60000}) {
			want, e := policy.Make(c.p, []uint16{4}, q)
			if got := d.Make(q); e != api.OK || !slices.Equal(got, want) {
				t.Errorf("%s: Make(%v) = %v, want %v, error %d", c.name, q, got, want, e)
			}
		}
	}
}

// anyWork answers a sequence within sequences of sums of puts and tests, at random, so that sets are about as great as they may be.
func anyWork(r *rand.Rand, levels int) api.Pol {
	var kids []api.Pol
	for range 2 + r.Intn(2) {
		f, n := 1+r.Intn(3), 1+r.Intn(5)
		switch k := r.Intn(10); {
		case k < 4 && levels > 0:
			kids = append(kids, anyWork(r, levels-1))
		case k < 8:
			kids = append(kids, sum(append(puts(f, n).Kids, identity())...))
		case k == 8:
			kids = append(kids, not(test(f, uint16(n))))
		default:
			kids = append(kids, sum(test(f, 1), test(f, 2)))
		}
	}
	if r.Intn(4) == 0 {
		return sum(kids...)
	}
	return seq(kids...)
}

// P8.1: work that is too great for some packet always is ErrFull; the rest is made as it is, or, if it isn't slim, may be ErrFull too.
func TestWorkAtRandom(t *testing.T) {
	r := rand.New(rand.NewSource(9))
	count := map[api.Errno]int{}
	refused := 0
	for range 800 {
		p := anyWork(r, 3)
		if !isFormed(p) {
			continue
		}
		want := api.OK
		l := reps(p)
		for _, q := range slices.Backward(l) {
			if _, want = policy.Make(p, nil, q); want != api.OK {
				break
			}
		}
		d, e := fdd.Build(p, nil)
		count[want]++
		switch {
		case e == api.ErrFull && want == api.OK && !isSlim(p):
			refused++
		case e != want || (d == nil) != (e != api.OK):
			t.Errorf("%s: error %d, want %d", brief(p), e, want)
		case e == api.OK:
			wantMakes(t, p, nil, l[:min(len(l), 20)])
		}
	}
	if count[api.OK] < 400 || count[api.ErrFull] < 100 || refused > 50 {
		t.Error(count, refused)
	}
}

// anySlim answers a slim policy of many nodes and all fields, at random.
func anySlim(r *rand.Rand) api.Pol {
	for {
		if p := anyWide(r, 12+r.Intn(9), false); isSlim(p) && isFormed(p) {
			return p
		}
	}
}

func anyWide(r *rand.Rand, size int, predicate bool) api.Pol {
	switch {
	case size == 1 && (predicate || r.Intn(5) < 3):
		return test(r.Intn(8), uint16(r.Intn(3)))
	case size == 1:
		return put(1+r.Intn(7), uint16(r.Intn(3)))
	case size == 2:
		return not(anyWide(r, 1, true))
	}
	var kids []api.Pol
	for left := size - 1; left > 0; {
		n := 1 + r.Intn(min(left, 6))
		if n == size-1 {
			n--
		}
		kids = append(kids, anyWide(r, n, predicate))
		left -= n
	}
	return api.Pol{Op: []int{api.Seq, api.Sum}[r.Intn(2)], Kids: kids}
}

// P8.1: a slim policy has a diagram.
func TestSlim(t *testing.T) {
	r := rand.New(rand.NewSource(4))
	for range 1500 {
		wantMakes(t, anySlim(r), nil, anyPackets(r, 8, 4))
	}
	var pairs []api.Pol
	for f := 1; f <= 6; f++ {
		pairs = append(pairs, sum(put(f, 1), put(f, 2)))
	}
	for _, p := range []api.Pol{
		seq(pairs...),
		seq(append(pairs, put(7, 1))...),
		seq(append(pairs, test(0, 1))...),
		seq(puts(1, 4), puts(2, 4), puts(3, 4), test(4, 1), test(5, 1), test(6, 1), test(7, 1)),
		sum(puts(1, 19).Kids...),
		sum(seq(puts(1, 7), puts(2, 8)), identity()),
		not(sum(test(1, 1), test(2, 2), seq(test(3, 3), test(4, 4)), not(test(5, 5)))),
		deep(20),
		// Nearly as many rows as there may be.
		parsed(t, "opt=2 ; (sw=1 + sw=0 + pt:=0 + vid:=1 ; src=2) ; (pt=1 + dst:=3 + typ=1 + typ=0) ; (dst=1 + svc=2 + svc=1 + dst=2) ; vid=1"),
	} {
		if !isSlim(p) {
			t.Fatal(brief(p))
		}
		wantMakes(t, p, nil, anyPackets(r, 200, 5))
	}
}

// grid: puts by the numbers 1 to n of three fields, each with its own, so that there is a row for each of their triples, none of a field being one more number.
func grid(n ...int) api.Pol {
	var l []api.Pol
	for i := range n {
		for k := range n[i] {
			l = append(l, seq(test(2+i, uint16(k+1)), put(5+i, uint16(k+1))))
		}
	}
	return sum(l...)
}

// P8.1: 1000 rows are told, and of 1001 none.
func TestManyRows(t *testing.T) {
	r := rand.New(rand.NewSource(6))
	p := grid(9, 9, 9)
	d := built(t, p)
	if n := len(d.Rows()); n != 1000 {
		t.Error(n)
	}
	wantMakes(t, p, nil, anyPackets(r, 300, 11))
	p = seq(test(0, 1), grid(8, 2, 36))
	if n := len(built(t, p).Rows()); n != 1000 {
		t.Error(n)
	}
	wantMakes(t, p, nil, anyPackets(r, 300, 11))
	for _, p := range []api.Pol{
		grid(6, 10, 12), grid(9, 9, 10), grid(10, 10, 10), grid(33, 33, 33), seq(test(0, 1), grid(9, 9, 9)),
		sum(grid(9, 9, 9), test(0, 1)), seq(grid(32, 32, 32), put(1, 1)),
	} {
		wantNone(t, p, nil, api.ErrFull)
	}
	// There were more on the way, but what is behind needs fewer of them.
	for _, c := range []struct {
		p api.Pol
		n int
	}{
		{seq(grid(20, 20, 20), dropAll()), 1},
		{seq(put(2, 1), put(3, 1), put(4, 1), grid(20, 20, 20)), 1},
		{seq(grid(9, 9, 10), put(5, 0), put(6, 0), put(7, 0)), 29},
		{seq(test(2, 1), test(3, 0), grid(33, 33, 20)), 23},
	} {
		if n := len(built(t, c.p).Rows()); n != c.n {
			t.Errorf("%s: %d rows, want %d", brief(c.p), n, c.n)
		}
	}
}

// P8.1: more rows than there may be are ErrFull always: so of a slim policy too, where one has so many.
func TestManyRowsOfSlim(t *testing.T) {
	p := parsed(t, "(dst=0 + pt:=1 + typ=3) ; (svc=3 + src:=0 + svc=0) ; (vid=1 + src=2 + pt=0 + src=1 + pt=2 + vid=0) ; opt=3 + sw=0 + sw=2")
	if !isSlim(p) {
		t.Error("not slim")
	}
	wantNone(t, p, nil, api.ErrFull)
}

// P8.1: a nil diagram, and one that nobody built, are drop's.
func TestNothingThere(t *testing.T) {
	r := rand.New(rand.NewSource(7))
	var none *fdd.FDD
	drop := built(t, dropAll())
	for _, d := range []*fdd.FDD{none, new(fdd.FDD), drop} {
		if d.Len() != 1 {
			t.Error(d.Len())
		}
		rows := d.Rows()
		if rowsText(rows) != "->" {
			t.Error(rows)
		}
		for _, q := range anyPackets(r, 50, 65536) {
			wantAt(t, "nothing", d, rows, q, nil)
		}
		wantOne(t, "nothing", d, none)
		wantOne(t, "nothing", d, drop)
		for _, s := range []string{"id", "sw=0", "opt=65535", "pt:=0", "src=0 ; dst=0 ; typ=0", "!sw=0"} {
			other := built(t, parsed(t, s))
			q, apart := fdd.Unlike(d, other)
			back, apartBack := fdd.Unlike(other, d)
			if !apart || !apartBack || fdd.Same(d, other) || fdd.Same(other, d) {
				t.Error(s)
			}
			if len(other.Make(q)) == 0 || len(other.Make(back)) == 0 {
				t.Error(s, q, back)
			}
		}
	}
}

// P8.2: of great diagrams that are unlike in one answer a packet is told that shows it.
func TestUnlikeOfGreat(t *testing.T) {
	r := rand.New(rand.NewSource(8))
	p := grid(9, 9, 9)
	for range 20 {
		q := copied(p)
		kid := q.Kids[r.Intn(27)].Kids
		kid[1].N = uint16(r.Intn(12))
		wantUnlike(t, p, q, nil, kid[1].N != kid[0].N)
	}
	for range 20 {
		q := copied(p)
		kid := q.Kids[r.Intn(27)].Kids
		kid[0].N += 9
		wantUnlike(t, p, q, nil, true)
	}
	var few, more []api.Pol
	for n := range uint16(149) {
		few = append(few, test(6, n), test(6, n+151))
		more = append(more, test(6, n), test(6, n+150))
	}
	wantUnlike(t, sum(few...), sum(more...), nil, true)
	wantUnlike(t, sum(few...), not(sum(few...)), nil, true)
	wantUnlike(t, sum(few[:250]...), not(seq(not(sum(few[:130]...)), not(sum(few[110:250]...)))), nil, false)
	wantUnlike(t, sum(few[:250]...), not(seq(not(sum(few[:130]...)), not(sum(few[131:250]...)))), nil, true)
}

// P8.2: policies that are unlike at one packet alone.
func TestUnlikeAtOne(t *testing.T) {
	for _, q := range []api.Packet{{}, {1, 2, 3, 4, 5, 6, 7, 8}, {65535, 65535, 65535, 65535, 65535, 65535, 65535, 65535}, {0, 0, 0, 0, 0, 0, 0, 1}, {1}} {
		var one []api.Pol
		for f, n := range q {
			one = append(one, test(f, n))
		}
		for _, c := range [][2]api.Pol{
			{seq(one...), dropAll()},
			{not(seq(one...)), identity()},
			{sum(put(7, 9), seq(one...)), put(7, 9)},
			{sum(seq(not(seq(one...)), put(1, q[1])), seq(append(one, put(2, q[2]+1))...)), put(1, q[1])},
		} {
			wantUnlike(t, c[0], c[1], nil, true)
			got, _ := fdd.Unlike(built(t, c[0]), built(t, c[1]))
			if got != q {
				t.Errorf("%s: %v, want %v", brief(c[0]), got, q)
			}
		}
		one[7].N++
		wantUnlike(t, put(1, q[1]), sum(seq(test(1, q[1]), not(seq(one...))), seq(one...), seq(not(test(1, q[1])), put(1, q[1]))), nil, false)
	}
	wantUnlike(t, sum(put(1, 0), put(2, 0)), sum(put(1, 0), put(2, 0), seq(put(1, 0), put(2, 0))), nil, true)
	wantUnlike(t, seq(put(1, 0), put(2, 0)), seq(put(2, 0), put(1, 0)), nil, false)
}

// spaced answers p with its lists of kids in the midst of longer ones, and these.
func spaced(p api.Pol) (api.Pol, [][]api.Pol) {
	var whole [][]api.Pol
	if len(p.Kids) == 0 {
		return p, nil
	}
	l := []api.Pol{test(7, 77)}
	for _, kid := range p.Kids {
		k, more := spaced(kid)
		l = append(l, k)
		whole = append(whole, more...)
	}
	l = append(l, test(7, 78), test(7, 79))
	p.Kids = l[1 : len(l)-2]
	return p, append(whole, l)
}

// R4: nothing that is handed in is changed, behind its end neither, and nothing of it is kept.
func TestWhatIsHandedIn(t *testing.T) {
	p, whole := spaced(parsed(t, "(pt:=1 + pt:=2 + @0=7) ; (dst:=1 + !(@1=1 + pt=2) ; dst:=2) ; (src=1 + id)"))
	parts := []uint16{7, 1, 9, 9}
	var was [][]api.Pol
	for _, l := range whole {
		was = append(was, copied(api.Pol{Kids: l}).Kids)
	}
	d := built(t, p, parts[:2]...)
	if !reflect.DeepEqual(whole, was) || !slices.Equal(parts, []uint16{7, 1, 9, 9}) {
		t.Error("what was handed in is changed")
	}
	want, n := rowsText(d.Rows()), d.Len()
	for _, l := range whole {
		clear(l)
	}
	clear(parts)
	if rowsText(d.Rows()) != want || d.Len() != n {
		t.Error("what was handed in is kept")
	}
}

// R4: what is answered is the caller's own: spoilt, behind the ends of its lists too, it spoils nothing else.
func TestWhatIsAnswered(t *testing.T) {
	p := parsed(t, "dst=1 ; (pt:=1 ; src:=2 + id + typ:=1) + src=3 ; dst=2 ; (pt:=1 ; src:=2 + id + typ:=1) + vid:=4")
	d, other := built(t, p), built(t, sum(p, test(7, 1)))
	q := api.Packet{1, 2, 3, 1}
	want, acts, made := rowsText(d.Rows()), actsText(d.Acts(q)), texts(d.Make(q))
	apart, _ := fdd.Unlike(d, other)
	rows := d.Rows()
	for i := range rows {
		for _, l := range [][]api.Row{rows[i:], rows[:i]} {
			before := rowsText(l)
			one := rows[0]
			if i == 0 {
				one = rows[len(rows)-1]
			}
			_ = append(one.Match, api.Pair{F: 7, N: 7})
			_ = append(one.Acts, api.Act{{F: 7, N: 7}})
			for _, a := range one.Acts {
				_ = append(a, api.Pair{F: 7, N: 7})
			}
			if rowsText(l) != before {
				t.Fatal("two rows share their lists")
			}
		}
	}
	for i := range rows {
		left := rowsText(rows[i+1:])
		spoil(rows[i].Match)
		for _, a := range rows[i].Acts {
			spoil(a)
		}
		clear(rows[i].Acts[:cap(rows[i].Acts)])
		if rowsText(rows[i+1:]) != left {
			t.Error("two rows share their lists")
		}
	}
	l := d.Acts(q)
	for i, a := range l {
		left := actsText(l[i+1:])
		spoil(a)
		if actsText(l[i+1:]) != left {
			t.Error("two acts are one")
		}
	}
	clear(l[:cap(l)])
	m := d.Make(q)
	clear(m[:cap(m)])
	if rowsText(d.Rows()) != want || actsText(d.Acts(q)) != acts || texts(d.Make(q)) != made {
		t.Error("what was answered is kept")
	}
	if again, _ := fdd.Unlike(d, other); again != apart {
		t.Error(again, apart)
	}
}

func spoil(l []api.Pair) {
	clear(l[:cap(l)])
}

func texts(l []api.Packet) string {
	var out []string
	for _, q := range l {
		out = append(out, packet.Text(q))
	}
	return strings.Join(out, ", ")
}

// R7: the same is answered again and again, and of each build.
func TestAgain(t *testing.T) {
	p := parsed(t, "(pt:=3 + pt:=1 + dst=2) ; (dst:=2 + src=1) ; ((src:=2 + src:=1) ; (typ:=1 + id)) + !(vid=1 + vid=3)")
	q := api.Packet{1, 3, 1}
	first, other := built(t, p), built(t, sum(p, p.Kids[1]))
	second := built(t, sum(p, test(6, 3)))
	apart, _ := fdd.Unlike(first, second)
	for range 30 {
		d := built(t, p)
		if !reflect.DeepEqual(d.Rows(), first.Rows()) || !reflect.DeepEqual(d.Acts(q), first.Acts(q)) || !slices.Equal(d.Make(q), first.Make(q)) {
			t.Fatal("unlike answers")
		}
		wantOne(t, "again", d, first)
		wantOne(t, "again", d, other)
		if got, ok := fdd.Unlike(d, second); got != apart || !ok {
			t.Fatal(got, ok)
		}
	}
}

// P0: policies whose kids are shared so often that there is no going over all, and ones that are their own kids.
func TestEndlessPolicies(t *testing.T) {
	shared := identity()
	for range 60 {
		shared = sum(shared, shared)
	}
	wantNone(t, shared, nil, api.ErrForm)
	for _, op := range []int{api.Not, api.Seq, api.Sum, api.Id, api.State, 99} {
		kids := make([]api.Pol, 2)
		kids[0] = api.Pol{Op: op, Kids: kids}
		kids[1] = api.Pol{Op: op, Kids: kids}
		for _, p := range []api.Pol{{Op: op, Kids: kids[:1]}, {Op: op, Kids: kids}} {
			if d, e := fdd.Build(p, nil); d != nil || e != api.ErrForm {
				t.Error(op, d, e)
			}
		}
	}
}

// P0: great policies of all fields: there is an end to them, and a diagram, where one is told, is right.
func TestLongWork(t *testing.T) {
	r := rand.New(rand.NewSource(10))
	var nested []api.Pol
	for f := 1; f < api.Fields; f++ {
		nested = append(nested, sum(append(puts(f, 18).Kids, test(f, 1), test(f, 2), test((f+1)%8, 3))...))
	}
	inner := nested[0]
	for _, p := range nested[1:] {
		inner = seq(p, inner)
	}
	var rows []api.Pol
	for i := range 40 {
		rows = append(rows, seq(test(i%8, uint16(i)), test((i+3)%8, uint16(i%5)), test((i+5)%8, uint16(i%7)), put(1+i%7, uint16(i))))
	}
	even := test(0, 0)
	for f := 1; f < 6; f++ {
		even = sum(seq(even, not(test(f, 0))), seq(not(even), test(f, 0)))
	}
	all := []api.Pol{seq(grid(33, 33, 33), dropAll()), seq(nested...), inner, sum(rows...), not(sum(rows[0].Kids[0], seq(rows[1].Kids[:3]...))), even, seq(rows[1:12]...)}
	for range 40 {
		all = append(all, anyWide(r, 299, false))
	}
	for _, p := range all {
		d, e := fdd.Build(p, nil)
		if e == api.ErrForm && isFormed(p) {
			t.Errorf("%s: error %d", brief(p), e)
		}
		for _, q := range anyPackets(r, 20, 4) {
			if want, me := policy.Make(p, nil, q); e == api.OK && (me != api.OK || !slices.Equal(d.Make(q), want)) {
				t.Errorf("%s: Make(%v) = %v, want %v, error %d", brief(p), q, d.Make(q), want, me)
			}
		}
	}
}
