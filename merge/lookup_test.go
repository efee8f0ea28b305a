package merge_test

import (
	"fmt"
	"math/rand"
	"slices"
	"testing"

	"pointsman/api"
	"pointsman/merge"
	"pointsman/policy"
	"pointsman/syntax"
	"pointsman/table"
)

// anyList answers a list of few fields and numbers that is right.
func anyList(r *rand.Rand) []api.Row {
	var l []api.Row
	for range r.Intn(4) {
		a := api.Row{Match: anyPairs(r)}
		for range r.Intn(3) {
			a.Acts = append(a.Acts, anyPairs(r))
		}
		l = append(l, a)
	}
	return l
}

func anyPairs(r *rand.Rand) []api.Pair {
	var l []api.Pair
	for _, f := range []int{0, 1, 3, 7} {
		if r.Intn(3) == 0 {
			l = append(l, api.Pair{F: f, N: uint16(r.Intn(2))})
		}
	}
	return l
}

// P10.2: by each tag a packet goes as by that tag's list alone; by others not at all.
func TestLookupAtRandom(t *testing.T) {
	r := rand.New(rand.NewSource(2))
	unlike := 0
	for range 5000 {
		pool := [][]api.Row{anyList(r), anyList(r), anyList(r), anyList(r)}
		var l [][]api.Row
		for range r.Intn(9) {
			l = append(l, pool[r.Intn(len(pool))])
		}
		x := wantOf(t, fmt.Sprint(l), l)
		q := api.Packet{uint16(r.Intn(2)), uint16(r.Intn(2)), 0, uint16(r.Intn(2)), 0, 0, 0, uint16(r.Intn(2))}
		for tag, own := range l {
			want, _ := table.Lookup(own, q)
			got, e := merge.Lookup(x, uint16(tag), q)
			if e != api.OK || !slices.Equal(got, want) {
				t.Fatalf("%v: tag %d: of %v %v, error %d, want %v", l, tag, q, got, e, want)
			}
			if first, _ := merge.Lookup(x, 0, q); !slices.Equal(first, want) {
				unlike++
			}
		}
		wantNoTag(t, x, uint16(len(l)))
	}
	if unlike < 1000 {
		t.Error(unlike)
	}
}

// P10.2: by each of 256 tags a packet goes by that tag's own list.
func TestLookupOfManyTags(t *testing.T) {
	var l [][]api.Row
	for tag := range 256 {
		l = append(l, []api.Row{{Match: ask(api.Dst, 9)}, {Acts: []api.Act{put(api.Pt, uint16(tag*tag%97))}}})
	}
	x := wantOf(t, "256 tags", l)
	for tag := range uint16(256) {
		want := uint16(int(tag) * int(tag) % 97)
		if got, e := merge.Lookup(x, tag, api.Packet{1}); e != api.OK || !slices.Equal(got, []api.Packet{{1, want}}) {
			t.Error(tag, got, e)
		}
		if got, e := merge.Lookup(x, tag, api.Packet{1, 0, 0, 9}); e != api.OK || len(got) != 0 {
			t.Error(tag, got, e)
		}
	}
	wantNoTag(t, x, 256)
	if merge.Rows(x) != 2*len(x.Lists) || len(x.Lists) != 49 {
		t.Error(merge.Rows(x), len(x.Lists))
	}
}

// P10.2: a table of the rows of a policy in its states, for a switch, makes by each state's tag what the policy makes in that state.
func TestLookupOfPolicies(t *testing.T) {
	for _, s := range []string{
		"@0=0 ; sw=1 ; dst=1 ; pt:=2 + @0=1 ; dst=2 ; pt:=1 + @1=1 ; sw=2 ; id",
		"!(@0=1 ; sw=2) ; (pt:=1 + dst=1 ; pt:=2)",
		"(@0=2 + @1=1 ; dst=1) ; vid:=7",
		"sw=3 ; dst:=4",
	} {
		g, e := syntax.Parse("init 0 0 . policy " + s + " .")
		if e != api.OK {
			t.Fatal(s, e)
		}
		states := [][]uint16{{0, 0}, {1, 0}, {0, 1}, {1, 1}, {2, 0}, {0, 0}, {5, 5}, {6, 6}}
		for sw := range uint16(4) {
			wantPolicy(t, s, g.Pol, states, sw)
		}
	}
}

func wantPolicy(t *testing.T, name string, p api.Pol, states [][]uint16, sw uint16) {
	t.Helper()
	var l [][]api.Row
	for _, state := range states {
		rows, e := table.Of(p, state)
		if e != api.OK {
			t.Fatal(name, e)
		}
		l = append(l, table.At(rows, sw))
	}
	x := wantOf(t, name, l)
	if len(x.Lists) == len(states) || x.Which[5] != 0 || x.Which[7] != x.Which[6] {
		t.Errorf("%s at %d: %v", name, sw, x)
	}
	for dst := range uint16(4) {
		q := api.Packet{sw, 9, 0, dst}
		for tag, state := range states {
			want, _ := policy.Make(p, state, q)
			if got, e := merge.Lookup(x, uint16(tag), q); e != api.OK || !slices.Equal(got, want) {
				t.Errorf("%s at %d in %v: of %v %v, error %d, want %v", name, sw, state, q, got, e, want)
			}
		}
	}
}

// listsFrom reads lists from bytes: one for each byte 0 to 31, a row for each of 32 to 63, a pair or an act behind it for others.
func listsFrom(b []byte) [][]api.Row {
	var l [][]api.Row
	var a *api.Row
	for _, c := range b {
		switch {
		case c < 32 || len(l) == 0:
			l, a = append(l, nil), nil
		case c < 64 || a == nil:
			l[len(l)-1] = append(l[len(l)-1], api.Row{})
			a = &l[len(l)-1][len(l[len(l)-1])-1]
		case c < 128:
			a.Match = append(a.Match, api.Pair{F: int(c%16) - 1, N: uint16(c / 16)})
		case c < 160 || len(a.Acts) == 0:
			a.Acts = append(a.Acts, nil)
		default:
			k := len(a.Acts) - 1
			a.Acts[k] = append(a.Acts[k], api.Pair{F: int(c%16) - 1, N: uint16(c / 16)})
		}
	}
	return l
}

func FuzzOf(f *testing.F) {
	f.Add([]byte("\x00 d\x80\xa2 \x80\x00 d\x80\xa2 \x80\x00 \x80"), uint16(1))
	f.Add([]byte("\x00\x00 ab\x80\xa2\xa3\x80\x00 ab\x80\xa2\xa3"), uint16(0))
	f.Fuzz(func(t *testing.T, b []byte, n uint16) {
		l := listsFrom(b)
		rows, isRight, firsts := 0, len(l) <= 256, map[string]int{}
		for _, own := range l {
			key := fmt.Sprint(own)
			if _, ok := firsts[key]; !ok {
				firsts[key] = len(firsts)
				rows += len(own)
			}
			isRight = isRight && table.Right(own)
		}
		x, e := merge.Of(l)
		want := api.OK
		switch {
		case rows > api.MaxRows:
			want = api.ErrFull
		case !isRight:
			want = api.ErrArg
		}
		if e != want {
			t.Fatalf("%v: error %d, want %d", l, e, want)
		}
		if e != api.OK {
			return
		}
		if !merge.Right(x) || merge.Rows(x) != rows || len(x.Which) != len(l) || len(x.Lists) != len(firsts) {
			t.Fatal(l, x)
		}
		for tag, own := range l {
			q := api.Packet{n, n >> 1, n >> 2, n >> 3 & 7, n & 7}
			want, _ := table.Lookup(own, q)
			got, e := merge.Lookup(x, uint16(tag), q)
			if e != api.OK || !slices.Equal(got, want) || x.Which[tag] != firsts[fmt.Sprint(own)] || !table.Same(x.Lists[x.Which[tag]], own) {
				t.Fatal(l, tag, got, e, x.Which)
			}
		}
	})
}
