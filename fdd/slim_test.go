package fdd

import (
	"math"
	"strings"
	"testing"

	"pointsman/api"
	"pointsman/syntax"
)

func parsed(t *testing.T, s string) api.Pol {
	t.Helper()
	p, e := syntax.Parse("init 0 . policy " + s + " .")
	if e != api.OK {
		t.Fatal(s, e)
	}
	return p.Pol
}

// P8.1: a policy of up to 20 nodes, none wider than 64, is slim, and may take any number of steps.
func TestSlimPolicies(t *testing.T) {
	ids := func(n int) string { return "(id" + strings.Repeat("+id", n-1) + ")" }
	for _, c := range []struct {
		s    string
		slim bool
	}{
		{"id", true},
		{ids(19), true},
		{ids(20), false},
		{"!" + ids(18), true},
		{"!" + ids(19), false},
		{"!!" + ids(17), true},
		{"!!" + ids(18), false},
		{ids(65), false},
		{ids(2) + strings.Repeat(";"+ids(2), 5), true},
		{ids(2) + strings.Repeat(";"+ids(2), 5) + ";id", true},
		{ids(2) + strings.Repeat(";"+ids(2), 5) + ";!id", false},
		{ids(4) + ";" + ids(4) + ";" + ids(4), true},
		{ids(4) + ";" + ids(4) + ";" + ids(5), false},
		{ids(3) + ";" + ids(3) + ";" + ids(7) + "+id", true},
		{ids(3) + ";" + ids(3) + ";" + ids(7) + "+id+id", false},
		{ids(8) + ";" + ids(8), true},
		{ids(5) + ";" + ids(13), false},
		{"!(" + ids(4) + ";" + ids(4) + ";" + ids(4) + ")", true},
		{"!(" + ids(4) + ";" + ids(4) + ";" + ids(5) + ")", false},
		{"!(" + ids(5) + ";" + ids(11) + ")", true},
		{"!(" + ids(7) + ";" + ids(10) + ")", false},
		{"drop;!(" + ids(4) + ";" + ids(4) + ";" + ids(4) + ")", true},
		{"drop;!(" + ids(4) + ";" + ids(4) + ";" + ids(5) + ")", false},
	} {
		p := parsed(t, c.s)
		steps := stepsFor(p)
		if isSlim(p) != c.slim || (steps == math.MaxInt) != c.slim || steps < maxSteps {
			t.Errorf("%s: %d nodes, width %d, %d steps", c.s, syntax.Size(p), width(p), steps)
		}
	}
}

// P8.1, P0: where the steps don't do, there is no diagram; where they do, it is the right one.
func TestSteps(t *testing.T) {
	for _, s := range []string{
		"dst=1",
		"(dst:=1 + id) ; (dst=1 ; src:=2 + !dst=1 ; src:=3)",
		"!(dst=1 ; src=2 + !(opt=1 + sw=2)) ; (pt:=1 + pt:=2) + (vid=1 ; pt:=3 + !vid=1)",
		"(src=1 + src:=2) ; !(src=2 ; dst=1) ; (typ=1 + dst:=1) ; (dst=1 + typ:=1 + src=2)",
		"(src=1 + src:=2) ; !(src=2 ; dst=1) ; drop",
		"!(src=1 ; !(dst=2 + src=3) + !(typ=1 ; dst=2)) ; !(src=1 + dst=2)",
	} {
		p := parsed(t, s)
		want := made(p, nil, math.MaxInt)
		steps := 0
		for ; steps < 100000; steps++ {
			d := made(p, nil, steps)
			if d != nil {
				break
			}
		}
		for more := range 50 {
			if d := made(p, nil, steps+more); d == nil || !Same(d, want) {
				t.Errorf("%s: with %d steps of %d", s, steps+more, steps)
			}
		}
		if steps == 0 || steps == 100000 {
			t.Error(s, steps)
		}
	}
}

// P0: there is soon an end where the steps don't do, however much there was still to make; and to tell many acts takes many.
func TestStepsEnd(t *testing.T) {
	var l []api.Pol
	for f := range 3 {
		for n := range uint16(33) {
			kids := []api.Pol{{Op: api.Test, F: f, N: n}, {Op: api.Put, F: f + 4, N: n}}
			l = append(l, api.Pol{Op: api.Seq, Kids: kids})
		}
	}
	m := newMaker(3000)
	m.grow(api.Pol{Op: api.Sum, Kids: l}, nil)
	if m.left > 0 || len(m.nodes) > 6000 {
		t.Error(m.left, len(m.nodes))
	}
	l = nil
	for n := range uint16(60) {
		l = append(l, api.Pol{Op: api.Put, F: 1, N: n})
	}
	if d := made(api.Pol{Op: api.Sum, Kids: l}, nil, 1500); d != nil {
		t.Error(d)
	}
}
