package packet

import (
	"math"
	"math/rand"
	"regexp"
	"slices"
	"strconv"
	"strings"
	"testing"

	"pointsman/api"
)

var fieldNames = []string{"sw", "pt", "src", "dst", "typ", "svc", "vid", "opt"}

// none lists numbers that are no field's.
var none = []int{-1, 8, 9, 256, 65536, math.MinInt, math.MaxInt}

var full = api.Packet{1, 2, 3, 4, 5, 6, 7, 8}

func randomPacket(r *rand.Rand) api.Packet {
	var p api.Packet
	for f := range p {
		switch r.Intn(4) {
		case 0:
		case 1:
			p[f] = 65535
		case 2:
			p[f] = uint16(r.Intn(3))
		default:
			p[f] = uint16(r.Intn(65536))
		}
	}
	return p
}

// P1.1: Name.
func TestName(t *testing.T) {
	for f, n := range fieldNames {
		if got := Name(f); got != n {
			t.Errorf("Name(%d) = %q, want %q", f, got, n)
		}
	}
	for _, f := range none {
		if got := Name(f); got != "" {
			t.Errorf("Name(%d) = %q, want none", f, got)
		}
	}
}

// P1.1: Field.
func TestField(t *testing.T) {
	for f, n := range fieldNames {
		if got, ok := Field(n); got != f || !ok {
			t.Errorf("Field(%q) = %d %v, want %d", n, got, ok, f)
		}
	}
	for _, n := range []string{"", " ", "s", "sw ", " sw", "SW", "Sw", "sw=", "swpt", "options", "0", "sw\x00", "\xff"} {
		if got, ok := Field(n); got != 0 || ok {
			t.Errorf("Field(%q) = %d %v, want none", n, got, ok)
		}
	}
}

// P1.1: With.
func TestWith(t *testing.T) {
	for f := range api.Fields {
		for _, n := range []uint16{0, 1, 77, 65535} {
			got := With(full, f, n)
			for g := range api.Fields {
				want := full[g]
				if g == f {
					want = n
				}
				if got[g] != want {
					t.Errorf("With(%d, %d): field %d is %d, want %d", f, n, g, got[g], want)
				}
			}
		}
	}
	for _, f := range none {
		if got := With(full, f, 9); got != full {
			t.Errorf("With of no field %d changed the packet: %v", f, got)
		}
	}
}

// P1.1: Has.
func TestHas(t *testing.T) {
	all := []api.Pair{}
	for f, n := range full {
		all = append(all, api.Pair{F: f, N: n})
		if !Has(full, []api.Pair{{F: f, N: n}}) {
			t.Errorf("field %d isn't had", f)
		}
		if Has(full, []api.Pair{{F: f, N: n + 1}}) {
			t.Errorf("field %d is had with another number", f)
		}
	}
	if !Has(full, nil) || !Has(full, []api.Pair{}) {
		t.Error("no pairs at all are had by every packet")
	}
	if !Has(full, all) {
		t.Error("all fields together are had")
	}
	if !Has(full, []api.Pair{{F: 3, N: 4}, {F: 3, N: 4}}) {
		t.Error("a pair said twice is had")
	}
	if Has(full, []api.Pair{{F: 3, N: 4}, {F: 3, N: 5}}) {
		t.Error("a field can't be two numbers")
	}
	for i := range all {
		l := slices.Clone(all)
		l[i].N = 0
		if Has(full, l) {
			t.Errorf("one pair that isn't had, at place %d, is overlooked", i)
		}
	}
	for _, f := range none {
		if Has(api.Packet{}, []api.Pair{{F: f}}) || Has(full, []api.Pair{{F: 0, N: 1}, {F: f, N: 1}, {F: 1, N: 2}}) {
			t.Errorf("a pair of no field %d is had", f)
		}
	}
}

// P1.1: Do.
func TestDo(t *testing.T) {
	cases := []struct {
		act  api.Act
		want api.Packet
	}{
		{nil, full},
		{api.Act{}, full},
		{api.Act{{F: api.Pt, N: 9}}, api.Packet{1, 9, 3, 4, 5, 6, 7, 8}},
		{api.Act{{F: api.Sw, N: 0}, {F: api.Opt, N: 65535}}, api.Packet{0, 2, 3, 4, 5, 6, 7, 65535}},
		{api.Act{{F: api.Opt, N: 1}, {F: api.Sw, N: 2}}, api.Packet{2, 2, 3, 4, 5, 6, 7, 1}},
		{api.Act{{F: api.Vid, N: 10}, {F: api.Vid, N: 20}}, api.Packet{1, 2, 3, 4, 5, 6, 20, 8}},
		{api.Act{{F: -1, N: 10}, {F: api.Src, N: 20}, {F: 8, N: 30}}, api.Packet{1, 2, 20, 4, 5, 6, 7, 8}},
		{api.Act{{F: math.MinInt, N: 1}, {F: math.MaxInt, N: 1}}, full},
	}
	for _, c := range cases {
		if got := Do(full, c.act); got != c.want {
			t.Errorf("Do(%v) = %v, want %v", c.act, got, c.want)
		}
	}
}

// P1.1: At and To.
func TestAtTo(t *testing.T) {
	if got := At(full); got != (api.Port{Sw: 1, Pt: 2}) {
		t.Errorf("At = %v", got)
	}
	if got := At(api.Packet{}); got != (api.Port{}) {
		t.Errorf("At of the zero packet = %v", got)
	}
	for _, at := range []api.Port{{}, {Sw: 9, Pt: 10}, {Sw: 65535, Pt: 65535}, {Sw: 2, Pt: 1}} {
		got := To(full, at)
		if got != (api.Packet{at.Sw, at.Pt, 3, 4, 5, 6, 7, 8}) || At(got) != at {
			t.Errorf("To(%v) = %v", at, got)
		}
	}
}

// P1.1: Compare.
func TestCompare(t *testing.T) {
	cases := []struct {
		a, b api.Packet
		want int
	}{
		{api.Packet{}, api.Packet{}, 0},
		{full, full, 0},
		{api.Packet{0, 65535, 65535}, api.Packet{1}, -1},
		{api.Packet{256}, api.Packet{255}, 1},
		{api.Packet{0}, api.Packet{65535}, -1},
		{api.Packet{1, 2, 3}, api.Packet{1, 3, 2}, -1},
		{api.Packet{1, 2, 3, 4, 5, 6, 7, 9}, full, 1},
	}
	for _, c := range cases {
		if got := Compare(c.a, c.b); got != c.want {
			t.Errorf("Compare(%v, %v) = %d, want %d", c.a, c.b, got, c.want)
		}
		if got := Compare(c.b, c.a); got != -c.want {
			t.Errorf("Compare(%v, %v) = %d, want %d", c.b, c.a, got, -c.want)
		}
	}
	for f := range api.Fields {
		less, more := full, full
		less[f]--
		for g := f + 1; g < api.Fields; g++ {
			less[g], more[g] = 65535, 0
		}
		if Compare(less, more) != -1 || Compare(more, less) != 1 {
			t.Errorf("the first field that is unlike, %d, doesn't decide", f)
		}
	}
}

// P1.1: Sort.
func TestSort(t *testing.T) {
	a, b, c := api.Packet{}, api.Packet{0, 0, 0, 0, 0, 0, 0, 1}, api.Packet{1}
	cases := []struct{ l, want []api.Packet }{
		{nil, nil},
		{[]api.Packet{}, nil},
		{[]api.Packet{c}, []api.Packet{c}},
		{[]api.Packet{a, b, c}, []api.Packet{a, b, c}},
		{[]api.Packet{c, b, a}, []api.Packet{a, b, c}},
		{[]api.Packet{b, b, b}, []api.Packet{b}},
		{[]api.Packet{c, a, c, b, a, b}, []api.Packet{a, b, c}},
	}
	for _, k := range cases {
		given := slices.Clone(k.l)
		got := Sort(k.l)
		if !slices.Equal(got, k.want) {
			t.Errorf("Sort(%v) = %v, want %v", given, got, k.want)
		}
		if !slices.Equal(k.l, given) {
			t.Errorf("Sort changed what it was given: %v, was %v", k.l, given)
		}
	}
}

// P1.1, R4: what Sort answers is the caller's own.
func TestSortOwnMemory(t *testing.T) {
	l := []api.Packet{{1}, {2}, {3}}
	room := slices.Grow([]api.Packet{{1}}, 4)
	for _, given := range [][]api.Packet{l, room} {
		got := Sort(given)
		got[0] = api.Packet{9}
		_ = append(got, api.Packet{8})
		if given[0] != (api.Packet{1}) {
			t.Error("the answer shares memory with the argument")
		}
		if more := given[:cap(given)]; len(given) == 1 && more[1] != (api.Packet{}) {
			t.Error("the answer shares the argument's room")
		}
	}
}

// P1.1: Sort, held against what it is to be.
func TestSortRandom(t *testing.T) {
	r := rand.New(rand.NewSource(1))
	for range 300 {
		l := make([]api.Packet, r.Intn(40))
		for i := range l {
			l[i] = api.Packet{uint16(r.Intn(2)), uint16(r.Intn(2)), 0, 0, 0, 0, uint16(r.Intn(2)), uint16(r.Intn(2)) * 65535}
		}
		got := Sort(l)
		for i := 1; i < len(got); i++ {
			if Compare(got[i-1], got[i]) != -1 {
				t.Fatalf("not rising: %v", got)
			}
		}
		for _, p := range l {
			if !slices.Contains(got, p) {
				t.Fatalf("%v is gone", p)
			}
		}
		for _, p := range got {
			if !slices.Contains(l, p) {
				t.Fatalf("%v came from nowhere", p)
			}
		}
	}
}

// P1.1: Text.
func TestText(t *testing.T) {
	cases := []struct {
		p    api.Packet
		want string
	}{
		{api.Packet{}, "sw=0 pt=0"},
		{api.Packet{1, 2, 0, 7}, "sw=1 pt=2 dst=7"},
		{api.Packet{0, 5}, "sw=0 pt=5"},
		{api.Packet{5}, "sw=5 pt=0"},
		{full, "sw=1 pt=2 src=3 dst=4 typ=5 svc=6 vid=7 opt=8"},
		{api.Packet{0, 0, 0, 0, 0, 0, 0, 65535}, "sw=0 pt=0 opt=65535"},
		{api.Packet{10, 100, 1000, 10000}, "sw=10 pt=100 src=1000 dst=10000"},
	}
	for _, c := range cases {
		if got := Text(c.p); got != c.want {
			t.Errorf("Text(%v) = %q, want %q", c.p, got, c.want)
		}
	}
}

// P1.1: Read of what is a packet's text.
func TestRead(t *testing.T) {
	cases := []struct {
		s    string
		want api.Packet
	}{
		{"", api.Packet{}},
		{" ", api.Packet{}},
		{"     ", api.Packet{}},
		{"sw=1 pt=2 dst=7", api.Packet{1, 2, 0, 7}},
		{"dst=7 pt=2 sw=1", api.Packet{1, 2, 0, 7}},
		{"  sw=1   pt=2 ", api.Packet{1, 2}},
		{"dst=7", api.Packet{0, 0, 0, 7}},
		{"opt=0", api.Packet{}},
		{"sw=0 pt=00 src=000 dst=0000 typ=00000", api.Packet{}},
		{"sw=1 pt=12 src=123 dst=1234 typ=12345", api.Packet{1, 12, 123, 1234, 12345}},
		{"svc=080 vid=00007 opt=65535", api.Packet{0, 0, 0, 0, 0, 80, 7, 65535}},
		{"sw=08 pt=010", api.Packet{8, 10}},
		{"opt=8 vid=7 svc=6 typ=5 dst=4 src=3 pt=2 sw=1", full},
		{strings.Repeat(" ", 100000) + "vid=3" + strings.Repeat(" ", 100000), api.Packet{0, 0, 0, 0, 0, 0, 3}},
	}
	for _, c := range cases {
		if got, ok := Read(c.s); !ok || got != c.want {
			t.Errorf("Read(%.60q) = %v %v, want %v", c.s, got, ok, c.want)
		}
	}
}

// P1.1: Read of what is none.
func TestReadWrong(t *testing.T) {
	wrong := []string{
		"sw", "=", "=1", "sw=", "sw =1", "sw= 1", "sw = 1", "1", "sw=1=2", "sw==1", "sw=1=", "sw=1pt=2",
		"sw=65536", "sw=70000", "sw=99999", "sw=000001", "sw=065535", "sw=100000", "sw=4294967297", "sw=18446744073709551617",
		"sw=-1", "sw=+1", "sw=1.0", "sw=1e2", "sw=0x1", "sw=0b1", "sw=1_0", "sw=a", "sw=1a", "sw=a1",
		"x=1", "SW=1", "Sw=1", "swx=1", "s=1", "port=1", "0=1",
		"sw=1 sw=1", "sw=0 sw=0", "sw=1 pt=2 sw=2", "opt=0 opt=1", "dst=1 dst=1 dst=1",
		"sw=1,pt=2", "sw=1, pt=2", "sw=1;", "sw=1\tpt=2", "sw=1\npt=2", "\tsw=1", "sw=1\n", "sw=1\r", "\n", "\x00", "sw=1\x00",
		"sw=1\u00a0pt=2", "\u00a0", "sw=\u0661", "sw=\uff11", "sw=1 \xff", "sw=\xff", "\xff\xfe",
		"sw=1 pt", "sw=1 =2", "sw=1 pt=2 x", "x sw=1", "sw=1 pt=65536", "\"sw=1\"",
	}
	for _, s := range wrong {
		if got, ok := Read(s); ok || got != (api.Packet{}) {
			t.Errorf("Read(%q) = %v %v, want none", s, got, ok)
		}
	}
}

// P1.1: every number that a field may have, and those just past them, in each count of digits.
func TestReadNumbers(t *testing.T) {
	for n := range 70000 {
		for s := strconv.Itoa(n); len(s) <= 6; s = "0" + s {
			got, ok := Read("vid=" + s)
			want := n <= 65535 && len(s) <= 5
			if ok != want || ok && got != (api.Packet{0, 0, 0, 0, 0, 0, uint16(n)}) || !ok && got != (api.Packet{}) {
				t.Fatalf("Read of number %s: %v %v", s, got, ok)
			}
		}
	}
}

// P1.2: each packet's text is read as that packet.
func TestReadOfText(t *testing.T) {
	check := func(p api.Packet) {
		if got, ok := Read(Text(p)); !ok || got != p {
			t.Fatalf("Read(Text(%v)) = %v %v", p, got, ok)
		}
	}
	for f := range api.Fields {
		for n := range 65536 {
			var p api.Packet
			p[f] = uint16(n)
			check(p)
		}
	}
	r := rand.New(rand.NewSource(2))
	for range 20000 {
		check(randomPacket(r))
	}
}

var textForm = regexp.MustCompile(`^ *((sw|pt|src|dst|typ|svc|vid|opt)=[0-9]{1,5}( +(sw|pt|src|dst|typ|svc|vid|opt)=[0-9]{1,5})*)? *$`)

// readPlainly reads by the chapter's words in another way than Read, to hold Read against it.
func readPlainly(s string) (api.Packet, bool) {
	var p api.Packet
	if strings.ContainsAny(s, "\n") || !textForm.MatchString(s) {
		return api.Packet{}, false
	}
	seen := map[string]int{}
	for _, word := range strings.Fields(s) {
		name, digits, _ := strings.Cut(word, "=")
		n, err := strconv.Atoi(digits)
		seen[name]++
		if err != nil || n > 65535 || seen[name] > 1 {
			return api.Packet{}, false
		}
		p[slices.Index(fieldNames, name)] = uint16(n)
	}
	return p, true
}

// P1.1: Read of texts that are nearly right.
func TestReadNearly(t *testing.T) {
	r := rand.New(rand.NewSource(3))
	const letters = " =0159swptrcdyvio-\t\n\xff"
	right := 0
	for range 100000 {
		b := []byte(Text(randomPacket(r)))
		for range r.Intn(3) {
			i := r.Intn(len(b) + 1)
			c := letters[r.Intn(len(letters))]
			switch {
			case r.Intn(2) == 0:
				b = slices.Insert(b, i, c)
			case i < len(b) && r.Intn(2) == 0:
				b[i] = c
			case i < len(b):
				b = slices.Delete(b, i, i+1)
			}
		}
		s := string(b)
		got, ok := Read(s)
		want, wantOK := readPlainly(s)
		if got != want || ok != wantOK {
			t.Fatalf("Read(%q) = %v %v, want %v %v", s, got, ok, want, wantOK)
		}
		if ok {
			right++
		}
	}
	if right == 0 || right == 100000 {
		t.Errorf("%d of the texts were right: the test tries one side alone", right)
	}
}

// P0, P1.1, P1.2: whatever bytes come.
func FuzzRead(f *testing.F) {
	for _, s := range []string{"", " ", "sw=1 pt=2 dst=7", "sw=1 sw=1", "opt=65536", "\xff=1"} {
		f.Add(s)
	}
	f.Fuzz(func(t *testing.T, s string) {
		got, ok := Read(s)
		want, wantOK := readPlainly(s)
		if got != want || ok != wantOK {
			t.Fatalf("Read(%q) = %v %v, want %v %v", s, got, ok, want, wantOK)
		}
		if again, ok := Read(Text(got)); !ok || again != got {
			t.Fatalf("Read(Text(%v)) = %v %v", got, again, ok)
		}
	})
}
