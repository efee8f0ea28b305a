package events

import (
	"math"
	"math/rand"
	"slices"
	"strconv"
	"strings"
	"testing"

	"pointsman/api"
)

const all = ^api.Set(0)

// none lists numbers that are no event's.
var none = []int{-1, -2, -63, -64, -65, 64, 65, 127, 128, 255, 256, 1 << 32, -(1 << 32), math.MinInt, math.MinInt + 1, math.MaxInt}

// modelOf is a set held event by event, so that nothing here leans on bits being counted rightly.
func modelOf(s api.Set) [64]bool {
	var m [64]bool
	for e := range m {
		m[e] = s%2 == 1
		s /= 2
	}
	return m
}

func setOf(m [64]bool) api.Set {
	var s api.Set
	for e := 63; e >= 0; e-- {
		s *= 2
		if m[e] {
			s++
		}
	}
	return s
}

func listOf(s api.Set) []int {
	l := []int{}
	for e, in := range modelOf(s) {
		if in {
			l = append(l, e)
		}
	}
	return l
}

func textOf(s api.Set) string {
	words := []string{}
	for _, e := range listOf(s) {
		words = append(words, strconv.Itoa(e))
	}
	return "{" + strings.Join(words, ",") + "}"
}

// someSets answers the edges, each event alone and each event missing, and random ones, thin and thick.
func someSets() []api.Set {
	l := []api.Set{0, all, 1<<63 | 1, 1<<63 - 1, 1<<32 - 1, 0xaaaaaaaaaaaaaaaa, 0x5555555555555555}
	for e := range 64 {
		l = append(l, 1<<e, all^1<<e)
	}
	r := rand.New(rand.NewSource(2))
	for range 200 {
		a, b := api.Set(r.Uint64()), api.Set(r.Uint64())
		l = append(l, a, a&b, a|b)
	}
	return l
}

// numbers answers every event and numbers that are none.
func numbers() []int {
	l := slices.Clone(none)
	for e := range 64 {
		l = append(l, e)
	}
	return l
}

func isEvent(e int) bool {
	return e >= 0 && e <= 63
}

// P2.1: Of.
func TestOf(t *testing.T) {
	cases := []struct {
		l    []int
		want api.Set
	}{
		{nil, 0},
		{[]int{}, 0},
		{[]int{0}, 1},
		{[]int{63}, 1 << 63},
		{[]int{0, 3, 63}, 1 | 1<<3 | 1<<63},
		{[]int{63, 3, 0}, 1 | 1<<3 | 1<<63},
		{[]int{3, 3, 3}, 1 << 3},
		{[]int{64}, 0},
		{[]int{-1}, 0},
		{[]int{5, 1, 64, -1, 5}, 1<<1 | 1<<5},
		{none, 0},
		{append(slices.Clone(none), 7), 1 << 7},
	}
	for _, c := range cases {
		if got := Of(c.l...); got != c.want {
			t.Errorf("Of(%v) = %x, want %x", c.l, got, c.want)
		}
	}
	if got := Of(numbers()...); got != all {
		t.Errorf("Of of every event = %x", got)
	}
	for _, s := range someSets() {
		if got := Of(listOf(s)...); got != s {
			t.Errorf("Of(%v) = %x, want %x", listOf(s), got, s)
		}
	}
}

// P2.1, R4: Of leaves its list as it is.
func TestOfLeavesItsList(t *testing.T) {
	l := []int{9, 64, 2, -1, 2}
	before := slices.Clone(l)
	Of(l...)
	if !slices.Equal(l, before) {
		t.Errorf("Of made %v of %v", l, before)
	}
}

// P2.1: Has, With, Without, of every number.
func TestOneEvent(t *testing.T) {
	for _, s := range someSets() {
		for _, e := range numbers() {
			has, with, without := false, modelOf(s), modelOf(s)
			if isEvent(e) {
				has = with[e]
				with[e] = true
				without[e] = false
			}
			if got := Has(s, e); got != has {
				t.Fatalf("Has(%x, %d) = %v", s, e, got)
			}
			if got := With(s, e); got != setOf(with) {
				t.Fatalf("With(%x, %d) = %x, want %x", s, e, got, setOf(with))
			}
			if got := Without(s, e); got != setOf(without) {
				t.Fatalf("Without(%x, %d) = %x, want %x", s, e, got, setOf(without))
			}
		}
	}
}

// P2.1: In.
func TestIn(t *testing.T) {
	cases := []struct {
		a, b api.Set
		want bool
	}{
		{0, 0, true},
		{0, 1, true},
		{1, 0, false},
		{1, 1, true},
		{1, 2, false},
		{1, 3, true},
		{3, 1, false},
		{all, all, true},
		{0, all, true},
		{all, 0, false},
		{1 << 63, all ^ 1<<63, false},
		{all ^ 1<<63, all, true},
		{all, all ^ 1, false},
	}
	for _, c := range cases {
		if got := In(c.a, c.b); got != c.want {
			t.Errorf("In(%x, %x) = %v", c.a, c.b, got)
		}
	}
	sets := someSets()
	for _, a := range sets {
		for _, b := range sets {
			ma, mb, want := modelOf(a), modelOf(b), true
			for e := range ma {
				if ma[e] && !mb[e] {
					want = false
				}
			}
			if got := In(a, b); got != want {
				t.Fatalf("In(%x, %x) = %v", a, b, got)
			}
		}
	}
}

// P2.1: Len, List, First.
func TestWhatIsInASet(t *testing.T) {
	for _, s := range someSets() {
		want := listOf(s)
		if got := Len(s); got != len(want) {
			t.Errorf("Len(%x) = %d, want %d", s, got, len(want))
		}
		if got := List(s); !slices.Equal(got, want) {
			t.Errorf("List(%x) = %v, want %v", s, got, want)
		}
		first, some := 0, len(want) > 0
		if some {
			first = want[0]
		}
		if got, ok := First(s); got != first || ok != some {
			t.Errorf("First(%x) = %d %v, want %d %v", s, got, ok, first, some)
		}
	}
}

// P2.1, R4: each list is the caller's own.
func TestListIsTheCallersOwn(t *testing.T) {
	a := List(1<<2 | 1<<7)
	b := List(1<<2 | 1<<7)
	a[0] = 99
	if c := List(1<<2 | 1<<7); !slices.Equal(b, []int{2, 7}) || !slices.Equal(c, []int{2, 7}) {
		t.Errorf("a list that was written into is seen in others: %v %v", b, c)
	}
}

// P2.1: Text, and Read of it.
func TestText(t *testing.T) {
	cases := []struct {
		s    api.Set
		want string
	}{
		{0, "{}"},
		{1, "{0}"},
		{1 << 9, "{9}"},
		{1 << 10, "{10}"},
		{1 << 63, "{63}"},
		{1 | 1<<3 | 1<<63, "{0,3,63}"},
		{1<<2 | 1<<10, "{2,10}"},
	}
	for _, c := range cases {
		if got := Text(c.s); got != c.want {
			t.Errorf("Text(%x) = %q, want %q", c.s, got, c.want)
		}
	}
	for _, s := range someSets() {
		text := textOf(s)
		if got := Text(s); got != text {
			t.Errorf("Text(%x) = %q, want %q", s, got, text)
		}
		if got, ok := Read(text); got != s || !ok {
			t.Errorf("Read(%q) = %x %v, want %x", text, got, ok, s)
		}
	}
}

// P2.1: Read, of texts that are no set's.
func TestReadRefuses(t *testing.T) {
	texts := []string{
		"", " ", "{", "}", "}{", "{{", "}}", "{{}", "{}}", "{}{}", "{{}}", "{{1}}", "{}x", "x{}", " {}", "{} ", "{ }", "{}\n", "\x00{}", "{}\x00",
		"0", "1,2", "{1", "1}", "{1,2", "1,2}", "(1)", "[1]", "{1)", "{1]",
		"{,}", "{,1}", "{1,}", "{1,,2}", "{,,}", "{1,2,}", "{1;2}", "{1 2}", "{1.2}", "{1, 2}", "{1 ,2}", "{ 1}", "{1 }", "{1\t}", "{1}{2}", "{1},{2}",
		"{1,1}", "{0,0}", "{63,63}", "{5,1}", "{63,0}", "{1,5,3}", "{1,3,3}", "{10,2}", "{9,8}", "{1,0}",
		"{64}", "{99}", "{100}", "{0,64}", "{640}", "{1,65}", "{256}", "{65536}", "{4294967296}", "{18446744073709551616}", "{18446744073709551617}", "{9223372036854775808}", "{99999999999999999999999999}",
		"{00}", "{01}", "{007}", "{063}", "{0,01}", "{0,00}", "{1,02}",
		"{-1}", "{-0}", "{+1}", "{+0}", "{1,+2}", "{0x1}", "{0b1}", "{0o1}", "{1_0}", "{1e0}", "{1.0}", "{a}", "{A}", "{-}", "{+}", "{'}",
		"{\u0661}", "{\uff11}", "{\u00b2}", "{1\u00a0}", "\ufeff{1}", "\uff5b1\uff5d", "{\xff}", "\xff", "{1\xff}",
	}
	for _, text := range texts {
		if got, ok := Read(text); got != 0 || ok {
			t.Errorf("Read(%q) = %x %v, want none", text, got, ok)
		}
	}
}

// P2.1: Read, of long texts.
func TestReadLong(t *testing.T) {
	for _, text := range []string{
		"{" + strings.Repeat("0", 1000000) + "}",
		"{" + strings.Repeat("9", 1000000) + "}",
		"{" + strings.Repeat(",", 1000000) + "}",
		"{" + strings.Repeat("1,", 1000000) + "1}",
		strings.Repeat("{", 1000000),
		strings.Repeat("}", 1000000),
		textOf(all)[:len(textOf(all))-1] + ",64}",
	} {
		if got, ok := Read(text); got != 0 || ok {
			t.Errorf("Read of a text of %d bytes = %x %v, want none", len(text), got, ok)
		}
	}
	if got, ok := Read(textOf(all)); got != all || !ok {
		t.Errorf("Read of the full set = %x %v", got, ok)
	}
}

// P2.1: Read, of every short text of the letters that matter: it is a set's, or it is refused.
func TestReadShort(t *testing.T) {
	sets := map[string]api.Set{"{}": 0}
	for a := range 64 {
		sets[textOf(1<<a)] = 1 << a
		for b := a + 1; b < 64; b++ {
			sets[textOf(1<<a|1<<b)] = 1<<a | 1<<b
		}
	}
	for a := range 10 {
		for b := range a {
			for c := range b {
				sets[textOf(1<<a|1<<b|1<<c)] = 1<<a | 1<<b | 1<<c
			}
		}
	}
	var try func(text string, left int)
	try = func(text string, left int) {
		want, known := sets[text]
		if got, ok := Read(text); ok != known || got != want {
			t.Errorf("Read(%q) = %x %v, want %x %v", text, got, ok, want, known)
		}
		if left == 0 {
			return
		}
		for _, c := range []string{"{", "}", ",", "0", "1", "3", "4", "6", "9", "-", " "} {
			try(text+c, left-1)
		}
	}
	try("", 5)
	try("{1,", 4)
	try("{6", 4)
}

// P2.1: a text is read just where it is its set's.
func FuzzRead(f *testing.F) {
	for _, text := range []string{"", "{}", "{0}", "{0,3,63}", "{64}", "{5,1}", "{01}", "{1,1}", "{1,}", "{-1}", "{}x", textOf(all)} {
		f.Add(text)
	}
	f.Fuzz(func(t *testing.T, text string) {
		s, ok := Read(text)
		if ok && textOf(s) != text {
			t.Errorf("Read(%q) = %x, whose text is %q", text, s, textOf(s))
		}
		if !ok && s != 0 {
			t.Errorf("Read(%q) = %x beside false", text, s)
		}
	})
}
