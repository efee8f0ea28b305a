package merge_test

import (
	"fmt"
	"math"
	"math/rand"
	"slices"
	"strings"
	"testing"

	"pointsman/api"
	"pointsman/merge"
	"pointsman/table"
)

// noFields lists numbers that are no field's.
var noFields = []int{-1, 8, 9, 256, 65536, math.MinInt, math.MaxInt}

// right lists the letters of lists that are right, wrong those of others.
const (
	right = "abcdefghij-"
	wrong = "STUVWXYZ"
)

func ask(f int, n uint16) []api.Pair { return []api.Pair{{F: f, N: n}} }

func put(f int, n uint16) api.Act { return api.Act{{F: f, N: n}} }

// list answers the list of a letter, in new memory; no two letters have the same.
func list(letter rune) []api.Row {
	drop := api.Row{}
	sent := api.Row{Match: ask(api.Dst, 1), Acts: []api.Act{put(api.Pt, 2)}}
	switch letter {
	case 'a':
		return []api.Row{sent, drop}
	case 'b':
		return []api.Row{drop, sent}
	case 'c':
		return []api.Row{sent}
	case 'd':
		return []api.Row{drop}
	case 'e':
		return []api.Row{drop, drop}
	case 'f':
		return []api.Row{{Acts: []api.Act{{}}}}
	case 'g':
		return []api.Row{{Acts: []api.Act{put(api.Pt, 1), put(api.Pt, 2)}}}
	case 'h':
		return []api.Row{{Acts: []api.Act{put(api.Pt, 2), put(api.Pt, 1)}}}
	case 'i':
		return []api.Row{{Match: ask(api.Dst, 2), Acts: sent.Acts}, drop}
	case 'j':
		return []api.Row{{Match: sent.Match, Acts: []api.Act{put(api.Pt, 3)}}, drop}
	case 'S':
		return []api.Row{sent, {Match: ask(-1, 0)}}
	case 'T':
		return []api.Row{{Match: []api.Pair{{F: 3}, {F: 2}}}}
	case 'U':
		return []api.Row{{Match: []api.Pair{{F: 3}, {F: 3}}}}
	case 'V':
		return []api.Row{drop, {Acts: make([]api.Act, 33)}}
	case 'W':
		return []api.Row{{Acts: []api.Act{put(8, 1)}}, drop}
	case 'X':
		return []api.Row{{Match: ask(8, 1)}}
	case 'Y':
		return []api.Row{{Match: ask(9, 1)}}
	case 'Z':
		return []api.Row{sent, {Acts: []api.Act{{{F: 1}, {F: 1}}}}}
	}
	return nil
}

func lists(letters string) [][]api.Row {
	var l [][]api.Row
	for _, c := range letters {
		l = append(l, list(c))
	}
	return l
}

// told tells a table: its Which, and the letters of its lists.
func told(t api.Table) string {
	s := fmt.Sprint(t.Which, " ")
	for _, l := range t.Lists {
		s += letterOf(l)
	}
	return s
}

// letterOf tells a list by all that is in it, where it has no letter.
func letterOf(l []api.Row) string {
	for _, c := range right + wrong {
		if fmt.Sprint(list(c)) == fmt.Sprint(l) {
			return string(c)
		}
	}
	return fmt.Sprint(l)
}

// model tells the table of the lists of these letters.
func model(letters string) string {
	which := []int{}
	seen := ""
	for _, c := range letters {
		if !strings.ContainsRune(seen, c) {
			seen += string(c)
		}
		which = append(which, strings.IndexRune(seen, c))
	}
	return fmt.Sprint(which, " ", seen)
}

func wantOf(t testing.TB, name string, l [][]api.Row) api.Table {
	t.Helper()
	got, e := merge.Of(l)
	if e != api.OK || !merge.Right(got) {
		t.Fatalf("%s: error %d, right %v", name, e, merge.Right(got))
	}
	return got
}

// wantNone holds that Of answers this error, and no table.
func wantNone(t *testing.T, name string, l [][]api.Row, want api.Errno) {
	t.Helper()
	if got, e := merge.Of(l); e != want || len(got.Which) != 0 || len(got.Lists) != 0 {
		t.Errorf("%s: %d tags, %d lists, error %d, want %d", name, len(got.Which), len(got.Lists), e, want)
	}
}

// P10.1: Of, by hand.
func TestOf(t *testing.T) {
	for letters, want := range map[string]string{
		"": "[] ",
		// One list.
		"a": "[0] a", "-": "[0] -",
		// The same ones, next to one another or not.
		"aa": "[0 0] a", "aaa": "[0 0 0] a", "--": "[0 0] -", "aba": "[0 1 0] ab", "abba": "[0 1 1 0] ab", "aab": "[0 0 1] ab", "abb": "[0 1 1] ab", "abcabc": "[0 1 2 0 1 2] abc", "a-b-": "[0 1 2 1] a-b", "-aa-": "[0 1 1 0] -a",
		// In the order of the first tags, whatever stands in the lists.
		"ab": "[0 1] ab", "ba": "[0 1] ba", "cba": "[0 1 2] cba", "bca": "[0 1 2] bca", "bcab": "[0 1 2 0] bca",
		// Lists that are unlike by the rows' order, their number, their matches, their acts, their acts' order, or what is put.
		"abcdefghij-": "[0 1 2 3 4 5 6 7 8 9 10] abcdefghij-",
	} {
		if got := told(wantOf(t, letters, lists(letters))); got != want {
			t.Errorf("%q: %s, want %s", letters, got, want)
		}
	}
	empty := [][]api.Row{{{}}, {{Match: []api.Pair{}, Acts: []api.Act{}}}, nil, {}}
	if got := told(wantOf(t, "nil and empty", empty)); got != "[0 0 1 1] d-" {
		t.Error(got)
	}
}

// P10.1: Of any lists, few of which are unlike.
func TestOfAtRandom(t *testing.T) {
	r := rand.New(rand.NewSource(1))
	for range 3000 {
		letters := anyLetters(r, right[r.Intn(len(right)):], r.Intn(12))
		if r.Intn(20) == 0 {
			letters = anyLetters(r, right, 250+r.Intn(7))
		}
		if got := told(wantOf(t, letters, lists(letters))); got != model(letters) {
			t.Fatalf("%q: %s, want %s", letters, got, model(letters))
		}
	}
}

func anyLetters(r *rand.Rand, of string, n int) string {
	b := make([]byte, n)
	for i := range b {
		b[i] = of[r.Intn(len(of))]
	}
	return string(b)
}

// long answers a list of n rows, unlike any other mark's by its last one alone.
func long(n int, mark uint16) []api.Row {
	l := make([]api.Row, n)
	l[n-1].Match = ask(api.Dst, mark)
	return l
}

// longs answers a list for each number: of so many rows, with the number's place for a mark, or the elder one's of the same number if alike.
func longs(alike bool, numbers ...int) [][]api.Row {
	var l [][]api.Row
	for i, n := range numbers {
		mark := i
		if alike {
			mark = slices.Index(numbers, n)
		}
		l = append(l, long(n, uint16(mark)))
	}
	return l
}

// P10.1: a table of 1000 rows there is; of 1001 none, those of the same list counted once.
func TestOfManyRows(t *testing.T) {
	for _, c := range []struct {
		l    [][]api.Row
		want api.Errno
	}{
		{longs(false, 999), api.OK},
		{longs(false, 1000), api.OK},
		{longs(false, 999, 1), api.OK},
		{longs(false, 1, 999), api.OK},
		{longs(false, 500, 500), api.OK},
		{longs(false, 250, 250, 250, 250), api.OK},
		{longs(true, 1000, 1000), api.OK},
		{longs(true, 600, 400, 600, 600, 400), api.OK},
		{append(longs(false, 1000), nil, nil), api.OK},
		{slices.Repeat(longs(false, 300, 300, 400), 85), api.OK},
		{longs(false, 1000, 1), api.ErrFull},
		{longs(false, 1, 1000), api.ErrFull},
		{longs(false, 1000, 1000), api.ErrFull},
		{longs(false, 500, 501), api.ErrFull},
		{longs(false, 250, 250, 250, 251), api.ErrFull},
		{longs(true, 600, 400, 600, 1), api.ErrFull},
		{append(slices.Repeat(longs(false, 300, 300, 400), 85), long(1, 9)), api.ErrFull},
		// A list that isn't right by its rows' number alone.
		{longs(false, 1001), api.ErrFull},
		{longs(true, 1001, 1001), api.ErrFull},
		{longs(false, 5000, 1), api.ErrFull},
	} {
		name := fmt.Sprint(len(c.l), " lists from ", len(c.l[0]), " rows on")
		if c.want != api.OK {
			wantNone(t, name, c.l, c.want)
			continue
		}
		got := wantOf(t, name, c.l)
		for tag, at := range got.Which {
			if !table.Same(got.Lists[at], c.l[tag]) {
				t.Errorf("%s: tag %d", name, tag)
			}
		}
	}
}

// P10.1: 256 lists are a table, the same ones or not; more are none.
func TestOfManyLists(t *testing.T) {
	unlike := func(n int) [][]api.Row { return longs(false, slices.Repeat([]int{1}, n)...) }
	same := func(n int) [][]api.Row { return longs(true, slices.Repeat([]int{1}, n)...) }
	for n, want := range map[int]api.Errno{1: api.OK, 255: api.OK, 256: api.OK, 257: api.ErrArg, 258: api.ErrArg, 512: api.ErrArg, 1000: api.ErrArg} {
		for name, l := range map[string][][]api.Row{"unlike": unlike(n), "the same": same(n), "empty": make([][]api.Row, n)} {
			if want != api.OK {
				wantNone(t, name, l, want)
				continue
			}
			got := wantOf(t, name, l)
			for tag := range n {
				if at := got.Which[tag]; name == "unlike" && at != tag || name != "unlike" && at != 0 {
					t.Errorf("%d %s: tag %d by list %d", n, name, tag, at)
				}
			}
			if count := map[bool]int{true: n, false: 1}[name == "unlike"]; len(got.Which) != n || len(got.Lists) != count {
				t.Errorf("%d %s: %d tags, %d lists", n, name, len(got.Which), len(got.Lists))
			}
		}
	}
	wantNone(t, "70000 lists", make([][]api.Row, 70000), api.ErrArg)
}

// P10.1: of lists that aren't right there is no table, wherever they stand.
func TestOfWrong(t *testing.T) {
	for _, c := range wrong {
		for _, at := range []string{"%", "%%", "%a", "a%", "ab%ba", "%-", "-%", "aaaaaaaaaa%", "abcdefghij-%", "%S", "a%a%"} {
			letters := strings.ReplaceAll(at, "%", string(c))
			wantNone(t, letters, lists(letters), api.ErrArg)
		}
	}
	for _, f := range noFields {
		for _, bad := range []api.Row{{Match: ask(f, 0)}, {Acts: []api.Act{put(f, 0)}}, {Match: ask(1, 1), Acts: []api.Act{{}, {{F: 0}, {F: f}}}}} {
			wantNone(t, fmt.Sprint(bad), [][]api.Row{list('a'), {{}, bad}}, api.ErrArg)
			wantNone(t, fmt.Sprint(bad), [][]api.Row{{bad}, list('a')}, api.ErrArg)
		}
	}
	for n, want := range map[int]api.Errno{31: api.OK, 32: api.OK, 33: api.ErrArg, 1000: api.ErrArg} {
		if _, e := merge.Of([][]api.Row{{{Acts: make([]api.Act, n)}}}); e != want {
			t.Errorf("%d acts: error %d", n, e)
		}
	}
}

// P10.1: where both errors would be told, it is ErrFull.
func TestOfBothErrors(t *testing.T) {
	bad := list('X')
	for _, c := range []struct {
		name string
		l    [][]api.Row
		want api.Errno
	}{
		{"1001 rows, one of them wrong", append(longs(false, 1000), bad), api.ErrFull},
		{"the wrong one ahead", append([][]api.Row{bad}, longs(false, 1000)...), api.ErrFull},
		{"1000 rows, one of them wrong", append(longs(false, 999), bad), api.ErrArg},
		{"the same wrong one twice", append(longs(false, 999), bad, bad), api.ErrArg},
		{"two wrong ones", append(longs(false, 999), bad, list('Y')), api.ErrFull},
		{"a wrong list of 1001 rows", [][]api.Row{slices.Repeat(bad, 1001)}, api.ErrFull},
		{"a wrong list of 1000 rows, twice", slices.Repeat([][]api.Row{slices.Repeat(bad, 1000)}, 2), api.ErrArg},
		{"257 lists, 1001 rows", slices.Repeat(longs(false, 600, 401), 129), api.ErrFull},
		{"257 lists, the last one too much", append(slices.Repeat(longs(false, 600), 256), long(401, 1)), api.ErrFull},
		{"257 lists, 1000 rows", append(slices.Repeat(longs(false, 600), 256), long(400, 1)), api.ErrArg},
		{"1000 lists of a row", longs(false, slices.Repeat([]int{1}, 1000)...), api.ErrArg},
		{"1001 lists of a row", longs(false, slices.Repeat([]int{1}, 1001)...), api.ErrFull},
		{"2000 empty lists, and 1001 rows", append(make([][]api.Row, 2000), longs(false, 1000, 1)...), api.ErrFull},
		{"257 lists, one of them wrong", append(make([][]api.Row, 256), bad), api.ErrArg},
	} {
		wantNone(t, c.name, c.l, c.want)
	}
}

// P10.1: Lookup, by hand: of tags that there are and that there aren't.
func TestLookup(t *testing.T) {
	q := api.Packet{1, 9, 0, 1}
	x := wantOf(t, "aghaf-", lists("aghaf-"))
	for tag, want := range [][]api.Packet{{{1, 2, 0, 1}}, {{1, 1, 0, 1}, {1, 2, 0, 1}}, {{1, 1, 0, 1}, {1, 2, 0, 1}}, {{1, 2, 0, 1}}, {q}, nil} {
		if got, e := merge.Lookup(x, uint16(tag), q); e != api.OK || !slices.Equal(got, want) {
			t.Errorf("tag %d: %v, error %d, want %v", tag, got, e, want)
		}
	}
	if got, e := merge.Lookup(x, 0, api.Packet{1, 9, 0, 2}); e != api.OK || len(got) != 0 {
		t.Error(got, e)
	}
	for _, tag := range []uint16{6, 7, 255, 256, 257, 32768, 65535} {
		wantNoTag(t, x, tag)
	}
	wantNoTag(t, api.Table{}, 0)
	wantNoTag(t, api.Table{Lists: lists("f")}, 0)
	wantNoTag(t, wantOf(t, "none", nil), 0)
}

func wantNoTag(t *testing.T, x api.Table, tag uint16) {
	t.Helper()
	if got, e := merge.Lookup(x, tag, api.Packet{}); e != api.ErrTag || len(got) != 0 {
		t.Errorf("%s: tag %d: %v, error %d", told(x), tag, got, e)
	}
}

// P10.1: Lookup of a table that is none of lists goes by the list that Which says, if there is one, whether it is right or not.
func TestLookupOfAnyTable(t *testing.T) {
	for _, at := range []int{-1, 3, 4, 256, 65536, math.MinInt, math.MaxInt} {
		x := api.Table{Which: []int{2, at, 0, at}, Lists: lists("dcf")}
		wantNoTag(t, x, 1)
		wantNoTag(t, x, 3)
		if got, e := merge.Lookup(x, 0, api.Packet{5}); e != api.OK || !slices.Equal(got, []api.Packet{{5}}) {
			t.Error(got, e)
		}
		if got, e := merge.Lookup(x, 2, api.Packet{5}); e != api.OK || len(got) != 0 {
			t.Error(got, e)
		}
	}
	x := api.Table{Which: make([]int, 65536), Lists: lists("df")}
	x.Which[65535], x.Which[256] = 1, 1
	for tag, n := range map[uint16]int{0: 0, 255: 0, 256: 1, 257: 0, 65534: 0, 65535: 1} {
		if got, e := merge.Lookup(x, tag, api.Packet{5}); e != api.OK || len(got) != n {
			t.Error(tag, got, e)
		}
	}
	for _, c := range wrong {
		q := api.Packet{0, 7, 0, 1}
		want, _ := table.Lookup(list(c), q)
		if got, e := merge.Lookup(api.Table{Which: []int{0}, Lists: lists(string(c))}, 0, q); e != api.OK || !slices.Equal(got, want) {
			t.Errorf("%c: %v, error %d, want %v", c, got, e, want)
		}
	}
}

// P10.1: Rows are those of all lists, whether a tag goes by them or not.
func TestRows(t *testing.T) {
	for letters, want := range map[string]int{"": 0, "-": 0, "a": 2, "aa": 2, "ab": 4, "abab": 4, "d-ad": 3, "abcdefghij-": 15} {
		if got := merge.Rows(wantOf(t, letters, lists(letters))); got != want {
			t.Errorf("%q: %d rows, want %d", letters, got, want)
		}
	}
	for _, which := range [][]int{nil, {0}, {0, 0, 0}, {-1, 7}} {
		for letters, want := range map[string]int{"": 0, "a": 2, "aa": 4, "X": 1, "-V-a": 4} {
			if got := merge.Rows(api.Table{Which: which, Lists: lists(letters)}); got != want {
				t.Errorf("%v %q: %d rows, want %d", which, letters, got, want)
			}
		}
	}
	if got := merge.Rows(api.Table{Lists: longs(false, 1000, 5000)}); got != 6000 {
		t.Error(got)
	}
}

// P10.1: Right, by hand.
func TestRight(t *testing.T) {
	for _, c := range []struct {
		which   []int
		letters string
		want    bool
	}{
		{nil, "", true},
		{[]int{0}, "a", true},
		{[]int{0}, "-", true},
		{[]int{0, 0}, "a", true},
		{[]int{0, 1}, "ab", true},
		{[]int{0, 1}, "ba", true},
		{[]int{0, 1, 0, 2, 1}, "a-b", true},
		// A Which that names no list.
		{[]int{0}, "", false},
		{[]int{-1}, "", false},
		{[]int{-1}, "a", false},
		{[]int{1}, "a", false},
		{[]int{0, 1}, "a", false},
		{[]int{0, -1}, "a", false},
		{[]int{0, -1, 1}, "ab", false},
		{[]int{0, 2, 1}, "ab", false},
		{[]int{0, math.MaxInt}, "ab", false},
		{[]int{math.MinInt, 0}, "a", false},
		// A list that none names.
		{nil, "a", false},
		{nil, "-", false},
		{[]int{0}, "ab", false},
		{[]int{0}, "a-", false},
		{[]int{0, 0}, "ab", false},
		{[]int{1}, "ab", false},
		{[]int{0, 1, 0}, "abc", false},
		{[]int{0, 2}, "abc", false},
		// Lists in another order.
		{[]int{1, 0}, "ab", false},
		{[]int{0, 2, 1}, "abc", false},
		{[]int{1, 0, 2}, "abc", false},
		{[]int{1, 1, 0, 0}, "ab", false},
		// One list twice.
		{[]int{0, 1}, "aa", false},
		{[]int{0, 1}, "--", false},
		{[]int{0, 1, 2}, "aba", false},
		{[]int{0, 1, 2}, "abb", false},
		{[]int{0, 1, 2, 0}, "baa", false},
		// A list that isn't right.
		{[]int{0}, "X", false},
		{[]int{0, 1}, "aX", false},
		{[]int{0, 1, 2}, "aX-", false},
	} {
		if got := merge.Right(api.Table{Which: c.which, Lists: lists(c.letters)}); got != c.want {
			t.Errorf("%v %q: %v", c.which, c.letters, got)
		}
	}
}

// words answers all texts of up to n of these letters.
func words(letters string, n int) []string {
	all, last := []string{""}, []string{""}
	for range n {
		var next []string
		for _, s := range last {
			for _, c := range letters {
				next = append(next, s+string(c))
			}
		}
		all, last = append(all, next...), next
	}
	return all
}

// P10.1: of all small tables just those are right that are the table of some lists, each right.
func TestSmallTables(t *testing.T) {
	tables := map[string]int{}
	for _, letters := range words("ac-", 3) {
		tables[model(letters)] = 1
	}
	count := 0
	for _, which := range words("0123", 3) {
		for _, letters := range words("ac-X", 3) {
			x := api.Table{Lists: lists(letters)}
			for _, c := range which {
				x.Which = append(x.Which, int(c-'1'))
			}
			want := tables[told(x)] == 1
			if merge.Right(x) != want {
				t.Errorf("%s: %v", told(x), !want)
			}
			if want {
				count++
			}
		}
	}
	if count != len(tables) {
		t.Error(count, len(tables))
	}
}

// P10.1: a table of lists has at most 1000 rows and 256 tags.
func TestRightLimits(t *testing.T) {
	for n, want := range map[int]bool{999: true, 1000: true, 1001: false, 5000: false} {
		if merge.Right(api.Table{Which: []int{0}, Lists: longs(false, n)}) != want {
			t.Errorf("%d rows: %v", n, !want)
		}
		if merge.Right(api.Table{Which: []int{0, 1}, Lists: longs(false, 500, n-500)}) != want {
			t.Errorf("%d rows of two lists: %v", n, !want)
		}
	}
	for n, want := range map[int]bool{255: true, 256: true, 257: false, 70000: false} {
		if merge.Right(api.Table{Which: make([]int, n), Lists: lists("a")}) != want {
			t.Errorf("%d tags: %v", n, !want)
		}
	}
	for n, want := range map[int]bool{256: true, 257: false, 1000: false} {
		x := api.Table{Lists: longs(false, slices.Repeat([]int{1}, n)...)}
		for i := range n {
			x.Which = append(x.Which, i)
		}
		if merge.Right(x) != want {
			t.Errorf("%d lists: %v", n, !want)
		}
	}
}

// P10.1: Right asks of lists what layer 9 asks, and of their being unlike what layer 9 calls the same.
func TestRightLists(t *testing.T) {
	for _, c := range right + wrong {
		want := strings.ContainsRune(right, c)
		for _, x := range []api.Table{{Which: []int{0}, Lists: [][]api.Row{list(c)}}, {Which: []int{0, 1, 0}, Lists: [][]api.Row{list(c), long(7, 7)}}, {Which: []int{0, 1, 0}, Lists: [][]api.Row{long(7, 7), list(c)}}} {
			if merge.Right(x) != want {
				t.Errorf("%c: %s: %v", c, told(x), !want)
			}
		}
		for _, d := range right {
			if x := (api.Table{Which: []int{0, 1}, Lists: lists(string(c) + string(d))}); merge.Right(x) != (want && c != d) {
				t.Errorf("%s: %v", told(x), merge.Right(x))
			}
		}
	}
	if merge.Right(api.Table{Which: []int{0, 1}, Lists: [][]api.Row{nil, {}}}) || merge.Right(api.Table{Which: []int{0, 1}, Lists: [][]api.Row{{{}}, {{Match: []api.Pair{}, Acts: []api.Act{}}}}}) {
		t.Error("the same list, once nil and once empty")
	}
}

// R4: what Of answers is the caller's own: it shares nothing with what is handed in, nor do its lists with one another; and nothing that is handed in is changed.
func TestMemory(t *testing.T) {
	act := []api.Act{put(api.Pt, 2), put(api.Vid, 3)}
	match := append(make([]api.Pair, 0, 8), api.Pair{F: api.Dst, N: 1})
	sent := api.Row{Match: match, Acts: act[:1:2]}
	both := api.Row{Match: match, Acts: act}
	// The same memory again and again, as what is handed in may have it.
	whole := []api.Row{sent, both, sent, {}, both}
	l := [][]api.Row{whole[:1], whole[1:4], whole[:3], whole[:1], nil, whole}
	was := fmt.Sprint(l)
	got := wantOf(t, "shared", l)
	before := fmt.Sprint(got)
	if before != "{[0 1 2 0 3 4] "+fmt.Sprint([][]api.Row{l[0], l[1], l[2], nil, l[5]})+"}" {
		t.Error(before)
	}
	scribble(t, got, func() { wantTold(t, l, was) })
	again := wantOf(t, "again", l)
	merge.Rows(again)
	merge.Right(again)
	if made, _ := merge.Lookup(again, 5, api.Packet{0, 0, 0, 1}); len(made) == 1 {
		made[0] = api.Packet{9, 9}
	}
	wantTold(t, again, before)
	for i := range whole {
		whole[i] = api.Row{Match: ask(5, 5)}
	}
	act[0][0], act[1], match[0] = api.Pair{F: 7, N: 7}, nil, api.Pair{F: 6, N: 6}
	clear(l)
	wantTold(t, again, before)
}

func wantTold(t *testing.T, x any, want string) {
	t.Helper()
	if got := fmt.Sprint(x); got != want {
		t.Fatalf("%s became %s", want, got)
	}
}

// scribble writes over each slice of a table to its capacity, one at a time, and holds that nothing else becomes other by it.
func scribble(t *testing.T, x api.Table, hold func()) {
	t.Helper()
	was := fmt.Sprint(x)
	for _, l := range x.Lists {
		over(l, api.Row{Match: ask(77, 77)}, func() { hold(); wantOthers(t, x, was, len(l)) })
		for i := range l {
			over(l[i].Match, api.Pair{F: 77, N: 77}, func() { hold(); wantOthers(t, x, was, 1) })
			for k := range l[i].Acts {
				over(l[i].Acts[k], api.Pair{F: 77, N: 77}, func() { hold(); wantOthers(t, x, was, 1) })
			}
			over(l[i].Acts, api.Act{{F: 77, N: 77}}, func() { hold(); wantOthers(t, x, was, len(l[i].Acts)) })
		}
	}
	wantTold(t, x, was)
	over(x.Lists, nil, hold)
	over(x.Which, 77, hold)
}

// over writes v all over l, asks, and writes back what was there.
func over[T any](l []T, v T, ask func()) {
	l = l[:cap(l)]
	kept := slices.Clone(l)
	for i := range l {
		l[i] = v
	}
	ask()
	copy(l, kept)
}

// wantOthers holds that at most so many pairs became what scribble writes.
func wantOthers(t *testing.T, x api.Table, was string, most int) {
	t.Helper()
	if n := strings.Count(fmt.Sprint(x), "{77 77}"); n > most {
		t.Fatalf("%s became %v: %d pairs at once", was, x, n)
	}
}

// P0: nothing panics, of tables with any numbers.
func TestAnyTables(t *testing.T) {
	var bad []api.Row
	for _, f := range noFields {
		bad = append(bad, api.Row{Match: ask(f, 65535), Acts: []api.Act{put(f, 1), nil, {}}})
	}
	for _, which := range [][]int{nil, noFields, {0, math.MaxInt, 1, math.MinInt}} {
		for _, l := range [][][]api.Row{nil, {nil}, {bad}, {bad, nil, bad}} {
			x := api.Table{Which: which, Lists: l}
			if merge.Right(x) != (which == nil && l == nil) {
				t.Error(x)
			}
			merge.Rows(x)
			for _, tag := range []uint16{0, 1, 2, 3, 8, 256, 65535} {
				merge.Lookup(x, tag, api.Packet{65535})
			}
		}
	}
}
