package syntax

import (
	"fmt"
	"math/rand"
	"reflect"
	"regexp"
	"slices"
	"strconv"
	"strings"
	"testing"

	"pointsman/api"
	"pointsman/lex"
)

var reserved = []string{"init", "let", "policy", "on", "id", "drop", "switch", "link", "host", "sw", "pt", "src", "dst", "typ", "svc", "vid", "opt"}

var fieldNames = []string{"sw", "pt", "src", "dst", "typ", "svc", "vid", "opt"}

func test(f int, n uint16) api.Pol      { return api.Pol{Op: api.Test, F: f, N: n} }
func put(f int, n uint16) api.Pol       { return api.Pol{Op: api.Put, F: f, N: n} }
func state(f int, n uint16) api.Pol     { return api.Pol{Op: api.State, F: f, N: n} }
func not(p api.Pol) api.Pol             { return api.Pol{Op: api.Not, Kids: []api.Pol{p}} }
func seq(l ...api.Pol) api.Pol          { return api.Pol{Op: api.Seq, Kids: l} }
func sum(l ...api.Pol) api.Pol          { return api.Pol{Op: api.Sum, Kids: l} }
func pair(f int, n uint16) api.Pair     { return api.Pair{F: f, N: n} }
func pairs(l ...api.Pair) []api.Pair    { return l }
func rules(l ...api.Rule) []api.Rule    { return l }
func numbers(l ...uint16) []uint16      { return l }
func policyText(policy string) string   { return "init 0 . policy " + policy + " ." }
func ruleText(rule string) string       { return "init 0 0 . policy id . " + rule + " ." }
func repeated(s string, n int) string   { return strings.Repeat(s, n) }
func identity() api.Pol                 { return api.Pol{Op: api.Id} }
func dropAll() api.Pol                  { return api.Pol{Op: api.Drop} }
func bare(p api.Pol) api.Program        { return api.Program{Init: numbers(0), Pol: p} }
func sameProgram(a, b api.Program) bool { return reflect.DeepEqual(plain(a), plain(b)) }

// plain makes empty lists nil, all the way down, in new memory: an empty list may be either.
func plain(p api.Program) api.Program {
	return api.Program{Init: plainList(p.Init), Pol: plainPol(p.Pol), Rules: plainRules(p.Rules)}
}

func plainList[T any](l []T) []T {
	return append([]T(nil), l...)
}

func plainPol(p api.Pol) api.Pol {
	kids := plainList(p.Kids)
	for i := range kids {
		kids[i] = plainPol(kids[i])
	}
	p.Kids = kids
	return p
}

func plainRules(l []api.Rule) []api.Rule {
	l = plainList(l)
	for i, r := range l {
		l[i] = api.Rule{When: plainList(r.When), Guard: plainList(r.Guard), Then: plainList(r.Then)}
	}
	return l
}

var (
	fieldShape  = `<(sw|pt|src|dst|typ|svc|vid|opt)>`
	valueShape  = `<(\d+|\p{L}[\p{L}0-9_]*)>`
	initShape   = regexp.MustCompile(`^<init>((?:<\d+>)+)$`)
	letShape    = regexp.MustCompile(`^<let><(\p{L}[\p{L}0-9_]*)><=><(\d+)>$`)
	atomShape   = regexp.MustCompile(`<(id|drop)>|` + fieldShape + `<(=|:=)>` + valueShape + `|<@><(\d+)><=>` + valueShape)
	innerShape  = regexp.MustCompile(`<\(>([^()]*)<\)>`)
	levelShape  = regexp.MustCompile(`^(?:<!>)*<\$\d+>(?:<[+;]>(?:<!>)*<\$\d+>)*$`)
	whenShape   = regexp.MustCompile(`^(?:` + fieldShape + `|<@><(\d+)>)<=>` + valueShape + `$`)
	partShape   = regexp.MustCompile(`^<@><(\d+)><:=>` + valueShape + `$`)
	numberShape = regexp.MustCompile(`\d+`)
)

// model reads by the chapter's words in another way than Parse: the tokens' text is cut at its signs, and a policy reduced from within.
type model struct {
	lets  map[string]int
	nodes []api.Pol
	bad   map[api.Errno]bool
}

func programOf(s string) (api.Program, api.Errno) {
	l, e := lex.Tokens(s)
	if e != api.OK {
		return api.Program{}, e
	}
	m := model{lets: map[string]int{}, bad: map[api.Errno]bool{}}
	p := m.program(marked(l))
	for _, e := range []api.Errno{api.ErrSyntax, api.ErrName, api.ErrForm} {
		if m.bad[e] {
			return api.Program{}, e
		}
	}
	if e := checkOf(p); e != api.OK {
		return api.Program{}, e
	}
	return p, api.OK
}

// marked puts each token between < and >.
func marked(l []api.Token) string {
	text := ""
	for _, k := range l[:len(l)-1] {
		switch {
		case k.Kind == api.Num:
			text += "<" + strconv.Itoa(int(k.N)) + ">"
		case k.S == "=>":
			text += "<~>"
		default:
			text += "<" + k.S + ">"
		}
	}
	return text
}

func (m *model) program(text string) api.Program {
	var p api.Program
	said := strings.Split(text, "<.>")
	last := len(said) - 1
	if last < 2 || said[last] != "" || !initShape.MatchString(said[0]) {
		m.bad[api.ErrSyntax] = true
		return p
	}
	for _, n := range numberShape.FindAllString(said[0], -1) {
		p.Init = append(p.Init, number(n))
	}
	said = said[1:last]
	for len(said) > 0 && strings.HasPrefix(said[0], "<let>") {
		m.let(said[0])
		said = said[1:]
	}
	if len(said) == 0 || !strings.HasPrefix(said[0], "<policy>") {
		m.bad[api.ErrSyntax] = true
		return p
	}
	p.Pol = m.policy(strings.TrimPrefix(said[0], "<policy>"))
	for _, r := range said[1:] {
		p.Rules = append(p.Rules, m.rule(r))
	}
	return p
}

func number(digits string) uint16 {
	n, err := strconv.Atoi(digits)
	if err != nil {
		panic(err)
	}
	return uint16(n)
}

func (m *model) let(text string) {
	found := letShape.FindStringSubmatch(text)
	if found == nil || slices.Contains(reserved, found[1]) {
		m.bad[api.ErrSyntax] = true
		return
	}
	if _, there := m.lets[found[1]]; there {
		m.bad[api.ErrName] = true
	}
	m.lets[found[1]] = int(number(found[2]))
}

func (m *model) value(text string) uint16 {
	if numberShape.FindString(text) == text {
		return number(text)
	}
	n, there := m.lets[text]
	if slices.Contains(reserved, text) {
		m.bad[api.ErrSyntax] = true
	} else if !there {
		m.bad[api.ErrName] = true
	}
	return uint16(n)
}

func (m *model) keep(p api.Pol) string {
	m.nodes = append(m.nodes, p)
	return "<$" + strconv.Itoa(len(m.nodes)-1) + ">"
}

func (m *model) policy(text string) api.Pol {
	text = atomShape.ReplaceAllStringFunc(text, func(atom string) string {
		found := atomShape.FindStringSubmatch(atom)
		switch {
		case found[1] == "id":
			return m.keep(identity())
		case found[1] == "drop":
			return m.keep(dropAll())
		case found[3] == "=":
			return m.keep(test(slices.Index(fieldNames, found[2]), m.value(found[4])))
		case found[3] == ":=":
			return m.keep(put(slices.Index(fieldNames, found[2]), m.value(found[4])))
		}
		return m.keep(state(int(number(found[5])), m.value(found[6])))
	})
	for innerShape.MatchString(text) {
		text = innerShape.ReplaceAllStringFunc(text, func(inner string) string {
			return m.keep(m.level(innerShape.FindStringSubmatch(inner)[1]))
		})
	}
	return m.level(text)
}

// level reads a policy without brackets.
func (m *model) level(text string) api.Pol {
	if !levelShape.MatchString(text) {
		m.bad[api.ErrSyntax] = true
		return api.Pol{}
	}
	var sums []api.Pol
	for _, s := range strings.Split(text, "<+>") {
		var seqs []api.Pol
		for _, u := range strings.Split(s, "<;>") {
			p := m.nodes[number(numberShape.FindString(u))]
			for range strings.Count(u, "<!>") {
				p = not(p)
			}
			seqs = append(seqs, p)
		}
		sums = append(sums, alone(api.Seq, seqs))
	}
	return alone(api.Sum, sums)
}

func alone(op int, kids []api.Pol) api.Pol {
	if len(kids) > 1 {
		return api.Pol{Op: op, Kids: kids}
	}
	return kids[0]
}

func (m *model) rule(text string) api.Rule {
	var r api.Rule
	text, on := strings.CutPrefix(text, "<on>")
	whens, parts, leads := strings.Cut(text, "<~>")
	if !on || !leads {
		m.bad[api.ErrSyntax] = true
		return r
	}
	for _, w := range strings.Split(whens, "<&>") {
		found := whenShape.FindStringSubmatch(w)
		switch {
		case found == nil:
			m.bad[api.ErrSyntax] = true
		case found[1] != "":
			r.When = append(r.When, pair(slices.Index(fieldNames, found[1]), m.value(found[3])))
		default:
			r.Guard = append(r.Guard, pair(int(number(found[2])), m.value(found[3])))
		}
	}
	for _, w := range strings.Split(parts, "<&>") {
		found := partShape.FindStringSubmatch(w)
		if found == nil {
			m.bad[api.ErrSyntax] = true
			continue
		}
		r.Then = append(r.Then, pair(int(number(found[1])), m.value(found[2])))
	}
	m.sort(r.When)
	m.sort(r.Guard)
	m.sort(r.Then)
	return r
}

func (m *model) sort(l []api.Pair) {
	slices.SortStableFunc(l, func(a, b api.Pair) int { return a.F - b.F })
	for i := range l {
		if i > 0 && l[i].F == l[i-1].F {
			m.bad[api.ErrForm] = true
		}
	}
}

func wantProgram(t *testing.T, s string, want api.Program) {
	t.Helper()
	if p, e := Parse(s); e != api.OK || !sameProgram(p, want) {
		t.Errorf("Parse(%q) = %v %v, want %v", s, p, e, want)
	}
}

func wantError(t *testing.T, s string, want api.Errno) {
	t.Helper()
	if p, e := Parse(s); e != want || !sameProgram(p, api.Program{}) {
		t.Errorf("Parse(%q) = %v %v, want %v alone", s, p, e, want)
	}
}

// wantAsPlainly holds Parse against programOf, and Check against what Parse answers; it tells the error.
func wantAsPlainly(t *testing.T, s string) api.Errno {
	t.Helper()
	want, e := programOf(s)
	if e != api.OK {
		wantError(t, s, e)
		return e
	}
	wantProgram(t, s, want)
	if e := Check(want); e != api.OK {
		t.Errorf("Check(%v) = %v", want, e)
	}
	return api.OK
}

// P5.1: programs, by hand.
func TestParseByHand(t *testing.T) {
	wantProgram(t, "init 0 . policy @0=0 ; dst=2 ; pt:=1 . on sw=1 & pt=2 => @0:=1 .", api.Program{
		Init:  numbers(0),
		Pol:   seq(state(0, 0), test(api.Dst, 2), put(api.Pt, 1)),
		Rules: rules(api.Rule{When: pairs(pair(0, 1), pair(1, 2)), Then: pairs(pair(0, 1))}),
	})
	wantProgram(t, "init 0 . policy id .", api.Program{Init: numbers(0), Pol: identity()})
	wantProgram(t, "init 65535 0 7 9 . policy drop .", api.Program{Init: numbers(65535, 0, 7, 9), Pol: dropAll()})
	wantProgram(t, "init 1 2 . let a = 5 . let b = 65535 . policy src=a + vid:=b ; @1=a . on @1=b & opt=a & @0=a & pt=b & sw=3 => @1:=a & @0:=b .", api.Program{
		Init:  numbers(1, 2),
		Pol:   sum(test(api.Src, 5), seq(put(api.Vid, 65535), state(1, 5))),
		Rules: rules(api.Rule{When: pairs(pair(0, 3), pair(1, 65535), pair(7, 5)), Guard: pairs(pair(0, 5), pair(1, 65535)), Then: pairs(pair(0, 65535), pair(1, 5))}),
	})
	wantProgram(t, "init 0 . policy id . on sw=1&pt=1=>@0:=1 . on sw=1&pt=1&@0=1=>@0:=0 . on sw=1&pt=1=>@0:=1 .", api.Program{
		Init: numbers(0), Pol: identity(),
		Rules: rules(
			api.Rule{When: pairs(pair(0, 1), pair(1, 1)), Then: pairs(pair(0, 1))},
			api.Rule{When: pairs(pair(0, 1), pair(1, 1)), Guard: pairs(pair(0, 1)), Then: pairs(pair(0, 0))},
			api.Rule{When: pairs(pair(0, 1), pair(1, 1)), Then: pairs(pair(0, 1))}),
	})
}

// P5.1: sums, sequences, brackets and nots: one kid alone is itself, and brackets are no node, but keep what stands in them together.
func TestParsePolicies(t *testing.T) {
	a, b, c, d := test(3, 1), test(4, 2), put(5, 3), identity()
	for s, want := range map[string]api.Pol{
		"A":                     a,
		"(A)":                   a,
		"((A))":                 a,
		"A+B":                   sum(a, b),
		"(A+B)":                 sum(a, b),
		"A;B":                   seq(a, b),
		"A+B+C":                 sum(a, b, c),
		"A;B;C":                 seq(a, b, c),
		"(A+B)+C":               sum(sum(a, b), c),
		"A+(B+C)":               sum(a, sum(b, c)),
		"(A;B);C":               seq(seq(a, b), c),
		"A;(B;C)":               seq(a, seq(b, c)),
		"A;B+C":                 sum(seq(a, b), c),
		"A+B;C":                 sum(a, seq(b, c)),
		"(A+B);C":               seq(sum(a, b), c),
		"A;(B+C)":               seq(a, sum(b, c)),
		"A;B+C;D":               sum(seq(a, b), seq(c, d)),
		"A;(B+C);D":             seq(a, sum(b, c), d),
		"(A;B)+(C;D)":           sum(seq(a, b), seq(c, d)),
		"!A":                    not(a),
		"!!A":                   not(not(a)),
		"!(A)":                  not(a),
		"(!A)":                  not(a),
		"!A;B":                  seq(not(a), b),
		"A;!B":                  seq(a, not(b)),
		"!A+!B":                 sum(not(a), not(b)),
		"!(A;B)":                not(seq(a, b)),
		"!(A+B);C":              seq(not(sum(a, b)), c),
		"!(!(A+!B);D)":          not(seq(not(sum(a, not(b))), d)),
		"!((A;!!B)+(D))":        not(sum(seq(a, not(not(b))), d)),
		"A+A+A":                 sum(a, a, a),
		"D;drop;C;C":            seq(d, dropAll(), c, c),
		"(((A+B)))+(((C)));(D)": sum(sum(a, b), seq(c, d)),
	} {
		s = strings.NewReplacer("A", "dst=1", "B", "typ=2", "C", "svc:=3", "D", "id").Replace(s)
		wantProgram(t, policyText(s), bare(want))
	}
	for n := range 20 {
		wantProgram(t, policyText(repeated("!", n)+repeated("(", 1000)+"id"+repeated(")", 1000)), bare(chain(n+1)))
	}
}

// chain answers a policy that is so deep.
func chain(depth int) api.Pol {
	p := identity()
	for range depth - 1 {
		p = not(p)
	}
	return p
}

// P5.1: each field, at each place where one may stand; the switch can't be put.
func TestParseFields(t *testing.T) {
	for f, name := range fieldNames {
		wantProgram(t, policyText(name+"=9"), bare(test(f, 9)))
		if f == api.Sw {
			wantError(t, policyText(name+":=9"), api.ErrForm)
		} else {
			wantProgram(t, policyText(name+":=9"), bare(put(f, 9)))
		}
		if f > api.Pt {
			wantProgram(t, ruleText("on "+name+"=9 & pt=2 & sw=1 => @1:=4"), api.Program{
				Init: numbers(0, 0), Pol: identity(),
				Rules: rules(api.Rule{When: pairs(pair(0, 1), pair(1, 2), pair(f, 9)), Then: pairs(pair(1, 4))}),
			})
		}
		wantError(t, policyText(name), api.ErrSyntax)
		wantError(t, policyText(name+"= ="), api.ErrSyntax)
		wantError(t, policyText(name+"=>9"), api.ErrSyntax)
		wantError(t, policyText(name+": =9"), api.ErrSyntax)
		wantError(t, policyText(strings.ToUpper(name)+"=9"), api.ErrSyntax)
	}
}

// P5.1: what a rule asks and makes is rising, in whatever order it is said, and rules keep theirs.
func TestParseRulesRising(t *testing.T) {
	r := rand.New(rand.NewSource(5))
	want := api.Rule{}
	var whens, parts []string
	for f, name := range fieldNames {
		want.When = append(want.When, pair(f, uint16(10+f)))
		whens = append(whens, fmt.Sprint(name, "=", 10+f))
	}
	for f := range 4 {
		want.Guard = append(want.Guard, pair(f, uint16(20+f)))
		want.Then = append(want.Then, pair(f, uint16(30-f)))
		whens = append(whens, fmt.Sprint("@", f, "=", 20+f))
		parts = append(parts, fmt.Sprint("@", f, ":=", 30-f))
	}
	for range 300 {
		r.Shuffle(len(whens), func(i, j int) { whens[i], whens[j] = whens[j], whens[i] })
		r.Shuffle(len(parts), func(i, j int) { parts[i], parts[j] = parts[j], parts[i] })
		s := "init 0 0 0 0 . policy id . on sw=1&pt=1=>@0:=1 . on " + strings.Join(whens, "&") + "=>" + strings.Join(parts, "&") + " . on sw=0&pt=0=>@3:=1 ."
		wantProgram(t, s, api.Program{Init: numbers(0, 0, 0, 0), Pol: identity(), Rules: rules(
			api.Rule{When: pairs(pair(0, 1), pair(1, 1)), Then: pairs(pair(0, 1))},
			want,
			api.Rule{When: pairs(pair(0, 0), pair(1, 0)), Then: pairs(pair(3, 1))})})
	}
}

// P5.1: reserved words are no names; all other words are, at each place of a name; numbers alone stand where no value does.
func TestParseNames(t *testing.T) {
	for _, w := range reserved {
		wantError(t, "init 0 . let "+w+" = 1 . policy id .", api.ErrSyntax)
		wantError(t, policyText("dst="+w), api.ErrSyntax)
		wantError(t, policyText("dst:="+w), api.ErrSyntax)
		wantError(t, policyText("@0="+w), api.ErrSyntax)
		wantError(t, ruleText("on sw=1 & pt="+w+" => @0:=1"), api.ErrSyntax)
		wantError(t, ruleText("on sw=1 & pt=1 & @0="+w+" => @0:=1"), api.ErrSyntax)
		wantError(t, ruleText("on sw=1 & pt=1 => @0:="+w), api.ErrSyntax)
		wantAsName(t, w+"_")
		wantAsName(t, strings.ToUpper(w))
		wantAsName(t, w+w)
	}
	for _, w := range []string{"a", "x1", "end", "seq", "true", "π", "ſw", "naïve_1", "漢字", repeated("é", 20), "not", "init0", "P", "test"} {
		wantAsName(t, w)
	}
	wantError(t, "init 0 . let "+repeated("é", 21)+" = 1 . policy id .", api.ErrLong)
	for _, s := range []string{
		"init x . policy id .", "init 0 x . policy id .", "init 0 . let x = x . policy id .", "init 0 . let y = 1 . let x = y . policy id .",
		"init 0 . let 1 = 1 . policy id .", "init 0 . let x 1 . policy id .", "init 0 . let x := 1 . policy id .", "init 0 . let x = . policy id .",
		"init 0 . let x = 1 policy id .", "init 0 . let x = 1 2 . policy id .", "init 0 . let x . policy id .", "init 0 . let . policy id .",
		"init 0 . let x = 1 . policy x .", "init 0 . let x = 1 . policy @x=1 .", "init 0 . let x = 1 . policy x=1 .",
		"init 0 . let x = 1 . policy id . on sw=1 & pt=1 & @x=0 => @0:=1 .", "init 0 . let x = 1 . policy id . on sw=1 & pt=1 => @x:=1 .",
		"let x = 1 . init 0 . policy id .", "init 0 . policy id . let x = 1 .", "init 0 . policy dst=x . let x = 1 .",
	} {
		wantError(t, s, api.ErrSyntax)
	}
}

// wantAsName holds that w may be a name at each place of a value, and that it stands for nothing without a let, and for two things with two.
func wantAsName(t *testing.T, w string) {
	t.Helper()
	s := "policy dst=" + w + " + vid:=" + w + " + @0=" + w + " . on sw=" + w + " & pt=1 & @0=" + w + " => @0:=" + w + " ."
	wantProgram(t, "init 0 . let q = 5 . let "+w+" = 77 . "+s, api.Program{
		Init:  numbers(0),
		Pol:   sum(test(3, 77), put(6, 77), state(0, 77)),
		Rules: rules(api.Rule{When: pairs(pair(0, 77), pair(1, 1)), Guard: pairs(pair(0, 77)), Then: pairs(pair(0, 77))}),
	})
	wantError(t, "init 0 . let q = 77 . "+s, api.ErrName)
	wantError(t, "init 0 . let "+w+" = 77 . let q = 1 . let "+w+" = 77 . "+s, api.ErrName)
	wantError(t, "init 0 . let "+w+" = 77 . let "+w+" = 76 . policy id .", api.ErrName)
}

// P5.1: a name that no let gives a number, at each place of a value by itself, and a name that two lets do, used or not.
func TestParseErrName(t *testing.T) {
	for _, s := range []string{
		policyText("dst=x"), policyText("dst:=x"), policyText("@0=x"), policyText("!(id + dst=x)"), policyText("id ; (id ; dst=x)"),
		ruleText("on sw=x & pt=1 => @0:=1"), ruleText("on sw=1 & pt=1 & @0=x => @0:=1"), ruleText("on sw=1 & pt=1 => @0:=x"), ruleText("on sw=1 & pt=1 => @0:=1 & @1:=x"),
		"init 0 . let x = 0 . let x = 0 . policy id .", "init 0 . let x = 1 . let y = 2 . let x = 3 . policy dst=y .",
		"init 0 . let X = 0 . policy dst=x .", "init 0 . let x = 0 . policy dst=X .", "init 0 . let x1 = 0 . policy dst=x .",
	} {
		wantError(t, s, api.ErrName)
	}
	wantProgram(t, "init 0 . let x = 1 . let y = 1 . let X = 1 . policy id .", bare(identity()))
	wantProgram(t, "init 0 . let x = 0 . policy dst=x .", bare(test(3, 0)))
}

// P5.1: what is no program's text.
func TestParseErrSyntax(t *testing.T) {
	for _, s := range []string{
		"", "init", ".", "id", "init 0", "init 0 .", "init . policy id .", "init 0 0 policy id .", "init 0 . . policy id .", "Init 0 . policy id .",
		"init 0 . init 0 . policy id .", "init 0 . policy id . policy id .", "policy id . init 0 .", "policy id .", "init 0 . id .", "init 0 , policy id .",
		"init 0 . policy id .. ", "init 0 . policy id . on .", "init 0 . policy id . on sw=1 & pt=1 => @0:=1", "init 0 . policy id . .", "init 0 . policy id . 0",
		"init 0 . on sw=1 & pt=1 => @0:=1 . policy id .", "init 0 . policy id . switch 1 .", "init -1 . policy id .", "init (0) . policy id .", "init 0 ; policy id .",
	} {
		wantError(t, s, api.ErrSyntax)
	}
	for _, s := range []string{
		"", "+", ";", "!", "()", "(", ")", "(id", "id)", "(id))", "((id)", ")id(", "id id", "id + ", "+ id", "id ;", "; id", "id ; + id", "id + ; id", "id ++ id", "id !", "id ! id", "(id) (id)",
		"!+id", "(+id)", "(id+)", "!()", "id drop", "dst", "dst 1", "dst=", "dst:=", "=1", "dst==1", "dst=1=1", "dst=1 2", "dst=-1", "dst=(1)", "(dst)=1", "1", "1=dst", "x", "x=1", "0=1",
		"@", "@0", "@0=", "@=1", "@@0=1", "@0:=1", "@0==1", "@(0)=1", "@dst=1", "@id=1", "0=0", "id & id", "dst=1 & pt=1", "id => id", "id - id", "id : id", "not id", "switch", "host=1", "link", "policy", "on", "let", "init",
	} {
		wantError(t, policyText(s), api.ErrSyntax)
	}
	for _, s := range []string{
		"on", "on => @0:=1", "on sw=1 & pt=1", "on sw=1 & pt=1 =>", "on sw=1 & pt=1 => .", "on sw=1 pt=1 => @0:=1", "on sw=1 & & pt=1 => @0:=1", "on & sw=1 & pt=1 => @0:=1", "on sw=1 & pt=1 & => @0:=1",
		"on sw=1 & pt=1 => @0:=1 &", "on sw=1 & pt=1 => & @0:=1", "on sw=1 & pt=1 => @0:=1 @1:=1", "on sw=1 & pt=1 => @0=1", "on sw=1 & pt=1 => 0:=1", "on sw=1 & pt=1 => pt:=1", "on sw=1 & pt=1 => pt=1",
		"on sw:=1 & pt=1 => @0:=1", "on sw=1 & pt=1 & @0:=1 => @0:=1", "on sw=1 ; pt=1 => @0:=1", "on (sw=1 & pt=1) => @0:=1", "on !sw=1 & pt=1 => @0:=1", "on id => @0:=1", "on x=1 & sw=1 & pt=1 => @0:=1",
		"on sw=1 & pt=1 => @0:=1 => @0:=2", "on sw=1 & pt=1 = @0:=1", "on sw=1 & pt=1 => drop", "sw=1 & pt=1 => @0:=1", "on on sw=1 & pt=1 => @0:=1", "on sw & pt => @0:=1", "on 0=1 & pt=1 => @0:=1",
	} {
		wantError(t, ruleText(s), api.ErrSyntax)
	}
}

// P5.1: a rule that asks, or makes, two things of one field or part, be they the same or not, beside each other or not; but it may ask and make of one part, and rules are nothing to each other.
func TestParseDoubled(t *testing.T) {
	for _, s := range []string{
		"on sw=1 & pt=1 & sw=2 => @0:=1", "on sw=1 & pt=1 & sw=1 => @0:=1", "on sw=1 & sw=1 & pt=1 => @0:=1", "on pt=1 & sw=1 & pt=3 => @0:=1", "on sw=1 & pt=1 & opt=1 & dst=1 & opt=1 => @0:=1",
		"on sw=1 & pt=1 & @0=1 & @0=2 => @0:=1", "on @1=1 & sw=1 & @0=1 & pt=1 & @1=1 => @0:=1", "on sw=1 & pt=1 => @0:=1 & @0:=2", "on sw=1 & pt=1 => @0:=1 & @0:=1", "on sw=1 & pt=1 => @1:=1 & @0:=2 & @1:=3",
		"on sw=1 & pt=1 & @60000=1 & @60000=1 => @0:=1", "on sw=1 & pt=1 => @60000:=1 & @60000:=1",
		"on sw=1 & pt=1 => @0:=1 . on sw=1 & pt=1 & pt=2 => @0:=1", "on sw=1 & pt=1 & pt=2 => @0:=1 . on sw=1 & pt=1 => @0:=1",
	} {
		wantError(t, ruleText(s), api.ErrForm)
		// Check would answer ErrLong: that it comes behind shows who found it.
		wantError(t, "init 0 0 0 0 0 . policy id . "+s+" .", api.ErrForm)
	}
	wantProgram(t, ruleText("on sw=1 & pt=1 & @0=1 => @0:=1 . on sw=1 & pt=1 & @0=1 => @0:=1"), api.Program{Init: numbers(0, 0), Pol: identity(), Rules: rules(
		api.Rule{When: pairs(pair(0, 1), pair(1, 1)), Guard: pairs(pair(0, 1)), Then: pairs(pair(0, 1))},
		api.Rule{When: pairs(pair(0, 1), pair(1, 1)), Guard: pairs(pair(0, 1)), Then: pairs(pair(0, 1))})})
}

// P5.1: of several errors the one that comes first in the chapter, wherever in the text they are.
func TestParseFirstError(t *testing.T) {
	const (
		token   = 0
		word    = 1
		name    = 2
		doubled = 3
		long    = 4
		form    = 5
	)
	// Each fault, as a statement that may stand among the rules.
	faults := []string{
		token:   "on sw=99999 & pt=1 => @0:=1 .",
		word:    "on id .",
		name:    "on sw=nobody & pt=1 => @0:=1 .",
		doubled: "on sw=1 & pt=1 & @0=1 & @0=1 => @0:=1 .",
		long:    repeated("on sw=1 & pt=1 => @0:=1 . ", 24),
		form:    "on sw=1 => @0:=1 .",
	}
	errors := []api.Errno{token: api.ErrLong, word: api.ErrSyntax, name: api.ErrName, doubled: api.ErrForm, long: api.ErrLong, form: api.ErrForm}
	const head = "init 0 . policy id . on sw=1 & pt=1 => @0:=1 . "
	for a := range faults {
		wantError(t, head+faults[a], errors[a])
		for b := range faults {
			wantError(t, head+faults[a]+" "+faults[b], errors[min(a, b)])
			for c := range faults {
				wantError(t, head+faults[a]+" "+faults[b]+" "+faults[c], errors[min(a, b, c)])
			}
		}
	}
	wantError(t, "init 0 . let x = 1 . let x = 1 . policy id", api.ErrSyntax)
	wantError(t, "init 0 . policy dst=x", api.ErrSyntax)
	wantError(t, "init 0 . policy dst=x . on sw=1 & sw=1 => @9:=1 .", api.ErrName)
	wantError(t, "init 0 0 0 0 0 . policy sw:=1 .", api.ErrLong)
	wantError(t, "init 0 0 0 0 0 . policy !pt:=y .", api.ErrName)
}

// P5.1: the tokens' error, of what isn't a program's text beside, too; a text of 4000 bytes is read.
func TestParseTokens(t *testing.T) {
	for s, want := range map[string]api.Errno{
		"$": api.ErrSyntax, "init 0 . policy dst=65536 .": api.ErrLong, "65536": api.ErrLong, "init 0 . policy dst=1x .": api.ErrSyntax, "1x 65536": api.ErrSyntax, "65536 1x": api.ErrLong,
		"init 0 . policy id . \xff": api.ErrSyntax, "\xff": api.ErrSyntax, repeated("a", 21): api.ErrLong, repeated(" ", 4001): api.ErrLong, "init 65536 . policy id": api.ErrLong, "init 0 . policy id . #\xff": api.ErrSyntax,
	} {
		wantError(t, s, want)
	}
	s := "init 0 . # remark . policy drop .\n\tpolicy\r\n id . "
	for _, gap := range []string{repeated(" ", 4000-len(s)), "#" + repeated("x", 3999-len(s))} {
		wantProgram(t, s+gap, bare(identity()))
		wantError(t, s+gap+" ", api.ErrLong)
	}
	deep := repeated("(", 1991)
	wantError(t, "init 0 . policy "+deep, api.ErrSyntax)
	wantError(t, "init 0 . policy "+repeated("!", 3980)+"id .", api.ErrLong)
	wantError(t, "init 0 . policy "+repeated("!", 3980)+"x .", api.ErrSyntax)
	wantError(t, "init 0 . policy "+repeated("(", 3900), api.ErrSyntax)
	wantError(t, "init 0 . policy "+repeated("!(id;", 600)+"id"+repeated(")", 600)+" .", api.ErrLong)
	wantError(t, "init 0 . policy "+repeated("!(id;", 600)+"id"+repeated(")", 601)+" .", api.ErrSyntax)
}

// P5.1: limits, as texts say them.
func TestParseLimits(t *testing.T) {
	for n := 1; n <= 30; n++ {
		s := "init" + repeated(" 7", n) + " . policy id ."
		if n <= 4 {
			wantProgram(t, s, api.Program{Init: slices.Repeat(numbers(7), n), Pol: identity()})
		} else {
			wantError(t, s, api.ErrLong)
		}
		if n <= 20 {
			wantProgram(t, policyText(repeated("!", n-1)+"id"), bare(chain(n)))
		} else {
			wantError(t, policyText(repeated("!", n-1)+"id"), api.ErrLong)
		}
		s = policyText("id") + repeated("on sw=1&pt=1=>@0:=1.", n)
		if n <= 24 {
			wantProgram(t, s, api.Program{Init: numbers(0), Pol: identity(), Rules: slices.Repeat(rules(api.Rule{When: pairs(pair(0, 1), pair(1, 1)), Then: pairs(pair(0, 1))}), n)})
		} else {
			wantError(t, s, api.ErrLong)
		}
	}
	wantProgram(t, policyText("id"+repeated("+id", 298)), bare(sum(slices.Repeat([]api.Pol{identity()}, 299)...)))
	wantError(t, policyText("id"+repeated("+id", 299)), api.ErrLong)
	for parts := 1; parts <= 4; parts++ {
		head := "init" + repeated(" 0", parts) + " . policy "
		for part := range 7 {
			want := api.OK
			if part >= parts {
				want = api.ErrForm
			}
			for _, s := range []string{
				fmt.Sprintf("@%d=1 .", part), fmt.Sprintf("id + !(drop ; @%d=1) .", part),
				fmt.Sprintf("id . on sw=1 & pt=1 & @%d=1 => @0:=1 .", part), fmt.Sprintf("id . on sw=1 & pt=1 => @%d:=1 .", part),
			} {
				if e := wantAsPlainly(t, head+s); e != want {
					t.Errorf("%q: %v, want %v", head+s, e, want)
				}
			}
		}
	}
}

// P5.1: every policy of a few tokens, and of a few atoms and signs, held against the model.
func TestParseShortPolicies(t *testing.T) {
	tried := map[api.Errno]int{}
	var try func(words []string, s string, left int)
	try = func(words []string, s string, left int) {
		tried[wantAsPlainly(t, "init 0 0 . let x = 9 . policy"+s+" .")]++
		if left == 0 {
			return
		}
		for _, w := range words {
			try(words, s+" "+w, left-1)
		}
	}
	tokens := []string{"id", "dst", "=", ":=", "1", "x", "+", ";", "!", "(", ")", "@"}
	for _, head := range []string{"", " (", " id ; dst", " @", " ! dst ="} {
		try(tokens, head, 3)
	}
	try([]string{"dst=1", "pt:=x", "+", ";", "!", "(", ")"}, "", 5)
	try([]string{"@1=0", "+", ";", "!", "(", ")"}, " ( dst=1 +", 5)
	for _, e := range []api.Errno{api.OK, api.ErrForm, api.ErrSyntax} {
		if tried[e] < 20 {
			t.Errorf("error %v was met %d times", e, tried[e])
		}
	}
}

// P5.1: whole programs with any one token gone, said twice, changed for any other one, or with any other one ahead of it, or two neighbours changed round: held against the model.
func TestParseOneTokenOff(t *testing.T) {
	words := append([]string{"x", "y", "0", "1", "5", "(", ")", ";", "+", "!", "=", "@", ".", "&", ":", "-", ":=", "=>"}, reserved...)
	tried := map[api.Errno]int{}
	for _, s := range []string{
		"init 0 1 . let x = 2 . let y = 3 . policy ( dst = x + ! ( @ 1 = 0 ; id ) ) ; pt := 1 . on sw = 1 & pt = x & @ 0 = 1 => @ 0 := 1 & @ 1 := y .",
		"init 0 . policy id . on pt = 1 & sw = 1 => @ 0 := 5 . on pt = 1 & sw = 1 & @ 0 = 5 => @ 0 := 1 .",
		"init 0 . policy ! ! drop .",
	} {
		l := strings.Fields(s)
		try := func(l []string) { tried[wantAsPlainly(t, strings.Join(l, " "))]++ }
		try(l)
		for i := range l {
			try(slices.Delete(slices.Clone(l), i, i+1))
			try(slices.Insert(slices.Clone(l), i, l[i]))
			try(l[:i])
			try(l[i:])
			if i > 0 {
				turned := slices.Clone(l)
				turned[i], turned[i-1] = turned[i-1], turned[i]
				try(turned)
			}
			for _, w := range words {
				changed := slices.Clone(l)
				changed[i] = w
				try(changed)
				try(slices.Insert(slices.Clone(l), i, w))
			}
		}
	}
	for _, e := range []api.Errno{api.OK, api.ErrSyntax, api.ErrName, api.ErrForm} {
		if tried[e] < 10 {
			t.Errorf("error %v was met %d times", e, tried[e])
		}
	}
}

// randomPolicyText answers a policy's text, nearly right.
func randomPolicyText(r *rand.Rand, deep int) []string {
	value := func() string { return []string{"x", "y", "z", "0", "1", "007", "65535"}[r.Intn(7)] }
	wrapped := func(l []string) []string { return append(append([]string{"("}, l...), ")") }
	if deep == 0 || r.Intn(4) == 0 {
		switch r.Intn(8) {
		case 0:
			return []string{"drop"}
		case 1, 2:
			return []string{fieldNames[r.Intn(8)], ":=", value()}
		case 3, 4:
			return []string{fieldNames[r.Intn(8)], "=", value()}
		case 5:
			return []string{"@", strconv.Itoa(r.Intn(3)), "=", value()}
		}
		return []string{"id"}
	}
	switch r.Intn(5) {
	case 0:
		l := randomPolicyText(r, deep-1)
		if r.Intn(2) == 0 {
			l = wrapped(l)
		}
		return append([]string{"!"}, l...)
	case 1:
		return wrapped(randomPolicyText(r, deep-1))
	}
	var l []string
	sign := []string{"+", ";"}[r.Intn(2)]
	for i := range 1 + r.Intn(4) {
		if i > 0 {
			l = append(l, sign)
		}
		kid := randomPolicyText(r, deep-1)
		if r.Intn(2) == 0 {
			kid = wrapped(kid)
		}
		l = append(l, kid...)
	}
	return l
}

// randomProgramText answers the tokens of a program's text, nearly right.
func randomProgramText(r *rand.Rand) []string {
	l := append([]string{"init"}, slices.Repeat([]string{"3"}, 1+r.Intn(4)+r.Intn(10)/9)...)
	l = append(l, ".")
	for _, name := range []string{"x", "y", "z"} {
		if r.Intn(12) > 0 {
			l = append(l, "let", name, "=", strconv.Itoa(r.Intn(3)), ".")
		}
	}
	l = append(append(append(l, "policy"), randomPolicyText(r, r.Intn(6))...), ".")
	for range r.Intn(4) {
		l = append(l, "on")
		for i, f := range r.Perm(8) {
			if f < 2 || r.Intn(3) == 0 {
				l = append(l, fieldNames[f], "=", strconv.Itoa(i), "&")
			}
		}
		if r.Intn(3) == 0 {
			l = append(l, "@", strconv.Itoa(r.Intn(3)), "=", "x", "&")
		}
		l = append(l[:len(l)-1], "=>")
		for range 1 + r.Intn(2) {
			l = append(l, "@", strconv.Itoa(r.Intn(3)), ":=", "y", "&")
		}
		l[len(l)-1] = "."
	}
	return l
}

// P5.1: programs at random, with no, one or two tokens off, with and without blanks and remarks: held against the model.
func TestParseRandom(t *testing.T) {
	r := rand.New(rand.NewSource(55))
	tried := map[api.Errno]int{}
	for range 20000 {
		l := randomProgramText(r)
		for range max(0, r.Intn(5)-2) {
			i, j := r.Intn(len(l)), r.Intn(len(l))
			switch r.Intn(4) {
			case 0:
				l[i] = l[j]
			case 1:
				l[i], l[j] = l[j], l[i]
			case 2:
				l = slices.Insert(l, i, l[j])
			case 3:
				l = slices.Delete(l, i, i+1)
			}
		}
		gap := []string{" ", "\n", "\t\r\n ", " # . ) & id\n"}[r.Intn(4)]
		tried[wantAsPlainly(t, strings.Join(l, gap))]++
	}
	for _, e := range []api.Errno{api.OK, api.ErrLong, api.ErrSyntax, api.ErrName, api.ErrForm} {
		if tried[e] < 200 {
			t.Errorf("error %v was met %d times", e, tried[e])
		}
	}
}

// R4: an answer is the caller's own: nothing of it is that of another answer, and none of its lists is another one's memory, not even behind its end.
func TestParseMemory(t *testing.T) {
	const s = "init 0 1 . let x = 2 . policy (dst=x + !(@1=0 ; id ; drop)) ; pt:=1 ; (id + id + id) . on opt=1 & sw=1 & pt=x & @1=1 & @0=1 => @1:=1 & @0:=2 . on sw=1 & pt=x & @1=1 & @0=1 => @1:=1 & @0:=2 ."
	want, e := programOf(s)
	if e != api.OK {
		t.Fatal(e)
	}
	p, _ := Parse(s)
	q, _ := Parse(s)
	spoil(&p)
	if !sameProgram(q, want) {
		t.Error("an answer hangs together with another one")
	}
	lists := 0
	for i := 0; ; i++ {
		q, _ = Parse(s)
		lists = 0
		if !grow(&q, i, &lists) {
			break
		}
		if !sameProgram(q, want) {
			t.Errorf("list %d runs into another one", i)
		}
	}
	if lists != 2+5+6 {
		t.Errorf("%d lists were tried", lists)
	}
}

func spoil(p *api.Program) {
	for i := range p.Init {
		p.Init[i]++
	}
	spoilPol(&p.Pol)
	for i := range p.Rules {
		for _, l := range [][]api.Pair{p.Rules[i].When, p.Rules[i].Guard, p.Rules[i].Then} {
			for j := range l {
				l[j] = pair(-1, 99)
			}
		}
	}
}

func spoilPol(p *api.Pol) {
	for i := range p.Kids {
		spoilPol(&p.Kids[i])
	}
	*p = api.Pol{Op: -1}
}

// grow writes behind the end of the list of p that is the place-th one; false, if there are no so many.
func grow(p *api.Program, place int, seen *int) bool {
	found := overrun(p.Init, place, seen) || overrun(p.Rules, place, seen) || growPol(p.Pol, place, seen)
	for _, r := range p.Rules {
		found = found || overrun(r.When, place, seen) || overrun(r.Guard, place, seen) || overrun(r.Then, place, seen)
	}
	return found
}

func growPol(p api.Pol, place int, seen *int) bool {
	if len(p.Kids) == 0 {
		return false
	}
	if overrun(p.Kids, place, seen) {
		return true
	}
	for _, k := range p.Kids {
		if growPol(k, place, seen) {
			return true
		}
	}
	return false
}

func overrun[T any](l []T, place int, seen *int) bool {
	*seen++
	if *seen-1 != place {
		return false
	}
	behind := l[len(l):cap(l)]
	for i := range behind {
		behind[i] = *new(T)
	}
	return true
}

// P5.1: any bytes: held against the model.
func FuzzParse(f *testing.F) {
	for _, s := range []string{
		"", "init 0 . policy @0=0 ; dst=2 ; pt:=1 . on sw=1 & pt=2 => @0:=1 .",
		"init 0 1 . let x = 2 . policy (dst=x + !(@1=0 ; id)) ; pt:=1 . on sw=1 & pt=x & @0=1 => @0:=1 & @1:=x .",
		"init 0 0 0 0 0 . let sw = 1 . policy !!pt:=1 . # no\n", "init 9 . policy ((id)) + drop .",
	} {
		f.Add(s)
	}
	f.Fuzz(func(t *testing.T, s string) {
		wantAsPlainly(t, s)
	})
}
