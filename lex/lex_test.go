package lex

import (
	"fmt"
	"math/big"
	"math/rand"
	"regexp"
	"slices"
	"strings"
	"testing"
	"unicode"
	"unicode/utf8"
	"unsafe"

	"pointsman/api"
)

var (
	gapShape    = regexp.MustCompile(`^(?:[\x20\x09\x0a\x0d]|#[^\x0a]*)+`)
	wordShape   = regexp.MustCompile(`^\p{L}[\p{L}0-9_]*`)
	numberShape = regexp.MustCompile(`^[0-9]+`)
	runOnShape  = regexp.MustCompile(`^[0-9]+[\p{L}_]`)
	signShape   = regexp.MustCompile(`^(?::=|=>|[();+!=@.&:-])`)
)

func w(s string) api.Token { return api.Token{Kind: api.Word, S: s} }
func n(k uint16) api.Token { return api.Token{Kind: api.Num, N: k} }
func g(s string) api.Token { return api.Token{Kind: api.Sign, S: s} }
func list(l ...api.Token) []api.Token {
	return append(l, api.Token{})
}

// tokensOf reads by the chapter's words in another way than Tokens.
func tokensOf(s string) ([]api.Token, api.Errno) {
	if len(s) > 4000 {
		return nil, api.ErrLong
	}
	if string([]rune(s)) != s {
		return nil, api.ErrSyntax
	}
	var l []api.Token
	for {
		s = s[len(gapShape.FindString(s)):]
		if s == "" {
			return list(l...), api.OK
		}
		found := ""
		if found = wordShape.FindString(s); found != "" {
			if len([]rune(found)) > 20 {
				return nil, api.ErrLong
			}
			l = append(l, w(found))
		} else if found = numberShape.FindString(s); found != "" {
			k, _ := new(big.Int).SetString(found, 10)
			if runOnShape.MatchString(s) {
				return nil, api.ErrSyntax
			}
			if k.Cmp(big.NewInt(65535)) > 0 {
				return nil, api.ErrLong
			}
			l = append(l, n(uint16(k.Uint64())))
		} else if found = signShape.FindString(s); found != "" {
			l = append(l, g(found))
		} else {
			return nil, api.ErrSyntax
		}
		s = s[len(found):]
	}
}

func wantTokens(t *testing.T, s string, want ...api.Token) {
	t.Helper()
	l, e := Tokens(s)
	if e != api.OK || !slices.Equal(l, list(want...)) {
		t.Errorf("Tokens(%q) = %v %v, want %v and an End", s, l, e, want)
	}
}

func wantError(t *testing.T, s string, want api.Errno) {
	t.Helper()
	if l, e := Tokens(s); e != want || len(l) != 0 {
		t.Errorf("Tokens(%q) = %v %v, want %v alone", s, l, e, want)
	}
}

// wantAsPlainly holds Tokens against tokensOf, and the Join of them against the tokens; it tells the error.
func wantAsPlainly(t *testing.T, s string) api.Errno {
	t.Helper()
	want, e := tokensOf(s)
	if e != api.OK {
		wantError(t, s, e)
		return e
	}
	wantTokens(t, s, want[:len(want)-1]...)
	if j := Join(want); len(j) <= 4000 {
		wantTokens(t, j, want[:len(want)-1]...)
	} else {
		wantError(t, j, api.ErrLong)
	}
	return api.OK
}

// P4.1: words, numbers and signs, by hand.
func TestTokensByHand(t *testing.T) {
	wantTokens(t, "")
	wantTokens(t, "dst=7;pt:=2", w("dst"), g("="), n(7), g(";"), w("pt"), g(":="), n(2))
	wantTokens(t, "init 0 . policy @0=0 . on sw=1 & pt=2 => @0:=1 .",
		w("init"), n(0), g("."), w("policy"), g("@"), n(0), g("="), n(0), g("."), w("on"), w("sw"), g("="), n(1), g("&"), w("pt"), g("="), n(2), g("=>"), g("@"), n(0), g(":="), n(1), g("."))
	wantTokens(t, "link 1:2 - 2:2 .", w("link"), n(1), g(":"), n(2), g("-"), n(2), g(":"), n(2), g("."))
	wantTokens(t, "!(a+b)", g("!"), g("("), w("a"), g("+"), w("b"), g(")"))
	wantTokens(t, "-1", g("-"), n(1))
	wantTokens(t, "1.5", n(1), g("."), n(5))
	wantTokens(t, "a", w("a"))
	wantTokens(t, "A", w("A"))
	wantTokens(t, "aA_9_", w("aA_9_"))
	wantTokens(t, "a__", w("a__"))
	wantTokens(t, "a b", w("a"), w("b"))
	wantTokens(t, "a1", w("a1"))
	wantTokens(t, "a 1", w("a"), n(1))
	wantTokens(t, "1 a", n(1), w("a"))
	wantTokens(t, "1 2", n(1), n(2))
	wantTokens(t, "x0x10", w("x0x10"))
}

// P4.1: each sign alone, behind each other one, and between a word and a number: the longest first.
func TestTokensSigns(t *testing.T) {
	signs := []string{"(", ")", ";", "+", "!", "=", "@", ".", "&", ":", "-", ":=", "=>"}
	for _, a := range signs {
		wantTokens(t, a, g(a))
		wantTokens(t, "x"+a+"1", w("x"), g(a), n(1))
		wantTokens(t, "1"+a+"x", n(1), g(a), w("x"))
		for _, b := range signs {
			wantTokens(t, a+" "+b, g(a), g(b))
			switch {
			case a == ":" && b == "=":
				wantTokens(t, a+b, g(":="))
			case a == ":" && b == "=>":
				// The longest that begins there is :=, and > is left.
				wantError(t, a+b, api.ErrSyntax)
			default:
				wantTokens(t, a+b, g(a), g(b))
			}
		}
	}
	wantTokens(t, ":==", g(":="), g("="))
	wantTokens(t, "::=", g(":"), g(":="))
	wantTokens(t, "==>", g("="), g("=>"))
	wantTokens(t, ":==>", g(":="), g("=>"))
	wantTokens(t, ": =", g(":"), g("="))
	wantTokens(t, ":#\n=", g(":"), g("="))
	wantError(t, "= >", api.ErrSyntax)
	wantError(t, "=>>", api.ErrSyntax)
	wantError(t, ">", api.ErrSyntax)
	wantError(t, ">=", api.ErrSyntax)
	wantError(t, "=<", api.ErrSyntax)
}

// P4.1: blanks and remarks stand between tokens, and are none.
func TestTokensBlanksRemarks(t *testing.T) {
	for _, gap := range []string{" ", "\t", "\n", "\r", "  ", " \t\r\n", "#\n", "# x\n", "#x$\u00a0\x00λ\ufffd\n", "##\n", "#\n#\n", "#\r\n", "#a\rb\n", " # \n ", "#1a\n"} {
		wantTokens(t, gap)
		wantTokens(t, gap+"a", w("a"))
		wantTokens(t, "a"+gap, w("a"))
		wantTokens(t, "a"+gap+"b", w("a"), w("b"))
		wantTokens(t, "1"+gap+"2", n(1), n(2))
		wantTokens(t, "1"+gap+"a", n(1), w("a"))
		wantTokens(t, ":"+gap+"=", g(":"), g("="))
		wantTokens(t, "="+gap+"1", g("="), n(1))
	}
	wantTokens(t, "#")
	wantTokens(t, "# a")
	wantTokens(t, "a#b", w("a"))
	wantTokens(t, "a#b\rc", w("a"))
	wantTokens(t, "a#b\u0085c\u2028d\u2029e\vf", w("a"))
	wantTokens(t, "1#a\n2", n(1), n(2))
	wantTokens(t, "#"+strings.Repeat("a", 3999))
	wantTokens(t, "#"+strings.Repeat("9", 30)+"a\n1", n(1))
	for _, other := range []string{"\v", "\f", "\x00", "\u0085", "\u00a0", "\u2003", "\u2028", "\u3000", "\ufeff", "\u200b", "\ufffd", "\x7f", "\x1b"} {
		wantError(t, other, api.ErrSyntax)
		wantError(t, "a"+other+"b", api.ErrSyntax)
		wantError(t, "1"+other, api.ErrSyntax)
		wantTokens(t, "#"+other+"\n")
	}
}

// P4.1: words at and past 20 code points, of letters of one to four bytes.
func TestTokensLongWords(t *testing.T) {
	for _, letter := range []string{"a", "Z", "é", "λ", "日", "𝔸", "𐐷"} {
		for _, rest := range []string{letter, "_", "0", "9", "b", "ß"} {
			for size := 1; size < 45; size++ {
				s := letter + strings.Repeat(rest, size-1)
				for _, text := range []string{s, " " + s + " ", "#\n" + s + "#"} {
					if size <= 20 {
						wantTokens(t, text, w(s))
					} else {
						wantError(t, text, api.ErrLong)
					}
				}
				if size == 20 {
					wantTokens(t, s+"="+s, w(s), g("="), w(s))
					wantTokens(t, s+" 1", w(s), n(1))
				}
			}
		}
	}
	wantError(t, strings.Repeat("a", 4000), api.ErrLong)
	wantTokens(t, strings.TrimSuffix(strings.Repeat(strings.Repeat("a", 20)+"\n", 190), "\n"), slices.Repeat([]api.Token{w(strings.Repeat("a", 20))}, 190)...)
}

// P4.1: every number, those past 65535, and with noughts ahead.
func TestTokensNumbers(t *testing.T) {
	for k := range 65536 {
		wantTokens(t, fmt.Sprint(k), n(uint16(k)))
	}
	for k := range 70000 - 65536 {
		wantError(t, fmt.Sprint(65536+k), api.ErrLong)
	}
	for _, s := range []string{"131072", "655350", "655360", "4294967295", "4294967296", "4294967297", "18446744073709551615", "18446744073709551616", "18446744073709551617", "99999999999999999999", strings.Repeat("9", 4000), "1" + strings.Repeat("0", 3999)} {
		wantError(t, s, api.ErrLong)
		if len(s) < 4000 {
			wantError(t, "0"+s, api.ErrLong)
		}
	}
	for _, noughts := range []int{1, 2, 5, 20, 100, 3995} {
		ahead := strings.Repeat("0", noughts)
		wantTokens(t, ahead, n(0))
		wantTokens(t, ahead+"1", n(1))
		wantTokens(t, ahead+"65535", n(65535))
		wantError(t, ahead+"65536", api.ErrLong)
	}
}

// P4.1: letters or _ right behind a number: ErrSyntax, though it be too great as well.
func TestTokensNumbersRunOn(t *testing.T) {
	for _, digits := range []string{"0", "1", "00", "42", "65535", "65536", "99999", "99999999999999999999999"} {
		for _, behind := range []string{"a", "Z", "_", "__", "é", "λ", "日", "𝔸", "e5", "x", "_1", "a=1", strings.Repeat("a", 30)} {
			wantError(t, digits+behind, api.ErrSyntax)
			wantError(t, "x="+digits+behind+";", api.ErrSyntax)
		}
	}
	// What is behind it is no token, but neither a letter: so the number is met first.
	wantError(t, "65536$", api.ErrLong)
	wantError(t, "65536٣", api.ErrLong)
	wantError(t, "65536\u0301", api.ErrLong)
	wantError(t, "65535٣", api.ErrSyntax)
	wantError(t, "65536 a", api.ErrLong)
	wantError(t, "65536#a", api.ErrLong)
}

// P4.1: every code point: alone, behind a letter, behind a digit, in a remark.
func TestTokensEveryCodePoint(t *testing.T) {
	letters := 0
	for r := rune(0); r <= unicode.MaxRune; r++ {
		if !utf8.ValidRune(r) {
			continue
		}
		s := string(r)
		wantTokens(t, "#"+s+"\n1", n(1))
		if unicode.In(r, unicode.Lu, unicode.Ll, unicode.Lt, unicode.Lm, unicode.Lo) {
			letters++
			wantTokens(t, s, w(s))
			wantTokens(t, "a"+s+"0"+s, w("a"+s+"0"+s))
			wantError(t, "1"+s, api.ErrSyntax)
			continue
		}
		if r < 128 {
			wantAsPlainly(t, s)
			wantAsPlainly(t, "a"+s)
			wantAsPlainly(t, "1"+s)
			continue
		}
		wantError(t, s, api.ErrSyntax)
		wantError(t, "a"+s, api.ErrSyntax)
		wantError(t, "1"+s, api.ErrSyntax)
	}
	if letters < 100000 {
		t.Errorf("%d letters: too few", letters)
	}
}

// P4.1: of the code points of one byte, by hand: what begins a token, and what belongs to a word.
func TestTokensEveryByte(t *testing.T) {
	const letters = "abcdefghijklmnopqrstuvwxyzABCDEFGHIJKLMNOPQRSTUVWXYZ"
	for c := range 128 {
		s := string(rune(c))
		switch {
		case strings.Contains(letters, s):
			wantTokens(t, s, w(s))
			wantTokens(t, "q"+s, w("q"+s))
			wantError(t, "1"+s, api.ErrSyntax)
		case strings.Contains("0123456789", s):
			wantTokens(t, s, n(uint16(c-48)))
			wantTokens(t, "q"+s, w("q"+s))
			wantTokens(t, "1"+s, n(uint16(10+c-48)))
		case s == "_":
			wantError(t, s, api.ErrSyntax)
			wantTokens(t, "q"+s, w("q_"))
			wantError(t, "1"+s, api.ErrSyntax)
		case strings.Contains(" \t\n\r#", s):
			wantTokens(t, s)
			wantTokens(t, "q"+s, w("q"))
			wantTokens(t, "1"+s, n(1))
		case strings.Contains("();+!=@.&:-", s):
			wantTokens(t, s, g(s))
			wantTokens(t, "q"+s, w("q"), g(s))
			wantTokens(t, "1"+s, n(1), g(s))
		default:
			wantError(t, s, api.ErrSyntax)
			wantError(t, "q"+s, api.ErrSyntax)
			wantError(t, "1"+s, api.ErrSyntax)
		}
	}
}

// P4.1: what isn't UTF-8, wherever it stands: it goes ahead of other errors, but not of the text's length.
func TestTokensNotUTF8(t *testing.T) {
	for _, bad := range []string{
		"\xff", "\x80", "\xbf", "\xc3", "\xe6\x97", "\xf0\x9d\x94", "\xc0\x80", "\xc1\xa1", "\xe0\x80\xa1", "\xed\xa0\x80", "\xed\xbf\xbf", "\xf0\x80\x80\xa1", "\xf4\x90\x80\x80", "\xf8\x88\x80\x80\x80",
	} {
		for _, text := range []string{bad, "a" + bad, bad + "a", "1" + bad, "#" + bad, "#" + bad + "\n", "a # " + bad + "\nb", "65536 " + bad, strings.Repeat("a", 21) + " " + bad, "$ " + bad, " " + bad + " "} {
			wantError(t, text, api.ErrSyntax)
		}
		wantError(t, strings.Repeat(" ", 4000-len(bad))+bad, api.ErrSyntax)
		wantError(t, strings.Repeat(" ", 4001-len(bad))+bad, api.ErrLong)
		wantError(t, bad+strings.Repeat("a", 4001-len(bad)), api.ErrLong)
	}
}

// P4.1: texts at and past 4000 bytes; bytes count there, not code points.
func TestTokensLongTexts(t *testing.T) {
	for _, fill := range []string{" ", "\n", "a ", "1 ", "=", ";", "λ ", "日\t", "#\n", "𝔸;"} {
		for size := 3990; size < 4010; size++ {
			s := strings.Repeat(fill, size/len(fill))
			s += strings.Repeat(" ", size-len(s))
			if size > 4000 {
				wantError(t, s, api.ErrLong)
			} else if e := wantAsPlainly(t, s); e != api.OK {
				t.Errorf("of %d bytes of %q: %v", size, fill, e)
			}
		}
	}
	wantTokens(t, strings.Repeat(";", 4000), slices.Repeat([]api.Token{g(";")}, 4000)...)
	wantTokens(t, "#"+strings.Repeat("λ", 1999))
	wantTokens(t, "#"+strings.Repeat("λ", 1999)+"\n")
	wantError(t, "#"+strings.Repeat("λ", 2000), api.ErrLong)
	wantError(t, strings.Repeat("$", 4000), api.ErrSyntax)
	wantError(t, strings.Repeat("$", 4001), api.ErrLong)
	wantError(t, strings.Repeat("\xff", 1000000), api.ErrLong)
}

// P4.1: the error that is met first.
func TestTokensFirstError(t *testing.T) {
	long := strings.Repeat("a", 21)
	errors := []struct {
		s string
		e api.Errno
	}{
		{"$", api.ErrSyntax}, {"_", api.ErrSyntax}, {",", api.ErrSyntax}, {"1a", api.ErrSyntax}, {"99999_", api.ErrSyntax}, {"٣", api.ErrSyntax}, {"\u00a0", api.ErrSyntax}, {">", api.ErrSyntax},
		{long, api.ErrLong}, {"65536", api.ErrLong}, {strings.Repeat("λ", 21), api.ErrLong}, {strings.Repeat("9", 50), api.ErrLong},
	}
	for _, a := range errors {
		wantError(t, a.s, a.e)
		wantError(t, "x=1;"+a.s, a.e)
		wantTokens(t, "#"+a.s)
		wantTokens(t, "#"+a.s+"\n=", g("="))
		for _, b := range errors {
			for _, gap := range []string{" ", "\n", "#\n", ";", " x ", ":="} {
				wantError(t, a.s+gap+b.s, a.e)
			}
			wantError(t, "#"+a.s+"\n"+b.s, b.e)
		}
	}
	wantError(t, long+"$", api.ErrLong)
	wantError(t, "$"+long, api.ErrSyntax)
	wantError(t, long+"\u0301", api.ErrLong)
	wantError(t, "e\u0301", api.ErrSyntax)
}

// P4.1: Join, by hand: of tokens of any kind, and as far as the first End.
func TestJoin(t *testing.T) {
	end := api.Token{}
	cases := []struct {
		l    []api.Token
		want string
	}{
		{nil, ""},
		{[]api.Token{}, ""},
		{[]api.Token{end}, ""},
		{[]api.Token{end, w("a")}, ""},
		{[]api.Token{{Kind: api.End, S: "a", N: 1}, w("b")}, ""},
		{[]api.Token{w("a")}, "a"},
		{[]api.Token{w("a"), end}, "a"},
		{[]api.Token{w("a"), end, w("b"), end}, "a"},
		{[]api.Token{w("a"), {Kind: api.End, S: "x", N: 7}, w("b")}, "a"},
		{list(w("dst"), g("="), n(7), g(";"), w("pt"), g(":="), n(2)), "dst = 7 ; pt := 2"},
		{[]api.Token{w("a"), n(0), g("="), n(65535), w("λ")}, "a 0 = 65535 λ"},
		{[]api.Token{n(1), n(2)}, "1 2"},
		{[]api.Token{{Kind: api.Num, S: "x", N: 5}}, "5"},
		{[]api.Token{{Kind: api.Word, S: "x", N: 5}, {Kind: api.Sign, S: "y", N: 6}}, "x y"},
		{[]api.Token{{Kind: 4, S: "x", N: 5}, {Kind: -1, S: "y"}, {Kind: 1 << 40, S: "z"}}, "x y z"},
		{[]api.Token{w(""), w("")}, " "},
		{[]api.Token{w(""), w("a"), w("")}, " a "},
		{[]api.Token{w(""), g(""), {Kind: 9}, end}, "  "},
		{[]api.Token{w("a b"), g("#"), w("\xff\n")}, "a b # \xff\n"},
		{[]api.Token{w(strings.Repeat("a", 5000)), n(1)}, strings.Repeat("a", 5000) + " 1"},
	}
	for _, c := range cases {
		was := slices.Clone(c.l)
		if got := Join(c.l); got != c.want {
			t.Errorf("Join(%v) = %q, want %q", c.l, got, c.want)
		}
		if !slices.Equal(c.l, was) {
			t.Errorf("Join changed %v to %v", was, c.l)
		}
	}
}

// P4.2: of texts whose Join is as long as may be, and longer.
func TestJoinTokensLong(t *testing.T) {
	for _, s := range []string{strings.Repeat(";", 2000), strings.Repeat("=", 1999) + ":=", strings.Repeat(";", 2001), strings.Repeat("a=", 1000), strings.Repeat("a=", 1000) + "b", strings.Repeat("日=", 700)} {
		if e := wantAsPlainly(t, s); e != api.OK {
			t.Errorf("%q: %v", s, e)
		}
	}
	l, _ := Tokens(strings.Repeat(";", 2001))
	if j := Join(l); len(j) != 4001 {
		t.Errorf("the Join of 2001 signs has %d bytes", len(j))
	}
}

// randomText answers pieces of tokens, of what is between them, and of what is neither.
func randomText(r *rand.Rand) string {
	right := []string{"a", "dst", "λ", "日本", "x_1", "0", "7", "65535", "007", "(", ")", ";", "+", "!", "=", "@", ".", "&", ":", "-", ":=", "=>", " ", " ", "\n", "\t", "\r", "#x\n", "# \"\n"}
	wrong := []string{"$", "_", "9a", "65536", "99999", ">", "\u00a0", "é\u0301", "٣", "\xff", "\xe6\x97", "\x00", "aaaaaaaaaaaaaaaaaaaaa", "ééééééééééé"}
	var b strings.Builder
	for range r.Intn(14) {
		if r.Intn(14) == 0 {
			b.WriteString(wrong[r.Intn(len(wrong))])
		} else {
			b.WriteString(right[r.Intn(len(right))])
		}
		if r.Intn(3) == 0 {
			b.WriteByte(' ')
		}
	}
	return b.String()
}

// P4.1, P4.2: random texts, right and nearly right ones.
func TestTokensRandom(t *testing.T) {
	r := rand.New(rand.NewSource(1))
	met := map[api.Errno]int{}
	for range 100000 {
		met[wantAsPlainly(t, randomText(r))]++
	}
	for _, e := range []api.Errno{api.OK, api.ErrSyntax, api.ErrLong} {
		if met[e] < 1000 {
			t.Errorf("%d of the texts were answered with %v: too few", met[e], e)
		}
	}
}

// R4: what is answered is the caller's own: it stays as it is when the text's bytes change, and no two calls share any.
func TestMemory(t *testing.T) {
	b := []byte("dst = 7 ; pt := 2 # x")
	l, _ := Tokens(unsafe.String(&b[0], len(b)))
	for i := range b {
		b[i] = '!'
	}
	want := list(w("dst"), g("="), n(7), g(";"), w("pt"), g(":="), n(2))
	if !slices.Equal(l, want) {
		t.Errorf("Tokens keeps the text's bytes: %v", l)
	}
	m, _ := Tokens("dst=7")
	m[0] = w("other")
	wantTokens(t, "dst=7", w("dst"), g("="), n(7))

	letters := []byte("abc")
	j := Join([]api.Token{w(unsafe.String(&letters[0], len(letters)))})
	letters[0] = 'x'
	if j != "abc" {
		t.Errorf("Join keeps a token's bytes: %q", j)
	}
}

// P0, P4.1, P4.2: whatever text comes.
func FuzzTokens(f *testing.F) {
	for _, s := range []string{"", "dst=7;pt:=2", "let λ_1 = 065535 # x\n!", "1:2-3:4", "65536", "1a", "\xff", "#\xff", "aaaaaaaaaaaaaaaaaaaaa", ":=>", "日本 é", "_", "$"} {
		f.Add(s)
	}
	f.Fuzz(func(t *testing.T, s string) {
		wantAsPlainly(t, s)
		wantAsPlainly(t, strings.ToValidUTF8(s, "a"))
	})
}
