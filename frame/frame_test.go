package frame

import (
	"encoding/binary"
	"math/big"
	"math/rand"
	"slices"
	"strings"
	"testing"

	"pointsman/api"
)

const allEvents = ^api.Set(0)

// checked answers body with its check behind it, worked out apart from the package's own.
func checked(body string) string {
	sum := new(big.Int)
	for i, c := range []byte(body) {
		sum.Add(sum, big.NewInt(int64(i+1)*int64(c)))
	}
	sum.Mod(sum, big.NewInt(65521))
	return string(binary.BigEndian.AppendUint16([]byte(body), uint16(sum.Uint64())))
}

// bytesOf tells a frame's bytes in another way than Encode, to hold Encode against it.
func bytesOf(f api.Frame) string {
	b := []byte{78, 0}
	if f.Tagged {
		b[1] = 1
	}
	for _, field := range []int{api.Src, api.Dst, api.Typ, api.Svc, api.Vid, api.Opt} {
		b = binary.BigEndian.AppendUint16(b, f.P[field])
	}
	if f.Tagged {
		b = binary.BigEndian.AppendUint16(b, f.Tag)
		b = binary.BigEndian.AppendUint64(b, uint64(f.Digest))
	}
	return checked(string(b))
}

// frameOf reads by the chapter's words in another way than Decode: a frame is the bytes that are told of it, and no others.
func frameOf(s string) (api.Frame, bool) {
	var f api.Frame
	b := []byte(s)
	switch len(b) {
	case 16:
	case 26:
		f.Tagged = true
		f.Tag = binary.BigEndian.Uint16(b[14:])
		f.Digest = api.Set(binary.BigEndian.Uint64(b[16:]))
	default:
		return api.Frame{}, false
	}
	for i, field := range []int{api.Src, api.Dst, api.Typ, api.Svc, api.Vid, api.Opt} {
		f.P[field] = binary.BigEndian.Uint16(b[2+2*i:])
	}
	if bytesOf(f) != s {
		return api.Frame{}, false
	}
	return f, true
}

func randomNumber(r *rand.Rand) uint16 {
	switch r.Intn(4) {
	case 0:
		return 0
	case 1:
		return 65535
	case 2:
		return uint16(r.Intn(300))
	}
	return uint16(r.Intn(65536))
}

func randomFrame(r *rand.Rand) api.Frame {
	f := api.Frame{Tagged: r.Intn(2) == 0}
	for i := api.Src; i < api.Fields; i++ {
		f.P[i] = randomNumber(r)
	}
	if f.Tagged {
		f.Tag = randomNumber(r)
		f.Digest = api.Set(r.Uint64())
		if r.Intn(4) == 0 {
			f.Digest = 1 << r.Intn(64)
		}
	}
	return f
}

// someFrames answers the edges, each field, tag bit and event alone, and random ones.
func someFrames() []api.Frame {
	const m = 65535
	l := []api.Frame{
		{},
		{Tagged: true},
		{P: api.Packet{0, 0, 1, 2, 3, 4, 5, 6}},
		{P: api.Packet{0, 0, 1, 2, 3, 4, 5, 6}, Tagged: true, Tag: 0x0102, Digest: 0x8000000000000001},
		{P: api.Packet{0, 0, m, m, m, m, m, m}},
		{P: api.Packet{0, 0, m, m, m, m, m, m}, Tagged: true, Tag: m, Digest: allEvents},
	}
	for i := api.Src; i < api.Fields; i++ {
		for _, n := range []uint16{1, 255, 256, 65535} {
			f := api.Frame{}
			f.P[i] = n
			l = append(l, f, api.Frame{P: f.P, Tagged: true})
		}
	}
	for i := range 16 {
		l = append(l, api.Frame{Tagged: true, Tag: 1 << i})
	}
	for e := range 64 {
		l = append(l, api.Frame{Tagged: true, Digest: 1 << e}, api.Frame{Tagged: true, Digest: allEvents ^ 1<<e})
	}
	r := rand.New(rand.NewSource(1))
	for range 300 {
		l = append(l, randomFrame(r))
	}
	return l
}

func wantNone(t *testing.T, s string) {
	t.Helper()
	if f, e := Decode(s); e != api.ErrFrame || f != (api.Frame{}) {
		t.Errorf("Decode(%q) = %v %v, want ErrFrame and the zero value", s, f, e)
	}
}

func wantFrame(t *testing.T, s string, want api.Frame) {
	t.Helper()
	if f, e := Decode(s); e != api.OK || f != want {
		t.Errorf("Decode(%q) = %v %v, want %v", s, f, e, want)
	}
}

// wantAsPlainly holds Decode against frameOf, and tells whether s is a frame's bytes.
func wantAsPlainly(t *testing.T, s string) bool {
	t.Helper()
	want, ok := frameOf(s)
	if ok {
		wantFrame(t, s, want)
	} else {
		wantNone(t, s)
	}
	return ok
}

// P3.1: Encode, of bytes written out by hand.
func TestEncodeByHand(t *testing.T) {
	noughts := strings.Repeat("\x00", 12)
	cases := []struct {
		f    api.Frame
		want string
	}{
		{api.Frame{}, "N\x00" + noughts + "\x00\x4e"},
		// 78 + 2*1
		{api.Frame{Tagged: true}, "N\x01" + noughts + "\x00\x00" + "\x00\x00\x00\x00\x00\x00\x00\x00" + "\x00\x50"},
		// 78 + 4*1 + 6*2 + 8*3 + 10*4 + 12*5 + 14*6 = 302
		{api.Frame{P: api.Packet{0, 0, 1, 2, 3, 4, 5, 6}}, "N\x00\x00\x01\x00\x02\x00\x03\x00\x04\x00\x05\x00\x06\x01\x2e"},
		// 78 + 3*0x12 + 4*0x34 = 340
		{api.Frame{P: api.Packet{0, 0, 0x1234}}, "N\x00\x12\x34" + noughts[2:] + "\x01\x54"},
		// 78 + 2 + 302-78 + 15*1 + 16*2 + 17*128 + 24*1 = 2551
		{
			api.Frame{P: api.Packet{0, 0, 1, 2, 3, 4, 5, 6}, Tagged: true, Tag: 0x0102, Digest: 0x8000000000000001},
			"N\x01\x00\x01\x00\x02\x00\x03\x00\x04\x00\x05\x00\x06\x01\x02\x80\x00\x00\x00\x00\x00\x00\x01\x09\xf7",
		},
		// 78 + 2 + 255*(3+..+24) = 75815, and 75815 - 65521 = 10294
		{
			api.Frame{P: api.Packet{0, 0, 65535, 65535, 65535, 65535, 65535, 65535}, Tagged: true, Tag: 65535, Digest: allEvents},
			"N\x01" + strings.Repeat("\xff", 22) + "\x28\x36",
		},
	}
	for _, c := range cases {
		if got := Encode(c.f); got != c.want {
			t.Errorf("Encode(%v) = %q, want %q", c.f, got, c.want)
		}
		wantFrame(t, c.want, c.f)
	}
}

// P3.1: Encode. P3.2: Decode of it.
func TestEncodeDecode(t *testing.T) {
	for _, f := range someFrames() {
		s := Encode(f)
		if want := bytesOf(f); s != want {
			t.Errorf("Encode(%v) = %q, want %q", f, s, want)
		}
		size := 16
		if f.Tagged {
			size = 26
		}
		if len(s) != size {
			t.Errorf("Encode(%v) has %d bytes, want %d", f, len(s), size)
		}
		wantFrame(t, s, f)
	}
}

// P3.1: Encode tells neither sw and pt nor, of a bare one, tag and digest.
func TestEncodeLeavesOut(t *testing.T) {
	for _, f := range someFrames() {
		placed := f
		placed.P[api.Sw], placed.P[api.Pt] = 65535, 1
		if !f.Tagged {
			placed.Tag, placed.Digest = 0x0304, allEvents
		}
		if got, want := Encode(placed), bytesOf(f); got != want {
			t.Errorf("Encode(%v) = %q, want %q", placed, got, want)
		}
		wantFrame(t, Encode(placed), f)
	}
}

// P3.1: Bare and Tagged.
func TestBareTagged(t *testing.T) {
	packets := []api.Packet{
		{}, {9, 9}, {0, 1}, {1, 0}, {65535, 65535, 65535, 65535, 65535, 65535, 65535, 65535}, {1, 2, 3, 4, 5, 6, 7, 8}, {0, 0, 1}, {0, 0, 0, 0, 0, 0, 0, 1},
	}
	for _, p := range packets {
		left := api.Packet{0, 0, p[2], p[3], p[4], p[5], p[6], p[7]}
		if got := Bare(p); got != (api.Frame{P: left}) {
			t.Errorf("Bare(%v) = %v", p, got)
		}
		wantFrame(t, Encode(Bare(p)), api.Frame{P: left})
		for _, tag := range []uint16{0, 1, 256, 65535} {
			for _, digest := range []api.Set{0, 1, 1 << 63, allEvents} {
				want := api.Frame{P: left, Tagged: true, Tag: tag, Digest: digest}
				if got := Tagged(p, tag, digest); got != want {
					t.Errorf("Tagged(%v, %d, %x) = %v", p, tag, digest, got)
				}
				wantFrame(t, Encode(Tagged(p, tag, digest)), want)
			}
		}
	}
}

// P3.1: Decode, of bytes cut at either end, and with more behind or ahead.
func TestDecodeCutOrMore(t *testing.T) {
	for _, f := range someFrames() {
		s := bytesOf(f)
		for i := range len(s) {
			wantNone(t, s[:i])
			wantNone(t, s[len(s)-i:])
		}
		for _, more := range []string{"\x00", "x", "N", "\xff", s[14:], s} {
			wantNone(t, s+more)
			wantNone(t, more+s)
		}
	}
}

// P3.1: Decode, of every length but the right one, with the right check for it.
func TestDecodeWrongLength(t *testing.T) {
	wantNone(t, "")
	wantNone(t, checked(""))
	for kind, size := range []int{16, 26} {
		for _, fill := range []string{"\x00", "\x07", "\xff"} {
			for n := range 60 {
				s := checked("N" + string(rune(kind)) + strings.Repeat(fill, n))
				if got := wantAsPlainly(t, s); got != (len(s) == size) {
					t.Errorf("of %d bytes of kind %d: a frame %v", len(s), kind, got)
				}
			}
		}
	}
	wantNone(t, checked("N"))
	wantNone(t, "N")
	wantNone(t, checked("N\x00"+strings.Repeat("\x00", 1000000)))
	wantNone(t, strings.Repeat("N\x01", 1000000))
}

// P3.1: Decode, with any byte turned into any other one: the check finds each of them.
func TestDecodeTurnedByte(t *testing.T) {
	for _, f := range someFrames() {
		s := bytesOf(f)
		for i := range len(s) {
			for x := 1; x < 256; x++ {
				b := []byte(s)
				b[i] ^= byte(x)
				wantNone(t, string(b))
			}
		}
	}
}

// P3.1: Decode, with every check: one of them is right.
func TestDecodeEveryCheck(t *testing.T) {
	// 75815, of all bytes 255, less 24*243 and 23*194 is the modulus: so this one's check is 0 by going round.
	round := api.Frame{P: api.Packet{0, 0, 65535, 65535, 65535, 65535, 65535, 65535}, Tagged: true, Tag: 65535, Digest: allEvents - 243 - 194<<8}
	if s := bytesOf(round); s[24:] != "\x00\x00" {
		t.Errorf("the check of %q isn't 0", s)
	}
	frames := append(someFrames()[:6], round)
	for _, f := range frames {
		right := bytesOf(f)
		body := []byte(right[:len(right)-2])
		for c := range 65536 {
			s := string(binary.BigEndian.AppendUint16(slices.Clone(body), uint16(c)))
			if s == right {
				wantFrame(t, s, f)
			} else {
				wantNone(t, s)
			}
		}
	}
}

// P3.1: Decode, where the sum goes round the modulus: the check is what is left of it, and that alone.
func TestDecodeCheckGoesRound(t *testing.T) {
	found := 0
	full := []byte("N\x01" + strings.Repeat("\xff", 22))
	for a := range 256 {
		for b := range 256 {
			body := slices.Clone(full)
			body[23], body[22] = byte(a), byte(b)
			s := checked(string(body))
			c := binary.BigEndian.Uint16([]byte(s[24:]))
			if !wantAsPlainly(t, s) {
				t.Fatalf("%q is a frame's bytes", s)
			}
			if c < 15 {
				found++
				wantNone(t, string(binary.BigEndian.AppendUint16(slices.Clone(body), c+65521)))
			}
		}
	}
	if found == 0 {
		t.Error("no check was so low that it can be told with the modulus on it")
	}
}

// P3.1: Decode, of another first byte or another kind, with the right check.
func TestDecodeWrongHead(t *testing.T) {
	for _, f := range someFrames()[:20] {
		s := bytesOf(f)
		body := []byte(s[:len(s)-2])
		for x := range 256 {
			b := slices.Clone(body)
			b[0] = byte(x)
			if got := wantAsPlainly(t, checked(string(b))); got != (x == 'N') {
				t.Errorf("with %d ahead: a frame %v", x, got)
			}
			b = slices.Clone(body)
			b[1] = byte(x)
			if got := wantAsPlainly(t, checked(string(b))); got != (byte(x) == s[1]) {
				t.Errorf("of kind %d: a frame %v", x, got)
			}
		}
	}
}

// P3.1: Decode, with several bytes changed: where the sum stays the same, it is another frame.
func TestDecodeSeveralChanges(t *testing.T) {
	s := []byte(bytesOf(api.Frame{P: api.Packet{0, 0, 0x0200}}))
	s[2], s[5] = 0, 1
	wantFrame(t, string(s), api.Frame{P: api.Packet{0, 0, 0, 1}})

	r := rand.New(rand.NewSource(2))
	right := 0
	for range 200000 {
		b := []byte(bytesOf(randomFrame(r)))
		for range 1 + r.Intn(3) {
			i := 2 + r.Intn(len(b)-2)
			b[i] += byte(r.Intn(5)) - 2
		}
		if wantAsPlainly(t, string(b)) {
			right++
		}
	}
	if right == 0 || right == 200000 {
		t.Errorf("%d of the bytes were right: the test tries one side alone", right)
	}
}

// P0, P3.1, P3.2: whatever bytes come.
func FuzzDecode(f *testing.F) {
	for _, g := range someFrames()[:6] {
		f.Add(bytesOf(g))
		f.Add(bytesOf(g)[1:])
	}
	f.Add("")
	f.Add("N")
	f.Add(checked("M\x00" + strings.Repeat("\x00", 12)))
	f.Fuzz(func(t *testing.T, s string) {
		if wantAsPlainly(t, s) {
			if g, _ := Decode(s); Encode(g) != s {
				t.Errorf("Encode(Decode(%q)) = %q", s, Encode(g))
			}
		}
		// Few bytes are a frame by chance: so what is handed in goes on the wire too.
		wantAsPlainly(t, checked(s))
	})
}
