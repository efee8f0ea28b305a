// Package packet is layer 1: packets' fields, their order and their texts (shared/doc/01-packet.md).
package packet

import (
	"cmp"
	"slices"
	"strconv"
	"strings"

	"pointsman/api"
)

var names = [api.Fields]string{"sw", "pt", "src", "dst", "typ", "svc", "vid", "opt"}

const maxDigits = 5

// Name tells a field's name; "" of none.
func Name(f int) string {
	if !isField(f) {
		return ""
	}
	return names[f]
}

// Field tells the field of a name.
func Field(name string) (int, bool) {
	for f, n := range names {
		if n == name {
			return f, true
		}
	}
	return 0, false
}

// With answers p with the field f being n; p itself, of no field.
func With(p api.Packet, f int, n uint16) api.Packet {
	if isField(f) {
		p[f] = n
	}
	return p
}

// Has tells whether p has all of these fields; a pair of no field is never had.
func Has(p api.Packet, l []api.Pair) bool {
	for _, c := range l {
		if !isField(c.F) || p[c.F] != c.N {
			return false
		}
	}
	return true
}

// Do answers p with all of a put, one behind the other.
func Do(p api.Packet, a api.Act) api.Packet {
	for _, c := range a {
		p = With(p, c.F, c.N)
	}
	return p
}

// At tells where p is.
func At(p api.Packet) api.Port {
	return api.Port{Sw: p[api.Sw], Pt: p[api.Pt]}
}

// To answers p at another port.
func To(p api.Packet, at api.Port) api.Packet {
	p[api.Sw] = at.Sw
	p[api.Pt] = at.Pt
	return p
}

// Compare orders packets by their first field that is unlike.
func Compare(a, b api.Packet) int {
	for f := range api.Fields {
		if c := cmp.Compare(a[f], b[f]); c != 0 {
			return c
		}
	}
	return 0
}

// Sort answers the packets of l in order, each once.
func Sort(l []api.Packet) []api.Packet {
	sorted := slices.Clone(l)
	slices.SortFunc(sorted, Compare)
	return slices.Compact(sorted)
}

// Text tells a packet's text.
func Text(p api.Packet) string {
	var b strings.Builder
	for f, n := range p {
		if n == 0 && f != api.Sw && f != api.Pt {
			continue
		}
		if f > 0 {
			b.WriteByte(' ')
		}
		b.WriteString(names[f])
		b.WriteByte('=')
		b.WriteString(strconv.Itoa(int(n)))
	}
	return b.String()
}

// Read answers the packet of a text; false of what is none.
func Read(s string) (api.Packet, bool) {
	var p api.Packet
	var said [api.Fields]bool
	for s != "" {
		word, rest, _ := strings.Cut(s, " ")
		s = rest
		if word == "" {
			continue
		}
		f, n, ok := readPair(word)
		if !ok || said[f] {
			return api.Packet{}, false
		}
		said[f] = true
		p[f] = n
	}
	return p, true
}

func isField(f int) bool {
	return f >= 0 && f < api.Fields
}

func readPair(word string) (int, uint16, bool) {
	// Without a "=" the number's text is empty, and so refused.
	name, digits, _ := strings.Cut(word, "=")
	f, known := Field(name)
	n, ok := readNumber(digits)
	if !known || !ok {
		return 0, 0, false
	}
	return f, n, true
}

func readNumber(digits string) (uint16, bool) {
	// The library takes any number of leading zeros.
	if len(digits) > maxDigits {
		return 0, false
	}
	n, err := strconv.ParseUint(digits, 10, 16)
	if err != nil {
		return 0, false
	}
	return uint16(n), true
}
