package table

import (
	"strconv"
	"strings"

	"pointsman/api"
	"pointsman/packet"
)

// Text tells the rows of l, a line each; fields that there aren't are left out.
func Text(l []api.Row) string {
	var b strings.Builder
	for _, r := range l {
		b.WriteString(pairsText(r.Match, "="))
		b.WriteString(" -> ")
		b.WriteString(actsText(r.Acts))
		b.WriteByte('\n')
	}
	return b.String()
}

func actsText(l []api.Act) string {
	if len(l) == 0 {
		return "drop"
	}
	texts := make([]string, 0, len(l))
	for _, a := range l {
		texts = append(texts, pairsText(a, ":="))
	}
	return strings.Join(texts, " + ")
}

// pairsText tells each pair with this sign in it; "id", if nothing is left to tell.
func pairsText(l []api.Pair, sign string) string {
	texts := make([]string, 0, len(l))
	for _, c := range l {
		if name := packet.Name(c.F); name != "" {
			texts = append(texts, name+sign+strconv.Itoa(int(c.N)))
		}
	}
	if len(texts) == 0 {
		return "id"
	}
	return strings.Join(texts, " ; ")
}
