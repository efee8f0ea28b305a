package fdd

import (
	"math"

	"pointsman/api"
	"pointsman/syntax"
)

const (
	maxSlim  = 20      // nodes of a slim policy
	maxWidth = 64      // of it and its nodes
	maxSteps = 1 << 20 // for the diagram of a policy that isn't slim
)

// stepsFor answers how many steps the diagram of p may take. A slim policy isn't refused for want of them: it doesn't need many.
func stepsFor(p api.Pol) int {
	if isSlim(p) {
		return math.MaxInt
	}
	return maxSteps
}

func isSlim(p api.Pol) bool {
	return syntax.Size(p) <= maxSlim && isNarrow(p)
}

// isNarrow tells whether neither p nor a node of it is too wide: within a Not one may be, whatever the width of the Not.
func isNarrow(p api.Pol) bool {
	for _, kid := range p.Kids {
		if !isNarrow(kid) {
			return false
		}
	}
	return width(p) <= maxWidth
}

func width(p api.Pol) int {
	w := 1
	switch p.Op {
	case api.Sum:
		w = 0
		for _, kid := range p.Kids {
			w += width(kid)
		}
	case api.Seq:
		for _, kid := range p.Kids {
			w *= width(kid)
		}
	}
	return w
}
