package syntax

import (
	"pointsman/api"
)

// Check tells what keeps p from being well formed; OK, if nothing does.
func Check(p api.Program) api.Errno {
	switch {
	case isLong(p):
		return api.ErrLong
	case !isFormed(p):
		return api.ErrForm
	}
	return api.OK
}

// Predicate tells whether p lets packets through or not, and changes none.
func Predicate(p api.Pol) bool {
	switch p.Op {
	case api.Id, api.Drop, api.Test, api.State, api.Not:
		return true
	case api.Seq, api.Sum:
		for _, kid := range p.Kids {
			if !Predicate(kid) {
				return false
			}
		}
		return true
	}
	return false
}

// Depth tells how many nodes stand one below the other in p, at most.
func Depth(p api.Pol) int {
	below := 0
	for _, kid := range p.Kids {
		below = max(below, Depth(kid))
	}
	return below + 1
}

// Size tells how many nodes p has.
func Size(p api.Pol) int {
	n := 1
	for _, kid := range p.Kids {
		n += Size(kid)
	}
	return n
}

func isLong(p api.Program) bool {
	parts := len(p.Init)
	return parts == 0 || parts > api.MaxParts || len(p.Rules) > api.MaxRules || room(p.Pol, api.MaxNodes, api.MaxDepth) < 0
}

// room tells how many of these nodes p leaves; a number below 0, if they don't do, or the levels don't. It looks no further then, unlike Size: the kids of a policy that is handed in may be shared so often that there is no going over all of them.
func room(p api.Pol, nodes, levels int) int {
	if levels == 0 {
		return -1
	}
	nodes--
	for _, kid := range p.Kids {
		if nodes < 0 {
			return nodes
		}
		nodes = room(kid, nodes, levels-1)
	}
	return nodes
}

func isFormed(p api.Program) bool {
	parts := len(p.Init)
	if !isPolFormed(p.Pol, parts) {
		return false
	}
	for _, r := range p.Rules {
		if !isRuleFormed(r, parts) {
			return false
		}
	}
	return true
}

func isPolFormed(p api.Pol, parts int) bool {
	if !isNodeFormed(p, parts) {
		return false
	}
	for _, kid := range p.Kids {
		if !isPolFormed(kid, parts) {
			return false
		}
	}
	return true
}

// isNodeFormed looks at p alone; of a Not's kid it asks for no more than that it is a predicate.
func isNodeFormed(p api.Pol, parts int) bool {
	kids := len(p.Kids)
	plain := p.F == 0 && p.N == 0
	switch p.Op {
	case api.Drop, api.Id:
		return kids == 0 && plain
	case api.Test:
		return kids == 0 && isWithin(p.F, 0, api.Fields)
	case api.State:
		return kids == 0 && isWithin(p.F, 0, parts)
	case api.Put:
		return kids == 0 && isWithin(p.F, api.Sw+1, api.Fields)
	case api.Not:
		return kids == 1 && plain && Predicate(p.Kids[0])
	case api.Seq, api.Sum:
		return kids >= 2 && plain
	}
	return false
}

func isRuleFormed(r api.Rule, parts int) bool {
	return isRising(r.When, api.Fields) && hasPort(r.When) &&
		isRising(r.Guard, parts) &&
		isRising(r.Then, parts) && len(r.Then) > 0
}

// isRising tells whether the fields of l (or parts) are rising, and all of them below end.
func isRising(l []api.Pair, end int) bool {
	least := 0
	for _, c := range l {
		if !isWithin(c.F, least, end) {
			return false
		}
		least = c.F + 1
	}
	return true
}

// hasPort asks of a rising list whether it begins with sw and pt: nothing else can stand ahead of them or between.
func hasPort(l []api.Pair) bool {
	return len(l) >= 2 && l[0].F == api.Sw && l[1].F == api.Pt
}

func isWithin(n, least, end int) bool {
	return n >= least && n < end
}
