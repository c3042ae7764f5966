package group

import (
	"cmp"
	"slices"

	"ostler/api"
)

// parts that values fall into: their groups, as far as they have been joined.
type parts struct {
	// least value of the group of each.
	least []int
	// spans at which some value of a group is needed, in their order, at the least value of the group.
	spans [][]api.Span
}

// partsOf values that are needed at these spans: each by itself.
func partsOf(spans [][]api.Span) parts {
	p := parts{least: make([]int, len(spans)), spans: spans}
	for v := range p.least {
		p.least[v] = v
	}
	return p
}

// joinReuses: what is made where an operand is, with that one.
func (p parts) joinReuses(l []api.Operand) {
	for _, o := range l {
		if o.Limit == api.Reuse {
			p.join(o.Value, l[o.N].Value)
		}
	}
}

// joinArgs: what is handed on, with what it becomes.
func (p parts) joinArgs(params, args []int) {
	for i, v := range params {
		p.join(v, args[i])
	}
}

// join the groups of two values, if they are two, and never needed at once.
func (p parts) join(v, w int) {
	low, high := min(p.least[v], p.least[w]), max(p.least[v], p.least[w])
	if low == high {
		return
	}
	both := ordered(p.spans[low], p.spans[high])
	if overlap(both) {
		return
	}
	p.spans[low] = both
	for i, least := range p.least {
		if least == high {
			p.least[i] = low
		}
	}
}

// ordered spans of two groups, by where they begin.
func ordered(a, b []api.Span) []api.Span {
	all := slices.Concat(a, b)
	slices.SortFunc(all, func(s, t api.Span) int { return cmp.Compare(s.From, t.From) })
	return all
}

// overlap: have two of the spans a point in common? Then so have two that stand side by side in their order.
func overlap(l []api.Span) bool {
	for i := 1; i < len(l); i++ {
		if l[i].From < l[i-1].To {
			return true
		}
	}
	return false
}
