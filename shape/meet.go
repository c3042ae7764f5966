package shape

import (
	"slices"

	"ostler/api"
	"ostler/place"
)

// Meet: do two operands need places of their own?
func Meet(a, b api.Operand) bool {
	switch {
	case a.Kind == api.Use && b.Kind == api.Use:
		return a.Value != b.Value
	case a.Kind == api.Def && b.Kind == api.Def:
		return true
	case a.Kind == api.Use && b.Kind == api.Def:
		return a.Late || !b.Late
	case a.Kind == api.Def && b.Kind == api.Use:
		return b.Late || !a.Late
	}
	return false
}

// clash: do two of the instruction's operands, or an operand and a spoil, ask for one register?
func (c checker) clash(x api.Instr) bool {
	for i, o := range x.Operands {
		reg, fixed := place.Fixed(o, x.Operands, c.f.Values)
		if fixed && (o.Late || o.Kind == api.Def) && slices.Contains(x.Spoils, reg) {
			return true
		}
		for j := range i {
			if c.pairClashes(x.Operands, j, i) {
				return true
			}
		}
	}
	return false
}

// pairClashes: do the operands at two places ask for one register, or reuse one operand?
func (c checker) pairClashes(l []api.Operand, i, j int) bool {
	a, b := l[i], l[j]
	if a.Limit == api.Reuse && b.Limit == api.Reuse && a.N == b.N {
		return true
	}
	if !Meet(a, b) || reuses(a, j) || reuses(b, i) {
		return false
	}
	r, fixed := place.Fixed(a, l, c.f.Values)
	s, other := place.Fixed(b, l, c.f.Values)
	return fixed && other && r == s
}

// reuses: is the operand the Reuse of the one at that place?
func reuses(o api.Operand, place int) bool { return o.Limit == api.Reuse && o.N == place }
