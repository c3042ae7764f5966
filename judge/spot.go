package judge

import (
	"slices"

	"ostler/api"
	"ostler/shape"
)

// spot: an instruction of a function, and where its operands are.
type spot struct {
	f      api.Func
	instr  api.Instr
	places []api.Place
}

// fault of an operand that its place alone tells.
func (s spot) fault(i int) api.Errno {
	o, p := s.instr.Operands[i], s.places[i]
	switch {
	case p.Kind == api.InReg && p.Class != s.f.Values[o.Value]:
		return api.ErrClass
	case !s.allowed(o, p):
		return api.ErrLimit
	case s.isSpoilt(o, p) || s.meetsAhead(i):
		return api.ErrClash
	}
	return api.OK
}

// allowed: does the operand's limit let it be there? If that is a register, it is known to be of the value's class.
func (s spot) allowed(o api.Operand, p api.Place) bool {
	switch o.Limit {
	case api.Register:
		return p.Kind == api.InReg
	case api.Stack:
		return p.Kind == api.InSlot
	case api.Fixed:
		return p.Kind == api.InReg && p.N == o.N
	case api.Reuse:
		return p == s.places[o.N]
	}
	return true
}

// isSpoilt: is the place spoilt while the operand needs it? A use that is not Late was read ahead of that.
func (s spot) isSpoilt(o api.Operand, p api.Place) bool {
	if !o.Late && o.Kind == api.Use {
		return false
	}
	return p.Kind == api.InReg && slices.Contains(s.instr.Spoils, api.Reg{Class: p.Class, N: p.N})
}

// meetsAhead: is an operand ahead at the same place, though both need one of their own?
func (s spot) meetsAhead(i int) bool {
	for j := range i {
		// A Reuse, being Late, never meets what it names, a use that is not: it needs no exception.
		if s.places[j] == s.places[i] && shape.Meet(s.instr.Operands[j], s.instr.Operands[i]) {
			return true
		}
	}
	return false
}
