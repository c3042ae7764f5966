// Package place: which places a machine has for values, and which of them operands ask for by number.
package place

import "ostler/api"

// IsReg: is it a register that may be given away?
func IsReg(p api.Place, m api.Machine) bool {
	return isOfRegs(p) && p.N >= 0 && p.N < m.Regs[p.Class]
}

// IsScratch: is it the scratch of a class?
func IsScratch(p api.Place, m api.Machine) bool {
	return isOfRegs(p) && p == Scratch(p.Class, m)
}

// IsSlot: is it one of so many slots?
func IsSlot(p api.Place, frame int) bool {
	return p.Kind == api.InSlot && p.Class == 0 && p.N >= 0 && p.N < frame
}

// Scratch of a class that there is.
func Scratch(class int, m api.Machine) api.Place {
	return api.Place{Kind: api.InReg, Class: class, N: m.Regs[class]}
}

// Slot of this number.
func Slot(n int) api.Place { return api.Place{Kind: api.InSlot, N: n} }

// Fixed register of an operand of an instruction, and whether it has one; a Reuse has that of the operand that it names. The classes of all values are told.
func Fixed(o api.Operand, all []api.Operand, classes []int) (api.Reg, bool) {
	if o.Limit == api.Reuse {
		o = all[o.N]
	}
	if o.Limit != api.Fixed {
		return api.Reg{}, false
	}
	return api.Reg{Class: classes[o.Value], N: o.N}, true
}

func isOfRegs(p api.Place) bool {
	return p.Kind == api.InReg && p.Class >= 0 && p.Class < api.Classes
}
