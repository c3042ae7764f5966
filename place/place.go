// Package place: which places a machine has for values.
package place

import "ostler/api"

// IsReg: is it a register that may be given away?
func IsReg(p api.Place, m api.Machine) bool {
	return isOfRegs(p) && p.N >= 0 && p.N < m.Regs[p.Class]
}

// IsScratch: is it the scratch of a class?
func IsScratch(p api.Place, m api.Machine) bool {
	return isOfRegs(p) && p == Scratch(p.Class, m)
}

// IsSlot: is it one of so many slots?
func IsSlot(p api.Place, frame int) bool {
	return p.Kind == api.InSlot && p.Class == 0 && p.N >= 0 && p.N < frame
}

// Scratch of a class that there is.
func Scratch(class int, m api.Machine) api.Place {
	return api.Place{Kind: api.InReg, Class: class, N: m.Regs[class]}
}

// Slot of this number.
func Slot(n int) api.Place { return api.Place{Kind: api.InSlot, N: n} }

func isOfRegs(p api.Place) bool {
	return p.Kind == api.InReg && p.Class >= 0 && p.Class < api.Classes
}
