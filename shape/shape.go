// Package shape: what functions and machines may be.
package shape

import "ostler/api"

// leastRegs of a class that a machine must have to give away.
const leastRegs = 2

// CheckMachine: may it be?
func CheckMachine(m api.Machine) api.Errno {
	for _, n := range m.Regs {
		if n < leastRegs || n > api.MaxRegs {
			return api.ErrRange
		}
	}
	return api.OK
}

// Check a function for a machine, but for how its blocks hang together.
func Check(f api.Func, m api.Machine) api.Errno {
	if e := CheckMachine(m); e != api.OK {
		return e
	}
	// Sizes come first: all that follows may then go through everything.
	if !sizesFit(f) {
		return api.ErrSize
	}
	for _, class := range f.Values {
		if !isClass(class) {
			return api.ErrClass
		}
	}
	if len(f.Blocks[0].Params) > 0 {
		return api.ErrForm
	}
	c := checker{f: f, m: m}
	for _, b := range f.Blocks {
		if e := c.block(b); e != api.OK {
			return e
		}
	}
	return c.madeOnce()
}

// sizesFit: are there blocks, and of nothing too much?
func sizesFit(f api.Func) bool {
	if len(f.Blocks) == 0 || len(f.Blocks) > api.MaxBlocks || len(f.Values) > api.MaxValues {
		return false
	}
	all := 0
	for _, b := range f.Blocks {
		all += len(b.Instrs)
		if all > api.MaxAll || !blockFits(b) {
			return false
		}
	}
	return true
}

func blockFits(b api.Block) bool {
	if len(b.Params) > api.MaxParams || len(b.Instrs) > api.MaxInstrs || len(b.Edges) > api.MaxSuccs {
		return false
	}
	for _, x := range b.Instrs {
		if len(x.Operands) > api.MaxOperands || len(x.Spoils) > api.Classes*api.MaxRegs {
			return false
		}
	}
	return true
}

func isClass(class int) bool { return class >= 0 && class < api.Classes }

// checker of a function whose sizes and classes are known to be in bounds.
type checker struct {
	f api.Func
	m api.Machine
}

func (c checker) isValue(v int) bool { return v >= 0 && v < len(c.f.Values) }

// givable: may the register be given away? A scratch may not.
func (c checker) givable(r api.Reg) bool {
	return isClass(r.Class) && r.N >= 0 && r.N < c.m.Regs[r.Class]
}

func (c checker) block(b api.Block) api.Errno {
	for _, x := range b.Instrs {
		if e := c.instr(x); e != api.OK {
			return e
		}
	}
	// The last instruction is what chooses among edges.
	if len(b.Edges) > 1 && len(b.Instrs) == 0 {
		return api.ErrForm
	}
	for _, edge := range b.Edges {
		if e := c.edge(edge); e != api.OK {
			return e
		}
	}
	return api.OK
}

func (c checker) edge(edge api.Edge) api.Errno {
	if edge.Block <= 0 || edge.Block >= len(c.f.Blocks) {
		return api.ErrNone
	}
	params := c.f.Blocks[edge.Block].Params
	if len(edge.Args) != len(params) {
		return api.ErrForm
	}
	for i, arg := range edge.Args {
		if !c.isValue(arg) {
			return api.ErrRange
		}
		if !c.isValue(params[i]) || c.f.Values[arg] != c.f.Values[params[i]] {
			return api.ErrClass
		}
	}
	return api.OK
}

// madeOnce: is each value made, and none of them twice?
func (c checker) madeOnce() api.Errno {
	made := make([]bool, len(c.f.Values))
	left := len(made)
	mark := func(v int) api.Errno {
		if !c.isValue(v) {
			return api.ErrRange
		}
		if made[v] {
			return api.ErrTwice
		}
		made[v] = true
		left--
		return api.OK
	}
	for _, b := range c.f.Blocks {
		if e := markBlock(b, mark); e != api.OK {
			return e
		}
	}
	if left > 0 {
		return api.ErrNone
	}
	return api.OK
}

// markBlock marks what the block makes, up to the first mark that is refused.
func markBlock(b api.Block, mark func(v int) api.Errno) api.Errno {
	for _, v := range b.Params {
		if e := mark(v); e != api.OK {
			return e
		}
	}
	for _, x := range b.Instrs {
		for _, o := range x.Operands {
			if o.Kind != api.Def {
				continue
			}
			if e := mark(o.Value); e != api.OK {
				return e
			}
		}
	}
	return api.OK
}
