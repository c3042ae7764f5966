package shape

import "ostler/api"

// instr: may the instruction be, by itself?
func (c checker) instr(x api.Instr) api.Errno {
	if x.Op < 0 || x.Op > api.MaxOp {
		return api.ErrRange
	}
	for _, o := range x.Operands {
		if e := c.operand(o); e != api.OK {
			return e
		}
	}
	// Only now is each operand that a Reuse may name known to have a class.
	for _, o := range x.Operands {
		if o.Limit != api.Reuse {
			continue
		}
		if e := c.reuse(o, x.Operands); e != api.OK {
			return e
		}
	}
	if e := c.spoils(x.Spoils); e != api.OK {
		return e
	}
	if c.clash(x) {
		return api.ErrClash
	}
	if c.full(x) {
		return api.ErrFull
	}
	return api.OK
}

func (c checker) operand(o api.Operand) api.Errno {
	if o.Kind != api.Use && o.Kind != api.Def {
		return api.ErrKind
	}
	if o.Limit < api.Anywhere || o.Limit > api.Reuse {
		return api.ErrKind
	}
	if !c.isValue(o.Value) {
		return api.ErrRange
	}
	switch o.Limit {
	case api.Fixed:
		if !c.givable(api.Reg{Class: c.f.Values[o.Value], N: o.N}) {
			return api.ErrRange
		}
	case api.Reuse:
		if o.Kind != api.Def || !o.Late {
			return api.ErrForm
		}
	default:
		if o.N != 0 {
			return api.ErrForm
		}
	}
	return api.OK
}

// reuse: may the Reuse name the operand that it names?
func (c checker) reuse(o api.Operand, all []api.Operand) api.Errno {
	if o.N < 0 || o.N >= len(all) {
		return api.ErrNone
	}
	named := all[o.N]
	if named.Kind != api.Use || named.Late {
		return api.ErrForm
	}
	if c.f.Values[named.Value] != c.f.Values[o.Value] {
		return api.ErrClass
	}
	return api.OK
}

func (c checker) spoils(l []api.Reg) api.Errno {
	for i, r := range l {
		if !c.givable(r) {
			return api.ErrRange
		}
		if i > 0 && !behind(r, l[i-1]) {
			return api.ErrForm
		}
	}
	return api.OK
}

// behind: does a stand behind b, by classes, then by numbers?
func behind(a, b api.Reg) bool {
	return a.Class > b.Class || a.Class == b.Class && a.N > b.N
}

// full: do spoils and operands leave no register of some class free?
func (c checker) full(x api.Instr) bool {
	var taken [api.Classes]int
	for _, r := range x.Spoils {
		taken[r.Class]++
	}
	for _, o := range x.Operands {
		switch o.Limit {
		case api.Register, api.Fixed, api.Reuse:
			taken[c.f.Values[o.Value]]++
		}
	}
	for class, n := range taken {
		if n >= c.m.Regs[class] {
			return true
		}
	}
	return false
}
