package judge

import "ostler/api"

// layout of tables: in which row each place stands.
type layout struct {
	// regs: the first row of each class; behind those that may be given away stands its scratch.
	regs  [api.Classes]int
	slots int
	rows  int
	width int
}

func layoutOf(m api.Machine, frame, values int) layout {
	l := layout{width: width(values)}
	for class, n := range m.Regs {
		l.regs[class] = l.slots
		l.slots += n + 1
	}
	l.rows = l.slots + frame
	return l
}

// of: the row of a place.
func (l layout) of(p api.Place) int {
	if p.Kind == api.InReg {
		return l.regs[p.Class] + p.N
	}
	return l.slots + p.N
}

// table of what all places surely have, at one point.
type table struct {
	layout
	words []uint64
}

// nothing: no place surely has anything.
func (l layout) nothing() table {
	return table{layout: l, words: make([]uint64, l.rows*l.width)}
}

// everything: each place has all, for all that was told so far.
func (l layout) everything() table {
	t := l.nothing()
	for i := range t.words {
		t.words[i] = ^uint64(0)
	}
	return t
}

func (t table) row(i int) row { return t.words[i*t.width : (i+1)*t.width] }

func (t table) at(p api.Place) row { return t.row(t.of(p)) }

func (t table) move(moves []api.Move) {
	for _, m := range moves {
		copy(t.at(m.To), t.at(m.From))
	}
}

// lay a value that is made in its place: what others have of that name was made earlier.
func (t table) lay(v int, p api.Place) {
	for i := range t.rows {
		t.row(i).drop(v)
	}
	own := t.at(p)
	clear(own)
	own.add(v)
}

// spoil what is not kept up to the end of an instruction.
func (t table) spoil(x api.Instr, places []api.Place) {
	for i, o := range x.Operands {
		if o.Kind == api.Def && !o.Late {
			clear(t.at(places[i]))
		}
	}
	for _, r := range x.Spoils {
		clear(t.at(api.Place{Kind: api.InReg, Class: r.Class, N: r.N}))
	}
}

// does what an instruction does, and marks of which operands the values are known to be in their places.
func (t table) does(x api.Instr, places []api.Place, known []bool) {
	look := func(late bool) {
		for i, o := range x.Operands {
			if o.Kind == api.Use && o.Late == late {
				known[i] = t.at(places[i]).has(o.Value)
			}
		}
	}
	look(false)
	t.spoil(x, places)
	look(true)
	for i, o := range x.Operands {
		if o.Kind == api.Def {
			t.lay(o.Value, places[i])
			known[i] = true
		}
	}
}
