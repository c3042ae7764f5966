package mach

import "ostler/api"

// checker of an output whose function, machine and frame may be.
type checker struct {
	f api.Func
	m api.Machine
	o api.Output
}

// isReg: is it a register, where each class has so many?
func isReg(p api.Place, regs [api.Classes]int) bool {
	if p.Kind != api.InReg || p.Class < 0 || p.Class >= api.Classes {
		return false
	}
	return p.N >= 0 && p.N < regs[p.Class]
}

func (c checker) isSlot(p api.Place) bool {
	return p.Kind == api.InSlot && p.Class == 0 && p.N >= 0 && p.N < c.o.Frame
}

// mayHold: may an operand be there?
func (c checker) mayHold(p api.Place) bool {
	return isReg(p, c.m.Regs) || c.isSlot(p)
}

// mayMove: may a move go from there, or to there? It may use a scratch, too.
func (c checker) mayMove(p api.Place) bool {
	regs := c.m.Regs
	for class := range regs {
		regs[class]++
	}
	return isReg(p, regs) || c.isSlot(p)
}

func (c checker) places() api.Errno {
	if len(c.o.Places) != len(c.f.Blocks) {
		return api.ErrForm
	}
	for b, lists := range c.o.Places {
		if e := c.blockPlaces(c.f.Blocks[b], lists); e != api.OK {
			return e
		}
	}
	return api.OK
}

func (c checker) blockPlaces(b api.Block, lists [][]api.Place) api.Errno {
	if len(lists) != len(b.Instrs) {
		return api.ErrForm
	}
	for at, l := range lists {
		if len(l) != len(b.Instrs[at].Operands) {
			return api.ErrForm
		}
		for _, p := range l {
			if !c.mayHold(p) {
				return api.ErrRange
			}
		}
	}
	return api.OK
}

func (c checker) edits() api.Errno {
	moves := 0
	for i, edit := range c.o.Edits {
		if !c.isSpot(edit) {
			return api.ErrRange
		}
		if i > 0 && !isBehind(edit, c.o.Edits[i-1]) {
			return api.ErrForm
		}
		moves += len(edit.Moves)
		if moves > api.MaxMoves {
			return api.ErrSize
		}
		for _, move := range edit.Moves {
			if e := c.move(move); e != api.OK {
				return e
			}
		}
	}
	return api.OK
}

// isSpot: is there such a block, and such an instruction in it, or is it behind the last one?
func (c checker) isSpot(edit api.Edit) bool {
	if edit.Block < 0 || edit.Block >= len(c.f.Blocks) {
		return false
	}
	return edit.At >= 0 && edit.At <= len(c.f.Blocks[edit.Block].Instrs)
}

func isBehind(edit, ahead api.Edit) bool {
	if edit.Block != ahead.Block {
		return edit.Block > ahead.Block
	}
	return edit.At > ahead.At
}

func (c checker) move(move api.Move) api.Errno {
	if !c.mayMove(move.From) || !c.mayMove(move.To) {
		return api.ErrRange
	}
	if move.From.Kind != move.To.Kind {
		return api.OK
	}
	if move.From.Kind == api.InSlot {
		return api.ErrLimit
	}
	if move.From.Class != move.To.Class {
		return api.ErrClass
	}
	return api.OK
}
