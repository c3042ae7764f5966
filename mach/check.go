package mach

import (
	"ostler/api"
	"ostler/place"
)

// checker of an output whose function, machine and frame may be.
type checker struct {
	f api.Func
	m api.Machine
	o api.Output
}

// mayHold: may an operand be there?
func (c checker) mayHold(p api.Place) bool {
	return place.IsReg(p, c.m) || place.IsSlot(p, c.o.Frame)
}

// mayMove: may a move go from there, or to there? It may use a scratch, too.
func (c checker) mayMove(p api.Place) bool {
	return c.mayHold(p) || place.IsScratch(p, c.m)
}

func (c checker) places() api.Errno {
	if len(c.o.Places) != len(c.f.Blocks) {
		return api.ErrForm
	}
	for b, lists := range c.o.Places {
		if e := c.blockPlaces(c.f.Blocks[b], lists); e != api.OK {
			return e
		}
	}
	return api.OK
}

func (c checker) blockPlaces(b api.Block, lists [][]api.Place) api.Errno {
	if len(lists) != len(b.Instrs) {
		return api.ErrForm
	}
	for at, l := range lists {
		if len(l) != len(b.Instrs[at].Operands) {
			return api.ErrForm
		}
		for _, p := range l {
			if !c.mayHold(p) {
				return api.ErrRange
			}
		}
	}
	return api.OK
}

func (c checker) edits() api.Errno {
	moves := 0
	for i, edit := range c.o.Edits {
		if !c.isSpot(edit) {
			return api.ErrRange
		}
		if i > 0 && !isBehind(edit, c.o.Edits[i-1]) {
			return api.ErrForm
		}
		moves += len(edit.Moves)
		if moves > api.MaxMoves {
			return api.ErrSize
		}
		for _, move := range edit.Moves {
			if e := c.move(move); e != api.OK {
				return e
			}
		}
	}
	return api.OK
}

// isSpot: is there such a block, and such an instruction in it, or is it behind the last one?
func (c checker) isSpot(edit api.Edit) bool {
	if edit.Block < 0 || edit.Block >= len(c.f.Blocks) {
		return false
	}
	return edit.At >= 0 && edit.At <= len(c.f.Blocks[edit.Block].Instrs)
}

func isBehind(edit, ahead api.Edit) bool {
	if edit.Block != ahead.Block {
		return edit.Block > ahead.Block
	}
	return edit.At > ahead.At
}

func (c checker) move(move api.Move) api.Errno {
	if !c.mayMove(move.From) || !c.mayMove(move.To) {
		return api.ErrRange
	}
	if move.From.Kind != move.To.Kind {
		return api.OK
	}
	if move.From.Kind == api.InSlot {
		return api.ErrLimit
	}
	if move.From.Class != move.To.Class {
		return api.ErrClass
	}
	return api.OK
}
