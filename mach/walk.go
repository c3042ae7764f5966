package mach

import (
	"ostler/api"
	"ostler/run"
)

// nowhere: no block is next.
const nowhere = -1

// walk through an output that may be.
type walk struct {
	f      api.Func
	places [][][]api.Place
	// moves ahead of each instruction of each block, and behind its last one.
	moves [][][]api.Move
	seed  int
	// left: how many steps.
	left   int
	store  store
	events []api.Event
}

// movesByPlace: edits are few, but looked up at each step.
func movesByPlace(f api.Func, edits []api.Edit) [][][]api.Move {
	moves := make([][][]api.Move, len(f.Blocks))
	for b, block := range f.Blocks {
		moves[b] = make([][]api.Move, len(block.Instrs)+1)
	}
	for _, edit := range edits {
		moves[edit.Block][edit.At] = edit.Moves
	}
	return moves
}

// step: is one left to go?
func (w *walk) step() bool {
	w.left--
	return w.left >= 0
}

// through a block: which one is next?
func (w *walk) through(b int) int {
	if !w.step() {
		return nowhere
	}
	block := w.f.Blocks[b]
	taken := 0
	for at, x := range block.Instrs {
		if !w.step() {
			return nowhere
		}
		w.move(w.moves[b][at])
		read := w.does(x, w.places[b][at])
		taken = run.Takes(w.seed, block, at, read)
		w.events = append(w.events, api.Event{Block: b, At: at, Read: read, Edge: taken})
	}
	w.move(w.moves[b][len(block.Instrs)])
	if len(block.Edges) == 0 {
		return nowhere
	}
	return block.Edges[taken].Block
}

func (w *walk) move(moves []api.Move) {
	for _, move := range moves {
		*w.store.at(move.To) = *w.store.at(move.From)
	}
}

// does what an instruction does, whose operands are at these places: what did it read?
func (w *walk) does(x api.Instr, places []api.Place) []int {
	var seen [api.MaxOperands]int
	look := func(late bool) {
		for i, o := range x.Operands {
			if o.Kind == api.Use && o.Late == late {
				seen[i] = *w.store.at(places[i])
			}
		}
	}
	look(false)
	w.spoils(x, places)
	look(true)
	// What was read is told by operands, not by when it was read.
	var read []int
	for i, o := range x.Operands {
		if o.Kind == api.Use {
			read = append(read, seen[i])
		}
	}
	w.makes(x, places, read)
	return read
}

// spoils what is not kept up to the end of an instruction: a def that is not Late may be written at any time.
func (w *walk) spoils(x api.Instr, places []api.Place) {
	for i, o := range x.Operands {
		if o.Kind == api.Def && !o.Late {
			*w.store.at(places[i]) = w.store.nextJunk()
		}
	}
	for _, r := range x.Spoils {
		w.store.regs[r.Class][r.N] = w.store.nextJunk()
	}
}

// makes what an instruction makes of what it read.
func (w *walk) makes(x api.Instr, places []api.Place, read []int) {
	for i, o := range x.Operands {
		if o.Kind == api.Def {
			*w.store.at(places[i]) = run.Made(w.seed, x, i, read)
		}
	}
}
