package run

import "ostler/api"

// nowhere: no block is next.
const nowhere = -1

// walk through a function that may be.
type walk struct {
	f    api.Func
	seed int
	// left: how many steps.
	left int
	// now: what each value is, by its last making.
	now    []int
	events []api.Event
}

// step: is one left to go?
func (w *walk) step() bool {
	w.left--
	return w.left >= 0
}

// through a block: which one is next?
func (w *walk) through(b int) int {
	if !w.step() {
		return nowhere
	}
	block := w.f.Blocks[b]
	taken := 0
	for at, x := range block.Instrs {
		if !w.step() {
			return nowhere
		}
		read := w.reads(x)
		w.makes(x, read)
		taken = Takes(w.seed, block, at, read)
		w.events = append(w.events, api.Event{Block: b, At: at, Read: read, Edge: taken})
	}
	if len(block.Edges) == 0 {
		return nowhere
	}
	w.handOn(block.Edges[taken])
	return block.Edges[taken].Block
}

// reads what an instruction reads, into a list of its own.
func (w *walk) reads(x api.Instr) []int {
	var read []int
	for _, o := range x.Operands {
		if o.Kind == api.Use {
			read = append(read, w.now[o.Value])
		}
	}
	return read
}

// makes what an instruction makes of what it read.
func (w *walk) makes(x api.Instr, read []int) {
	for place, o := range x.Operands {
		if o.Kind == api.Def {
			w.now[o.Value] = Made(w.seed, x, place, read)
		}
	}
}

// handOn the args of an edge: all are looked up ahead of the first param, which may be an arg itself.
func (w *walk) handOn(edge api.Edge) {
	given := make([]int, 0, len(edge.Args))
	for _, v := range edge.Args {
		given = append(given, w.now[v])
	}
	for i, p := range w.f.Blocks[edge.Block].Params {
		w.now[p] = given[i]
	}
}
