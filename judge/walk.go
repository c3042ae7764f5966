package judge

import "ostler/api"

// walk through an output that may be, block by block, as often as it takes.
type walk struct {
	f api.Func
	o api.Output
	// begins: what places surely have at the beginning of each block.
	begins []table
	// now: what they have at the point that is come to.
	now   table
	known [][][]bool
}

// walkOf an output: places have nothing at the beginning of the first block, and everything at the others', until an edge denies it.
func walkOf(f api.Func, m api.Machine, o api.Output) *walk {
	l := layoutOf(m, o.Frame, len(f.Values))
	w := &walk{f: f, o: o, now: l.nothing()}
	for b, block := range f.Blocks {
		begin := l.everything()
		if b == 0 {
			begin = l.nothing()
		}
		w.begins = append(w.begins, begin)
		known := make([][]bool, len(block.Instrs))
		for at, x := range block.Instrs {
			known[at] = make([]bool, len(x.Operands))
		}
		w.known = append(w.known, known)
	}
	return w
}

// settle what places surely have: to begin with all, and take away no more than must be, tells the most. A block is gone through again, if less is left at its beginning, so what is known of its operands is what the last time told.
func (w *walk) settle() {
	again := make([]bool, len(w.f.Blocks))
	for b := range again {
		again[b] = true
	}
	for news := true; news; {
		news = false
		for b, block := range w.f.Blocks {
			if !again[b] {
				continue
			}
			again[b] = false
			w.through(b)
			for _, edge := range block.Edges {
				if w.handOn(edge) {
					again[edge.Block], news = true, true
				}
			}
		}
	}
}

// through a block, from its beginning to its end.
func (w *walk) through(b int) {
	copy(w.now.words, w.begins[b].words)
	instrs := w.f.Blocks[b].Instrs
	for at, x := range instrs {
		w.now.move(w.moves(b, at))
		w.now.does(x, w.o.Places[b][at], w.known[b][at])
	}
	w.now.move(w.moves(b, len(instrs)))
}

// moves that are done at a place of a block.
func (w *walk) moves(b, at int) []api.Move {
	for _, edit := range w.o.Edits {
		if edit.Block == b && edit.At == at {
			return edit.Moves
		}
	}
	return nil
}

// handOn along an edge what places have now: is less left by that at the beginning to which it leads?
func (w *walk) handOn(edge api.Edge) bool {
	less := false
	begin, params := w.begins[edge.Block], w.f.Blocks[edge.Block].Params
	given := make(row, w.now.width)
	for i := range w.now.rows {
		given.rename(w.now.row(i), edge.Args, params)
		if begin.row(i).keep(given) {
			less = true
		}
	}
	return less
}
