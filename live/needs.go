package live

import "ostler/api"

// marks: for each value, whether.
type marks []bool

// needs of each block: what must be there at its beginning, and at its end; and what it makes itself.
type needs struct {
	in, out, made []marks
}

// needsOf a function that may be.
func needsOf(f api.Func) needs {
	n := needs{in: none(f), out: none(f), made: none(f)}
	for b, block := range f.Blocks {
		n.mark(b, block)
	}
	for n.handBack(f.Blocks) {
	}
	return n
}

// none: for each block no value.
func none(f api.Func) []marks {
	l := make([]marks, len(f.Blocks))
	for b := range l {
		l[b] = make(marks, len(f.Values))
	}
	return l
}

// mark what the block needs by itself, whatever comes behind it.
func (n needs) mark(b int, block api.Block) {
	for _, v := range block.Params {
		n.made[b][v] = true
	}
	for _, x := range block.Instrs {
		for _, o := range x.Operands {
			if o.Kind == api.Def {
				n.made[b][o.Value] = true
			}
		}
	}
	for _, x := range block.Instrs {
		for _, o := range x.Operands {
			if o.Kind == api.Use {
				n.askFor(b, o.Value)
			}
		}
	}
	for _, edge := range block.Edges {
		for _, v := range edge.Args {
			n.hold(b, v)
		}
	}
}

// askFor a value within a block: it must come in, unless the block makes it.
func (n needs) askFor(b, v int) {
	if !n.made[b][v] {
		n.in[b][v] = true
	}
}

// hold a value to the end of a block.
func (n needs) hold(b, v int) {
	n.out[b][v] = true
	n.askFor(b, v)
}

// handBack to each block what those that it leads to need: was any of it new?
func (n needs) handBack(blocks []api.Block) bool {
	news := false
	// Backwards, since most edges lead on: so few rounds do.
	for b := len(blocks) - 1; b >= 0; b-- {
		for _, edge := range blocks[b].Edges {
			for v, needed := range n.in[edge.Block] {
				if needed && !n.out[b][v] {
					n.hold(b, v)
					news = true
				}
			}
		}
	}
	return news
}

// numbers of the values that are marked, for each block.
func numbers(l []marks) [][]int {
	told := make([][]int, len(l))
	for b, row := range l {
		for v, marked := range row {
			if marked {
				told[b] = append(told[b], v)
			}
		}
	}
	return told
}
