package flow

// nobody dominates the first block, but itself.
const nobody = -1

// idoms: for each block the nearest other one that dominates it.
func (g graph) idoms() []int {
	rank := make([]int, len(g.order))
	idom := make([]int, len(g.order))
	for i, b := range g.order {
		rank[b], idom[b] = i, nobody
	}
	// What dominates a block has a lower rank, so the one of higher rank goes up; the first block never has to.
	meet := func(a, b int) int {
		for a != b {
			if rank[a] > rank[b] {
				a = idom[a]
			} else {
				b = idom[b]
			}
		}
		return a
	}
	for changed := true; changed; {
		changed = false
		for _, b := range g.order[1:] {
			if next := g.nearest(b, idom, meet); next != idom[b] {
				idom[b], changed = next, true
			}
		}
	}
	return idom
}

// nearest block at which all ways to b meet, as far as is known so far.
func (g graph) nearest(b int, idom []int, meet func(a, b int) int) int {
	next := nobody
	for _, p := range g.preds[b] {
		switch {
		case p != g.order[0] && idom[p] == nobody:
			// Not gone through yet: the next round asks it.
		case next == nobody:
			next = p
		default:
			next = meet(next, p)
		}
	}
	return next
}

// dominates: does one come to b by way of a only?
func (g graph) dominates(a, b int) bool {
	for b != nobody && b != a {
		b = g.idom[b]
	}
	return b == a
}

// depths: for each block in how many loops it is.
func (g graph) depths() []int {
	depth := make([]int, len(g.order))
	for head := range depth {
		for b, in := range g.loop(head) {
			if in {
				depth[b]++
			}
		}
	}
	return depth
}

// loop of a head: for each block whether it is in it; none is, if the block is no head.
func (g graph) loop(head int) []bool {
	in := make([]bool, len(g.order))
	var enter func(b int)
	enter = func(b int) {
		if in[b] {
			return
		}
		in[b] = true
		for _, p := range g.preds[b] {
			enter(p)
		}
	}
	for _, p := range g.preds[head] {
		if g.dominates(head, p) {
			// Marked ahead of all others, so that what leads to the head stays outside.
			in[head] = true
			enter(p)
		}
	}
	return in
}
