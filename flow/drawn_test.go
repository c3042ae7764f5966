package flow_test

import (
	"fmt"
	"math"
	"slices"
	"testing"

	"ostler/api"
	"ostler/flow"
)

// draw: numbers that look drawn, the same each time.
type draw uint64

func (d *draw) below(n int) int {
	*d = *d*6364136223846793005 + 1442695040888963407
	return int(uint64(*d>>33) % uint64(n))
}

// leads: a web in which one can come to each block, its edges from many to many mostly split.
func (d *draw) leads() [][]int {
	n := 1 + d.below(6)
	l := make([][]int, n)
	for b := 1; b < n; b++ {
		from := d.below(b)
		for len(l[from]) == api.MaxSuccs {
			from++
		}
		l[from] = append(l[from], b)
	}
	for range d.below(2 * n) {
		from := d.below(n)
		if n > 1 && len(l[from]) < api.MaxSuccs {
			l[from] = slices.Insert(l[from], d.below(len(l[from])+1), 1+d.below(n-1))
		}
	}
	for from := range n {
		for i, b := range l[from] {
			if len(l[from]) > 1 && len(l) < api.MaxBlocks && d.below(30) > 0 {
				l[from][i] = len(l)
				l = append(l, []int{b})
			}
		}
	}
	return d.shuffled(l)
}

// shuffled: all blocks but the first one get other numbers.
func (d *draw) shuffled(l [][]int) [][]int {
	number := make([]int, len(l))
	for b := range number {
		number[b] = b
	}
	for b := len(l) - 1; b > 1; b-- {
		other := 1 + d.below(b)
		number[b], number[other] = number[other], number[b]
	}
	out := make([][]int, len(l))
	for b := range l {
		for _, to := range l[b] {
			out[number[b]] = append(out[number[b]], number[to])
		}
	}
	return out
}

// values: the function gets instructions that make and use values, and params with args, mostly such as may be.
func (d *draw) values(f api.Func) api.Func {
	for b := range f.Blocks {
		if b > 0 && d.below(2) == 0 {
			f.Blocks[b].Params = []int{len(f.Values)}
			f.Values = append(f.Values, 0)
		}
		for range 1 + d.below(2) {
			f.Blocks[b].Instrs = append(f.Blocks[b].Instrs, instr(lateDef(len(f.Values))))
			f.Values = append(f.Values, 0)
		}
	}
	// A value of a low block is more often made ahead.
	value := func() int { return d.below(1 + d.below(len(f.Values))) }
	for b, block := range f.Blocks {
		if d.below(3) == 0 {
			f.Blocks[b].Instrs = append(f.Blocks[b].Instrs, instr(use(value())))
		}
		for i, edge := range block.Edges {
			for range f.Blocks[edge.Block].Params {
				block.Edges[i].Args = append(block.Edges[i].Args, value())
			}
		}
	}
	return f
}

// reached: the blocks to which one can come from the first one without passing a block (-1: whichever way).
func reached(f api.Func, without int) []bool {
	in := make([]bool, len(f.Blocks))
	var l []int
	if without != 0 {
		in[0] = true
		l = append(l, 0)
	}
	for ; len(l) > 0; l = l[1:] {
		for _, edge := range f.Blocks[l[0]].Edges {
			if edge.Block != without && !in[edge.Block] {
				in[edge.Block] = true
				l = append(l, edge.Block)
			}
		}
	}
	return in
}

// dominance: whether a block dominates another one, by P2.3's words alone.
func dominance(f api.Func) [][]bool {
	var doms [][]bool
	for a := range f.Blocks {
		row := reached(f, a)
		for b := range row {
			row[b] = !row[b]
		}
		doms = append(doms, row)
	}
	return doms
}

// wantTree: by the words of P2.5 and P2.6, without regard to how long it takes.
func wantTree(f api.Func) api.Tree {
	doms := dominance(f)
	tree := api.Tree{Order: wantOrder(f), Idom: make([]int, len(f.Blocks)), Depth: make([]int, len(f.Blocks))}
	for b := range f.Blocks {
		tree.Idom[b] = -1
		for a := range f.Blocks {
			nearest := a != b && doms[a][b]
			for other := range f.Blocks {
				if other != b && doms[other][b] && !doms[other][a] {
					nearest = false
				}
			}
			if nearest {
				tree.Idom[b] = a
			}
		}
		for in, is := range wantLoop(f, doms, b) {
			if is {
				tree.Depth[in]++
			}
		}
	}
	return tree
}

// wantOrder by a stack of blocks and of edges that were gone along, instead of calls.
func wantOrder(f api.Func) []int {
	begun := make([]bool, len(f.Blocks))
	begun[0] = true
	var told []int
	for stack := [][2]int{{0, 0}}; len(stack) > 0; {
		top := &stack[len(stack)-1]
		edges := f.Blocks[top[0]].Edges
		if top[1] == len(edges) {
			told = append(told, top[0])
			stack = stack[:len(stack)-1]
			continue
		}
		next := edges[top[1]].Block
		top[1]++
		if !begun[next] {
			begun[next] = true
			stack = append(stack, [2]int{next, 0})
		}
	}
	slices.Reverse(told)
	return told
}

func wantLoop(f api.Func, doms [][]bool, head int) []bool {
	in := make([]bool, len(f.Blocks))
	for b, block := range f.Blocks {
		for _, edge := range block.Edges {
			if edge.Block == head && doms[head][b] {
				in[head], in[b] = true, true
			}
		}
	}
	for range f.Blocks {
		for b, block := range f.Blocks {
			for _, edge := range block.Edges {
				if in[edge.Block] && edge.Block != head {
					in[b] = true
				}
			}
		}
	}
	return in
}

// wantUses: is each value there where it is used? By what is surely made at the beginning of each block.
func wantUses(f api.Func) bool {
	surely := make([][]bool, len(f.Blocks))
	for b := range surely {
		surely[b] = slices.Repeat([]bool{b > 0}, len(f.Values))
	}
	fine := true
	for range len(f.Blocks) + 1 {
		fine = true
		for b, block := range f.Blocks {
			there := slices.Clone(surely[b])
			fine = walk(block, there) && fine
			for _, edge := range block.Edges {
				for v := range there {
					surely[edge.Block][v] = surely[edge.Block][v] && there[v]
				}
			}
		}
	}
	return fine
}

// walk through a block: are the values there that it uses? What it makes is there behind it.
func walk(block api.Block, there []bool) bool {
	fine := true
	// Made anew: what a round ahead made is not what is used in this one.
	for _, x := range block.Instrs {
		for _, o := range x.Operands {
			if o.Kind == api.Def {
				there[o.Value] = false
			}
		}
	}
	for _, v := range block.Params {
		there[v] = true
	}
	for _, x := range block.Instrs {
		for _, o := range x.Operands {
			fine = fine && (o.Kind == api.Def || there[o.Value])
		}
		for _, o := range x.Operands {
			if o.Kind == api.Def {
				there[o.Value] = true
			}
		}
	}
	for _, edge := range block.Edges {
		for _, v := range edge.Args {
			fine = fine && there[v]
		}
	}
	return fine
}

// wantManyToMany by counting edges one by one.
func wantManyToMany(f api.Func) bool {
	into := make([]int, len(f.Blocks))
	for _, b := range f.Blocks {
		for _, edge := range b.Edges {
			into[edge.Block]++
		}
	}
	return slices.ContainsFunc(f.Blocks, func(b api.Block) bool {
		return len(b.Edges) > 1 && slices.ContainsFunc(b.Edges, func(e api.Edge) bool { return into[e.Block] > 1 })
	})
}

// want of a function whose parts may be.
func want(f api.Func) (api.Tree, api.Errno) {
	switch {
	case slices.Contains(reached(f, -1), false):
		return api.Tree{}, api.ErrDead
	case wantManyToMany(f):
		return api.Tree{}, api.ErrEdge
	case !wantUses(f):
		return api.Tree{}, api.ErrUse
	}
	return wantTree(f), api.OK
}

// P2.1 to P2.6: drawn functions, against what the words say.
func TestDrawn(t *testing.T) {
	d := draw(2)
	seen := map[api.Errno]int{}
	deepest := 0
	for i := range 20000 {
		f := web(d.leads()...)
		if d.below(2) == 0 {
			f = d.values(f)
		}
		if d.below(10) == 0 {
			f.Blocks[d.below(len(f.Blocks))].Edges = nil
		}
		tree, e := want(f)
		got, code := flow.Dominators(f, machine())
		if code != e || flow.Check(f, machine()) != e || fmt.Sprint(got) != fmt.Sprint(tree) {
			t.Fatalf("case %d: %v: %v %d and %d, want %v %d", i, f, got, code, flow.Check(f, machine()), tree, e)
		}
		seen[e]++
		for _, n := range tree.Depth {
			deepest = max(deepest, n)
		}
	}
	for _, e := range []api.Errno{api.OK, api.ErrDead, api.ErrEdge, api.ErrUse} {
		if seen[e] < 500 {
			t.Errorf("too few that are answered %d, to tell anything: %v", e, seen)
		}
	}
	if deepest < 3 || len(seen) != 4 {
		t.Errorf("no loop within two others, or answers that are not flow's: %d, %v", deepest, seen)
	}
}

// told: all that a function has, spare room too.
func told(f api.Func) string {
	s := fmt.Sprint(f.Values[:cap(f.Values)], len(f.Values))
	for _, b := range f.Blocks[:cap(f.Blocks)] {
		s += fmt.Sprint(b.Params[:cap(b.Params)], len(b.Params), len(b.Instrs), len(b.Edges))
		for _, x := range b.Instrs[:cap(b.Instrs)] {
			s += fmt.Sprint(x.Op, x.Operands[:cap(x.Operands)], len(x.Operands), x.Spoils)
		}
		for _, e := range b.Edges[:cap(b.Edges)] {
			s += fmt.Sprint(e.Block, e.Args[:cap(e.Args)], len(e.Args))
		}
	}
	return s
}

// roomy: a function all of whose lists have spare room that is filled.
func roomy(f api.Func) api.Func {
	f.Values = append(slices.Clone(f.Values), 7, 7)[:len(f.Values)]
	f.Blocks = append(slices.Clone(f.Blocks), api.Block{Params: []int{7}})[:len(f.Blocks)]
	for i := range f.Blocks {
		b := &f.Blocks[i]
		b.Params = append(slices.Clone(b.Params), 7, 7)[:len(b.Params)]
		b.Instrs = append(slices.Clone(b.Instrs), instr(use(7)))[:len(b.Instrs)]
		b.Edges = append(slices.Clone(b.Edges), with(7, 7)...)[:len(b.Edges)]
		for j := range b.Edges {
			e := &b.Edges[j]
			e.Args = append(slices.Clone(e.Args), 7, 7)[:len(e.Args)]
		}
	}
	return f
}

// wild: one number of the function, or of the machine, is another one.
func (d *draw) wild(f api.Func, m *api.Machine) {
	b := &f.Blocks[d.below(len(f.Blocks))]
	numbers := []*int{&m.Regs[0], &m.Regs[1]}
	for i := range f.Values {
		numbers = append(numbers, &f.Values[i])
	}
	for i := range b.Params {
		numbers = append(numbers, &b.Params[i], &b.Params[i], &b.Params[i])
	}
	for _, x := range b.Instrs {
		for i := range x.Operands {
			o := &x.Operands[i]
			numbers = append(numbers, &o.Kind, &o.Value, &o.Limit, &o.N)
		}
	}
	for i := range b.Edges {
		numbers = append(numbers, &b.Edges[i].Block)
		for j := range b.Edges[i].Args {
			numbers = append(numbers, &b.Edges[i].Args[j])
		}
	}
	to := [...]int{-1, 0, 1, 2, 3, 5, 16, 159, 160, math.MinInt, math.MaxInt, 1 << 32}
	*numbers[d.below(len(numbers))] = to[d.below(len(to))]
}

// What holds everywhere: calls end without a panic, answer the same again, nothing else with an error, and leave what they are given as it is.
func TestWild(t *testing.T) {
	d := draw(5)
	for i := range 5000 {
		f := roomy(d.values(web(d.leads()...)))
		m := machine()
		for range d.below(3) {
			d.wild(f, &m)
		}
		before := told(f)
		tree, e := flow.Dominators(f, m)
		again, code := flow.Dominators(f, m)
		if e != code || e != flow.Check(f, m) || fmt.Sprint(tree) != fmt.Sprint(again) {
			t.Fatalf("case %d: %v %d, then %v %d", i, tree, e, again, code)
		}
		if e != api.OK && len(tree.Order)+len(tree.Idom)+len(tree.Depth) > 0 {
			t.Fatalf("case %d: refused with %d, and %v", i, e, tree)
		}
		if told(f) != before {
			t.Fatalf("case %d: what was given is changed", i)
		}
	}
}

// What comes out is new memory, spare room too: what is written into one list is seen in no other one.
func TestNewMemory(t *testing.T) {
	f := roomy(web([]int{1}, []int{2, 3}, []int{1}, nil))
	before := told(f)
	first, _ := flow.Dominators(f, machine())
	second, _ := flow.Dominators(f, machine())
	lists := [][]int{first.Order, first.Idom, first.Depth, second.Order, second.Idom, second.Depth}
	for i, l := range lists {
		for j := range l[:cap(l)] {
			l[:cap(l)][j] = 100 + i
		}
	}
	for i, l := range lists {
		for _, n := range l[:cap(l)] {
			if n != 100+i {
				t.Fatalf("the list %d shares memory with another one", i)
			}
		}
	}
	if told(f) != before {
		t.Error("an answer shares memory with what was given")
	}
}
