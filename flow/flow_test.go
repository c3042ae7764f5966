package flow_test

import (
	"slices"
	"testing"

	"ostler/api"
	"ostler/flow"
)

func machine() api.Machine { return api.Machine{Regs: [api.Classes]int{5, 4}} }

func use(v int) api.Operand {
	return api.Operand{Kind: api.Use, Value: v, Limit: api.Anywhere}
}

func lateUse(v int) api.Operand {
	return api.Operand{Kind: api.Use, Value: v, Late: true, Limit: api.Anywhere}
}

func def(v int) api.Operand {
	return api.Operand{Kind: api.Def, Value: v, Limit: api.Anywhere}
}

func lateDef(v int) api.Operand {
	return api.Operand{Kind: api.Def, Value: v, Late: true, Limit: api.Anywhere}
}

// reuse: a def where the operand n is.
func reuse(v, n int) api.Operand {
	return api.Operand{Kind: api.Def, Value: v, Late: true, Limit: api.Reuse, N: n}
}

func instr(l ...api.Operand) api.Instr { return api.Instr{Op: 1, Operands: l} }

func instrs(l ...api.Instr) []api.Instr { return l }

// to: edges to blocks without params.
func to(l ...int) []api.Edge {
	var edges []api.Edge
	for _, b := range l {
		edges = append(edges, api.Edge{Block: b})
	}
	return edges
}

// with: the one edge to a block with params.
func with(block int, args ...int) []api.Edge {
	return []api.Edge{{Block: block, Args: args}}
}

// fun with so many values, all of class 0.
func fun(values int, blocks ...api.Block) api.Func {
	return api.Func{Values: make([]int, values), Blocks: blocks}
}

// web: a function of no values whose blocks lead to these blocks.
func web(leads ...[]int) api.Func {
	var f api.Func
	for _, l := range leads {
		// An instruction, so that it may choose among edges.
		f.Blocks = append(f.Blocks, api.Block{Instrs: instrs(instr()), Edges: to(l...)})
	}
	return f
}

type row struct {
	name string
	f    api.Func
	want api.Errno
}

// checkRows: both functions of the face must answer so.
func checkRows(t *testing.T, m api.Machine, rows []row) {
	t.Helper()
	for _, r := range rows {
		if got := flow.Check(r.f, m); got != r.want {
			t.Errorf("%s: Check: %d, want %d", r.name, got, r.want)
		}
		tree, got := flow.Dominators(r.f, m)
		if got != r.want {
			t.Errorf("%s: Dominators: %d, want %d", r.name, got, r.want)
		}
		size := len(r.f.Blocks)
		if r.want != api.OK {
			size = 0
		}
		if len(tree.Order) != size || len(tree.Idom) != size || len(tree.Depth) != size {
			t.Errorf("%s: Dominators: %v, each list should have %d elements", r.name, tree, size)
		}
	}
}

// P2.1: what shape's Check refuses.
func TestShapes(t *testing.T) {
	one := func(l ...api.Operand) api.Func { return fun(2, api.Block{Instrs: instrs(instr(l...))}) }
	fixed := func(v int) api.Operand { return api.Operand{Kind: api.Def, Value: v, Limit: api.Fixed} }
	register := func(v int) api.Operand { return api.Operand{Kind: api.Def, Value: v, Limit: api.Register} }
	class := one(def(0), def(1))
	class.Values[1] = 2
	checkRows(t, machine(), []row{
		{"one that may be", one(def(0), def(1)), api.OK},
		{"one block without anything", fun(0, api.Block{}), api.OK},
		{"no blocks", api.Func{}, api.ErrSize},
		{"too many blocks", fun(0, make([]api.Block, api.MaxBlocks+1)...), api.ErrSize},
		{"too many values", fun(api.MaxValues+1, api.Block{}), api.ErrSize},
		{"a class that is none", class, api.ErrClass},
		{"params of the first block", fun(1, api.Block{Params: []int{0}}), api.ErrForm},
		{"no such value", one(def(0), def(1), use(2)), api.ErrRange},
		{"no such kind", one(def(0), def(1), api.Operand{Kind: 3, Limit: api.Anywhere}), api.ErrKind},
		{"two in one register", one(fixed(0), fixed(1)), api.ErrClash},
		{"an edge to the first block", web([]int{1}, []int{0}), api.ErrNone},
		{"an edge to no block", web([]int{1}, []int{2}), api.ErrNone},
		{"a value made twice", one(def(0), def(1), def(1)), api.ErrTwice},
		{"a value not made", one(def(1)), api.ErrNone},
		{"two edges and no instruction", fun(0, api.Block{Edges: to(1, 2)}, api.Block{}, api.Block{}), api.ErrForm},
	})
	few := api.Machine{Regs: [api.Classes]int{2, 2}}
	checkRows(t, few, []row{
		{"room in few registers", one(register(0), def(1)), api.OK},
		{"no room in few registers", one(register(0), register(1)), api.ErrFull},
	})
	for _, regs := range [][api.Classes]int{{1, 4}, {4, 1}, {11, 4}, {4, 11}, {0, 0}} {
		checkRows(t, api.Machine{Regs: regs}, []row{{"no machine", web([]int{1}, nil), api.ErrRange}})
	}
}

// P2.1
func TestDead(t *testing.T) {
	checkRows(t, machine(), []row{
		{"the last block", web(nil, nil), api.ErrDead},
		{"a block between", web([]int{2}, nil, nil), api.ErrDead},
		{"a block that leads to a live one", web([]int{2}, []int{2}, nil), api.ErrDead},
		{"a block that leads to itself", web(nil, []int{1}), api.ErrDead},
		{"a ring", web([]int{1}, nil, []int{3}, []int{2}), api.ErrDead},
		{"behind a dead block", web([]int{1}, nil, []int{3}, nil), api.ErrDead},
		{"a line backwards", web([]int{3}, nil, []int{1}, []int{2}), api.OK},
		{"by the last of three edges", web([]int{1, 2, 3}, nil, nil, nil), api.OK},
		{"by way of a ring", web([]int{1}, []int{2}, []int{3}, []int{4, 5}, []int{1}, nil), api.OK},
	})
	most := make([][]int, api.MaxBlocks)
	for b := range api.MaxBlocks - 1 {
		most[b] = []int{b + 1}
	}
	live := web(most...)
	most[api.MaxBlocks-2] = nil
	checkRows(t, machine(), []row{
		{"as many blocks as may be", live, api.OK},
		{"as many blocks as may be, the last one dead", web(most...), api.ErrDead},
	})
}

// P2.2
func TestEdgesFromManyToMany(t *testing.T) {
	checkRows(t, machine(), []row{
		{"a fork", web([]int{1, 2}, []int{3}, []int{3}, nil), api.OK},
		{"past one side of a fork", web([]int{1, 2}, []int{2}, nil), api.ErrEdge},
		{"past one side of a fork, named first", web([]int{2, 1}, []int{2}, nil), api.ErrEdge},
		{"two edges to one block", web([]int{1, 1}, nil), api.ErrEdge},
		{"two edges of three to one block", web([]int{1, 2, 1}, nil, nil), api.ErrEdge},
		{"the last of three edges", web([]int{1, 2, 3}, []int{3}, nil, nil), api.ErrEdge},
		{"of a later block", web([]int{1}, []int{2, 3}, []int{4}, []int{4, 5}, nil, nil), api.ErrEdge},
		{"one edge back", web([]int{1}, []int{2}, []int{1}), api.OK},
		{"one edge to itself", web([]int{1}, []int{1}), api.OK},
		{"an edge to itself, of two", web([]int{1}, []int{1, 2}, nil), api.ErrEdge},
		{"an edge back, of two", web([]int{1}, []int{2}, []int{1, 3}, nil), api.ErrEdge},
		{"an edge back by way of a block", web([]int{1}, []int{2}, []int{3, 4}, []int{1}, nil), api.OK},
		{"a fork of three", web([]int{1, 2, 3}, []int{4}, []int{4}, []int{4}, nil), api.OK},
	})
}

// P2.1: which error is named first.
func TestRefusalsInOrder(t *testing.T) {
	used := instrs(instr(use(0)), instr(def(0)))
	twice := instrs(instr(use(0)), instr(def(0), def(0)))
	checkRows(t, machine(), []row{
		{"a shape, ahead of dead blocks", fun(1, api.Block{}, api.Block{}), api.ErrNone},
		{"a shape, ahead of edges and uses", fun(1, api.Block{Instrs: twice, Edges: to(1, 1)}, api.Block{}), api.ErrTwice},
		{"dead blocks, ahead of edges", web([]int{1, 1}, nil, nil), api.ErrDead},
		{"dead blocks, ahead of uses", fun(1, api.Block{Instrs: used}, api.Block{}), api.ErrDead},
		{"edges of dead blocks", web([]int{1}, nil, []int{1, 1}), api.ErrDead},
		{"edges, ahead of uses", fun(1, api.Block{Instrs: used, Edges: to(1, 1)}, api.Block{}), api.ErrEdge},
		{"edges, ahead of uses in blocks ahead", fun(1, api.Block{Instrs: used, Edges: to(1)}, api.Block{Instrs: instrs(instr()), Edges: to(2, 2)}, api.Block{}), api.ErrEdge},
		{"uses at last", fun(1, api.Block{Instrs: used, Edges: to(1, 2)}, api.Block{}, api.Block{}), api.ErrUse},
	})
}

// P2.4
func TestUsesInOneBlock(t *testing.T) {
	one := func(l ...api.Instr) api.Func { return fun(1, api.Block{Instrs: l}) }
	checkRows(t, machine(), []row{
		{"made ahead", one(instr(def(0)), instr(use(0))), api.OK},
		{"made ahead, late", one(instr(lateDef(0)), instr(use(0), lateUse(0))), api.OK},
		{"made far ahead", one(instr(def(0)), instr(), instr(), instr(use(0))), api.OK},
		{"not used", one(instr(def(0))), api.OK},
		{"made behind", one(instr(use(0)), instr(def(0))), api.ErrUse},
		{"made far behind", one(instr(), instr(use(0)), instr(), instr(def(0))), api.ErrUse},
		{"used late, made behind", one(instr(lateUse(0)), instr(def(0))), api.ErrUse},
		{"made by the same one", one(instr(def(0), use(0))), api.ErrUse},
		{"made by the same one, used late", one(instr(def(0), lateUse(0))), api.ErrUse},
		{"made late by the same one", one(instr(lateUse(0), lateDef(0))), api.ErrUse},
		{"made by the same one, as a reuse", one(instr(use(0), reuse(0, 0))), api.ErrUse},
		{"the last of more operands", fun(2, api.Block{Instrs: instrs(instr(def(0)), instr(use(0), use(0), use(1)), instr(def(1)))}), api.ErrUse},
		{"all of more operands", fun(2, api.Block{Instrs: instrs(instr(def(0)), instr(def(1)), instr(use(1), use(0), use(1)))}), api.OK},
	})
}

// P2.4, P2.3
func TestUsesInOtherBlocks(t *testing.T) {
	maker, user := instrs(instr(def(0))), instrs(instr(use(0)))
	// forked: the fork's blocks have these instructions.
	forked := func(first, left, right, end []api.Instr) api.Func {
		first = append(slices.Clone(first), instr())
		return fun(1, api.Block{Instrs: first, Edges: to(1, 2)}, api.Block{Instrs: left, Edges: to(3)}, api.Block{Instrs: right, Edges: to(3)}, api.Block{Instrs: end})
	}
	// looped: so have the blocks ahead of a loop, its head, its body, and the one behind it.
	looped := func(first, head, body, end []api.Instr) api.Func {
		head = append(slices.Clone(head), instr())
		return fun(1, api.Block{Instrs: first, Edges: to(1)}, api.Block{Instrs: head, Edges: to(2, 3)}, api.Block{Instrs: body, Edges: to(1)}, api.Block{Instrs: end})
	}
	checkRows(t, machine(), []row{
		{"fork: from the first to one side", forked(maker, nil, user, nil), api.OK},
		{"fork: from the first to the end", forked(maker, nil, nil, user), api.OK},
		{"fork: from one side to the end", forked(nil, maker, nil, user), api.ErrUse},
		{"fork: from the other side to the end", forked(nil, nil, maker, user), api.ErrUse},
		{"fork: from side to side", forked(nil, maker, user, nil), api.ErrUse},
		{"fork: from side to side, backwards", forked(nil, user, maker, nil), api.ErrUse},
		{"fork: from the end to a side", forked(nil, user, nil, maker), api.ErrUse},
		{"fork: from a side to the first", forked(user, maker, nil, nil), api.ErrUse},
		{"loop: from the head to the body", looped(nil, maker, user, nil), api.OK},
		{"loop: from the head to behind it", looped(nil, maker, nil, user), api.OK},
		{"loop: from ahead of it to the body", looped(maker, nil, user, nil), api.OK},
		{"loop: from the body to the head", looped(nil, user, maker, nil), api.ErrUse},
		{"loop: from the body to behind it", looped(nil, nil, maker, user), api.ErrUse},
		{"loop: round and back in the body", looped(nil, nil, append(slices.Clone(user), maker...), nil), api.ErrUse},
		{"loop: from behind it to the head", looped(nil, user, nil, maker), api.ErrUse},
		{"a line, backwards by numbers", fun(1, api.Block{Edges: to(2)}, api.Block{Instrs: user}, api.Block{Instrs: maker, Edges: to(1)}), api.OK},
		{"a line, forwards by numbers", fun(1, api.Block{Edges: to(2)}, api.Block{Instrs: maker}, api.Block{Instrs: user, Edges: to(1)}), api.ErrUse},
	})
}

// P2.4
func TestUsesOfParams(t *testing.T) {
	maker := instrs(instr(def(0)))
	pair := func(block api.Block) api.Func {
		block.Params = []int{1}
		return fun(2, api.Block{Instrs: maker, Edges: with(1, 0)}, block)
	}
	early := fun(2, api.Block{Instrs: append(slices.Clone(maker), instr(use(1))), Edges: with(1, 0)}, api.Block{Params: []int{1}})
	checkRows(t, machine(), []row{
		{"by the first instruction", pair(api.Block{Instrs: instrs(instr(use(1)))}), api.OK},
		{"by a block behind", fun(2, api.Block{Instrs: maker, Edges: with(1, 0)}, api.Block{Params: []int{1}, Edges: to(2)}, api.Block{Instrs: instrs(instr(lateUse(1)))}), api.OK},
		{"by the block ahead", early, api.ErrUse},
		{"beside a block's own values", pair(api.Block{Instrs: instrs(instr(use(0), use(1)))}), api.OK},
	})
}

// P2.4
func TestUsesOfEdges(t *testing.T) {
	maker := instrs(instr(def(0)))
	param := []int{1}
	ring := func(body []api.Instr, arg int) api.Func {
		return fun(3, api.Block{Instrs: maker, Edges: with(1, 0)}, api.Block{Params: param, Edges: to(2)}, api.Block{Instrs: body, Edges: with(1, arg)})
	}
	body := instrs(instr(def(2)))
	side := func(arg int) api.Func {
		return fun(3, api.Block{Instrs: maker, Edges: to(1, 2)}, api.Block{Instrs: body, Edges: with(3, 2)}, api.Block{Edges: with(3, arg)}, api.Block{Params: param})
	}
	checkRows(t, machine(), []row{
		{"made by the last instruction", fun(2, api.Block{Instrs: append(instrs(instr()), maker...), Edges: with(1, 0)}, api.Block{Params: param}), api.OK},
		{"made by the block to which it leads", fun(2, api.Block{Edges: with(1, 0)}, api.Block{Params: param, Instrs: maker}), api.ErrUse},
		{"the param itself", fun(1, api.Block{Edges: with(1, 0)}, api.Block{Params: []int{0}}), api.ErrUse},
		{"the last of two args", fun(3, api.Block{Instrs: maker, Edges: with(1, 0, 1)}, api.Block{Params: []int{1, 2}}), api.ErrUse},
		{"from block to block", fun(2, api.Block{Instrs: maker, Edges: to(1)}, api.Block{Edges: with(2, 0)}, api.Block{Params: param}), api.OK},
		{"back: made by the last instruction", ring(body, 2), api.OK},
		{"back: the param itself", ring(body, 1), api.OK},
		{"back: made ahead of the loop", ring(body, 0), api.OK},
		{"to itself: its own param", fun(2, api.Block{Instrs: maker, Edges: with(1, 0)}, api.Block{Params: param, Edges: with(1, 1)}), api.OK},
		{"to itself: its own value", fun(3, api.Block{Instrs: maker, Edges: with(1, 0)}, api.Block{Params: param, Instrs: body, Edges: with(1, 2)}), api.OK},
		{"into the loop: made in it", fun(3, api.Block{Instrs: maker, Edges: with(1, 2)}, api.Block{Params: param, Instrs: body, Edges: with(1, 2)}), api.ErrUse},
		{"side by side: made ahead of both", side(0), api.OK},
		{"side by side: made on the other one", side(2), api.ErrUse},
		{"the second edge", fun(2, api.Block{Instrs: instrs(instr()), Edges: []api.Edge{{Block: 1}, {Block: 2, Args: []int{0}}}}, api.Block{Instrs: maker}, api.Block{Params: param}), api.ErrUse},
	})
}

type treeRow struct {
	name               string
	f                  api.Func
	order, idom, depth []int
}

func checkTrees(t *testing.T, rows []treeRow) {
	t.Helper()
	for _, r := range rows {
		got, e := flow.Dominators(r.f, machine())
		if e != api.OK {
			t.Errorf("%s: refused: %d", r.name, e)
			continue
		}
		for _, c := range []struct {
			what      string
			got, want []int
		}{{"Order", got.Order, r.order}, {"Idom", got.Idom, r.idom}, {"Depth", got.Depth, r.depth}} {
			if !slices.Equal(c.got, c.want) {
				t.Errorf("%s: %s: %v, want %v", r.name, c.what, c.got, c.want)
			}
		}
	}
}

// P2.3, P2.5
func TestOrderAndIdom(t *testing.T) {
	checkTrees(t, []treeRow{
		{"one block", web(nil), []int{0}, []int{-1}, []int{0}},
		{"a line", web([]int{1}, []int{2}, nil), []int{0, 1, 2}, []int{-1, 0, 1}, []int{0, 0, 0}},
		{"a line, backwards by numbers", web([]int{3}, nil, []int{1}, []int{2}), []int{0, 3, 2, 1}, []int{-1, 2, 3, 0}, []int{0, 0, 0, 0}},
		{"a fork that stays open", web([]int{1, 2}, nil, nil), []int{0, 2, 1}, []int{-1, 0, 0}, []int{0, 0, 0}},
		{"edges in their order", web([]int{2, 1}, nil, nil), []int{0, 1, 2}, []int{-1, 0, 0}, []int{0, 0, 0}},
		{"a fork", web([]int{1, 2}, []int{3}, []int{3}, nil), []int{0, 2, 1, 3}, []int{-1, 0, 0, 0}, []int{0, 0, 0, 0}},
		{"a fork of three", web([]int{3, 1, 2}, []int{4}, []int{4}, []int{4}, nil), []int{0, 2, 1, 3, 4}, []int{-1, 0, 0, 0, 0}, []int{0, 0, 0, 0, 0}},
		{"two forks, one behind the other", web([]int{1, 2}, []int{3}, []int{3}, []int{4, 5}, []int{6}, []int{6}, nil), []int{0, 2, 1, 3, 5, 4, 6}, []int{-1, 0, 0, 0, 3, 3, 3}, make([]int, 7)},
		{"a fork within a fork", web([]int{1, 2}, []int{3, 4}, []int{6}, []int{5}, []int{5}, []int{6}, nil), []int{0, 2, 1, 4, 3, 5, 6}, []int{-1, 0, 0, 1, 1, 1, 0}, make([]int, 7)},
		{"out of a fork within a fork", web([]int{1, 2}, []int{3, 4}, []int{5}, []int{5}, nil, nil), []int{0, 2, 1, 4, 3, 5}, []int{-1, 0, 0, 1, 1, 0}, make([]int, 6)},
	})
}

// P2.5: one round over the blocks does not find these.
func TestIdomOfRings(t *testing.T) {
	checkTrees(t, []treeRow{
		{"a ring with two ways in", web([]int{1, 2}, []int{3}, []int{4}, []int{4}, []int{3}), []int{0, 2, 1, 3, 4}, []int{-1, 0, 0, 0, 0}, []int{0, 0, 0, 0, 0}},
		{"two rings with two ways in", web([]int{1, 2}, []int{3}, []int{5}, []int{4}, []int{6, 7}, []int{8}, []int{3}, []int{5}, []int{9, 10}, []int{4}, nil),
			[]int{0, 2, 1, 3, 4, 7, 5, 8, 10, 9, 6}, []int{-1, 0, 0, 0, 0, 0, 4, 4, 5, 8, 8}, []int{0, 0, 0, 0, 0, 0, 0, 0, 0, 0, 0}},
	})
}

// P2.6
func TestDepth(t *testing.T) {
	checkTrees(t, []treeRow{
		{"an edge to itself", web([]int{1}, []int{1}), []int{0, 1}, []int{-1, 0}, []int{0, 1}},
		{"a loop", web([]int{1}, []int{2, 3}, []int{1}, nil), []int{0, 1, 3, 2}, []int{-1, 0, 1, 1}, []int{0, 1, 1, 0}},
		{"a loop without an end", web([]int{1}, []int{2}, []int{1}), []int{0, 1, 2}, []int{-1, 0, 1}, []int{0, 1, 1}},
		{"a loop with a fork", web([]int{1}, []int{2, 3}, []int{4}, []int{4}, []int{1}), []int{0, 1, 3, 2, 4}, []int{-1, 0, 1, 1, 1}, []int{0, 1, 1, 1, 1}},
		{"two edges back to one head: one loop", web([]int{1}, []int{2, 3, 4}, []int{1}, []int{1}, nil), []int{0, 1, 4, 3, 2}, []int{-1, 0, 1, 1, 1}, []int{0, 1, 1, 1, 0}},
		{"a loop in a loop", web([]int{1}, []int{2}, []int{3, 4}, []int{2}, []int{5, 6}, []int{1}, nil), []int{0, 1, 2, 4, 6, 5, 3}, []int{-1, 0, 1, 2, 2, 4, 4}, []int{0, 1, 2, 2, 1, 1, 0}},
		{"an edge to itself in a loop", web([]int{1}, []int{2, 3}, []int{4}, []int{1}, []int{4}), []int{0, 1, 3, 2, 4}, []int{-1, 0, 1, 1, 2}, []int{0, 1, 0, 1, 1}},
		{"a loop behind a loop", web([]int{1}, []int{2, 3}, []int{1}, []int{4}, []int{5, 6}, []int{4}, nil), []int{0, 1, 3, 4, 6, 5, 2}, []int{-1, 0, 1, 1, 3, 4, 4}, []int{0, 1, 1, 0, 1, 1, 0}},
		{"three loops in one another", web([]int{1}, []int{2}, []int{3}, []int{4, 5}, []int{3}, []int{6, 7}, []int{2}, []int{8, 9}, []int{1}, nil),
			[]int{0, 1, 2, 3, 5, 7, 9, 8, 6, 4}, []int{-1, 0, 1, 2, 3, 3, 5, 5, 7, 7}, []int{0, 1, 2, 3, 3, 2, 2, 1, 1, 0}},
		{"a ring with two ways in has no head", web([]int{1, 2}, []int{3}, []int{4}, []int{4}, []int{3}), []int{0, 2, 1, 3, 4}, []int{-1, 0, 0, 0, 0}, []int{0, 0, 0, 0, 0}},
		{"such a ring in a loop", web([]int{1}, []int{2, 3}, []int{4}, []int{5}, []int{5}, []int{6, 7}, []int{4}, []int{1}), []int{0, 1, 3, 2, 4, 5, 7, 6}, []int{-1, 0, 1, 1, 1, 1, 5, 5}, []int{0, 1, 1, 1, 1, 1, 1, 1}},
	})
}
