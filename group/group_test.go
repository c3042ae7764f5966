package group_test

import (
	"slices"
	"testing"

	"ostler/api"
	"ostler/group"
)

func machine() api.Machine { return api.Machine{Regs: [api.Classes]int{5, 4}} }

func use(v int) api.Operand {
	return api.Operand{Kind: api.Use, Value: v, Limit: api.Anywhere}
}

func lateUse(v int) api.Operand {
	return api.Operand{Kind: api.Use, Value: v, Late: true, Limit: api.Anywhere}
}

func def(v int) api.Operand {
	return api.Operand{Kind: api.Def, Value: v, Limit: api.Anywhere}
}

func lateDef(v int) api.Operand {
	return api.Operand{Kind: api.Def, Value: v, Late: true, Limit: api.Anywhere}
}

// reuse: a def where the operand n is.
func reuse(v, n int) api.Operand {
	return api.Operand{Kind: api.Def, Value: v, Late: true, Limit: api.Reuse, N: n}
}

// fixed: an operand that must be in the register n.
func fixed(o api.Operand, n int) api.Operand {
	o.Limit, o.N = api.Fixed, n
	return o
}

func instr(l ...api.Operand) api.Instr { return api.Instr{Op: 1, Operands: l} }

func instrs(l ...api.Instr) []api.Instr { return l }

func params(l ...int) []int { return l }

// to: an edge to a block, with args.
func to(block int, args ...int) api.Edge { return api.Edge{Block: block, Args: args} }

func edges(l ...api.Edge) []api.Edge { return l }

// fun with so many values, all of class 0.
func fun(values int, blocks ...api.Block) api.Func {
	return api.Func{Values: make([]int, values), Blocks: blocks}
}

// line: one block of these instructions.
func line(values int, l ...api.Instr) api.Func { return fun(values, api.Block{Instrs: l}) }

// row: a function, and its groups.
type row struct {
	name string
	f    api.Func
	want []int
}

func check(t *testing.T, rows []row) {
	t.Helper()
	for _, c := range rows {
		if got, e := group.Groups(c.f, machine()); e != api.OK || !slices.Equal(got, c.want) {
			t.Errorf("%s: %v %d, want %v", c.name, got, e, c.want)
		}
	}
}

// P8.1: what is not handed on and not reused is a group of its own.
func TestAlone(t *testing.T) {
	check(t, []row{
		{"no values", fun(0, api.Block{}), nil},
		{"one value", line(1, instr(lateDef(0))), []int{0}},
		{"one behind the other", line(2, instr(lateDef(0)), instr(use(0)), instr(lateDef(1)), instr(use(1))), []int{0, 1}},
		{"one used up where the other one is made", line(2, instr(lateDef(0)), instr(use(0), lateDef(1)), instr(use(1))), []int{0, 1}},
		{"in one register, one behind the other", line(2, instr(fixed(lateDef(0), 1)), instr(fixed(use(0), 1)), instr(fixed(lateDef(1), 1)), instr(fixed(use(1), 1))), []int{0, 1}},
		{"made where an operand of that place might be named", line(3, instr(lateDef(0), lateDef(1)), instr(use(0), use(1), fixed(lateDef(2), 1))), []int{0, 1, 2}},
	})
}

// P8.1: each Reuse, and the operand that it names.
func TestReuses(t *testing.T) {
	both := instr(lateDef(0), lateDef(1))
	classes := line(4, both, instr(use(0), use(1), reuse(2, 1), reuse(3, 0)))
	classes.Values = []int{1, 0, 0, 1}
	check(t, []row{
		{"used up", line(2, instr(lateDef(0)), instr(use(0), reuse(1, 0)), instr(use(1))), []int{0, 0}},
		{"the least one is the one that is made", line(2, instr(lateDef(1)), instr(use(1), reuse(0, 0)), instr(use(0))), []int{0, 0}},
		{"made, and read by nobody", line(2, instr(lateDef(0)), instr(use(0), reuse(1, 0))), []int{0, 0}},
		{"needed behind", line(2, instr(lateDef(0)), instr(use(0), reuse(1, 0)), instr(use(0))), []int{0, 1}},
		{"needed behind, the least one is the one that is made", line(2, instr(lateDef(1)), instr(use(1), reuse(0, 0)), instr(use(1))), []int{0, 1}},
		{"needed late", line(2, instr(lateDef(0)), instr(use(0), lateUse(0), reuse(1, 0))), []int{0, 1}},
		{"needed by an edge", fun(3, api.Block{Instrs: instrs(instr(lateDef(0)), instr(use(0), reuse(1, 0))), Edges: edges(to(1, 0))}, api.Block{Params: params(2)}), []int{0, 1, 0}},
		{"ahead of the operand that it names", line(2, instr(lateDef(0)), instr(reuse(1, 1), use(0))), []int{0, 0}},
		{"of an operand that is not the first", line(3, both, instr(use(0), use(1), reuse(2, 1))), []int{0, 1, 1}},
		{"two in one instruction, crosswise", line(4, both, instr(use(0), use(1), reuse(2, 1), reuse(3, 0))), []int{0, 1, 1, 0}},
		{"of two classes", classes, []int{0, 1, 1, 0}},
		{"two of one value: the first one", line(3, instr(lateDef(0)), instr(use(0), use(0), reuse(1, 0), reuse(2, 1))), []int{0, 0, 2}},
		{"two of one value: the first operand, not the least value", line(3, instr(lateDef(0)), instr(use(0), use(0), reuse(2, 0), reuse(1, 1))), []int{0, 1, 0}},
		{"two of one value: the first operand, whatever it names", line(3, instr(lateDef(0)), instr(use(0), use(0), reuse(1, 1), reuse(2, 0))), []int{0, 0, 2}},
		{"one behind the other", line(3, instr(lateDef(0)), instr(use(0), reuse(1, 0)), instr(use(1), reuse(2, 0)), instr(use(2))), []int{0, 0, 0}},
		{"one behind the other, by falling numbers", line(3, instr(lateDef(2)), instr(use(2), reuse(1, 0)), instr(use(1), reuse(0, 0)), instr(use(0))), []int{0, 0, 0}},
		{"one between others that need it behind", line(4, instr(lateDef(0)), instr(use(0), reuse(1, 0)), instr(use(1), reuse(2, 0)), instr(use(2), use(1), reuse(3, 0))), []int{0, 0, 2, 2}},
	})
}

// P8.1: each param, and its Arg.
func TestArgs(t *testing.T) {
	made := instrs(instr(lateDef(0)))
	classes := fun(4, api.Block{Instrs: instrs(instr(lateDef(0), lateDef(1))), Edges: edges(to(1, 0, 1))}, api.Block{Params: params(2, 3)})
	classes.Values = []int{1, 0, 1, 0}
	check(t, []row{
		{"handed on", fun(2, api.Block{Instrs: made, Edges: edges(to(1, 0))}, api.Block{Params: params(1), Instrs: instrs(instr(use(1)))}), []int{0, 0}},
		{"handed on, and read by nobody", fun(2, api.Block{Instrs: made, Edges: edges(to(1, 0))}, api.Block{Params: params(1)}), []int{0, 0}},
		{"the least one is the param", fun(2, api.Block{Instrs: instrs(instr(lateDef(1))), Edges: edges(to(1, 1))}, api.Block{Params: params(0)}), []int{0, 0}},
		{"read behind the edge, too", fun(2, api.Block{Instrs: made, Edges: edges(to(1, 0))}, api.Block{Params: params(1), Instrs: instrs(instr(use(0)))}), []int{0, 1}},
		{"two of two", fun(4, api.Block{Instrs: instrs(instr(lateDef(0), lateDef(1))), Edges: edges(to(1, 1, 0))}, api.Block{Params: params(2, 3)}), []int{0, 1, 1, 0}},
		{"of two classes", classes, []int{0, 1, 0, 1}},
		{"to two params: the first one", fun(3, api.Block{Instrs: made, Edges: edges(to(1, 0, 0))}, api.Block{Params: params(1, 2)}), []int{0, 0, 2}},
		{"to two params: the first one, not the least value", fun(3, api.Block{Instrs: made, Edges: edges(to(1, 0, 0))}, api.Block{Params: params(2, 1)}), []int{0, 1, 0}},
		{"through blocks without instructions", fun(3, api.Block{Instrs: made, Edges: edges(to(2, 0))}, api.Block{Params: params(1)}, api.Block{Params: params(2), Edges: edges(to(1, 2))}), []int{0, 0, 0}},
		{"by both edges of a fork", fun(3, api.Block{Instrs: made, Edges: edges(to(1, 0), to(2, 0))}, api.Block{Params: params(1)}, api.Block{Params: params(2)}), []int{0, 0, 0}},
		{"by one edge of a fork, read behind the other one", fun(2, api.Block{Instrs: made, Edges: edges(to(1, 0), to(2))}, api.Block{Params: params(1)}, api.Block{Instrs: instrs(instr(use(0)))}), []int{0, 0}},
		{"where two edges meet", fun(4,
			api.Block{Instrs: made, Edges: edges(to(1), to(2))},
			api.Block{Instrs: instrs(instr(lateDef(1))), Edges: edges(to(3, 1))},
			api.Block{Instrs: instrs(instr(lateDef(2))), Edges: edges(to(3, 2))},
			api.Block{Params: params(3)}), []int{0, 1, 1, 1}},
		{"where two edges meet that hand on two that are needed at once: the first one", fun(3,
			api.Block{Instrs: instrs(instr(lateDef(0), lateDef(1))), Edges: edges(to(1), to(2))},
			api.Block{Edges: edges(to(3, 0))},
			api.Block{Edges: edges(to(3, 1))},
			api.Block{Params: params(2)}), []int{0, 1, 0}},
	})
}

// ring: the first block makes 0, the second one, which has the param 1, makes 2 of it and hands that on to itself.
func ring(l ...api.Instr) api.Func {
	return fun(3, api.Block{Instrs: instrs(instr(lateDef(0))), Edges: edges(to(1, 0))}, api.Block{Params: params(1), Instrs: l, Edges: edges(to(1, 2))})
}

// P8.1: loops that hand on their values.
func TestLoops(t *testing.T) {
	turn := func(l ...int) api.Func {
		return fun(4, api.Block{Instrs: instrs(instr(lateDef(0), lateDef(1))), Edges: edges(to(1, 0, 1))}, api.Block{Params: params(2, 3), Edges: edges(to(1, l...))})
	}
	check(t, []row{
		{"all one", ring(instr(use(1), lateDef(2))), []int{0, 0, 0}},
		{"by a reuse and an edge", ring(instr(use(1), reuse(2, 0))), []int{0, 0, 0}},
		{"made where the old one is needed late", ring(instr(lateUse(1), lateDef(2))), []int{0, 0, 2}},
		{"made ahead of where the old one is read", ring(instr(lateDef(2)), instr(use(1))), []int{0, 0, 2}},
		{"made early", ring(instr(use(1), def(2))), []int{0, 0, 2}},
		{"begun with what is read in the loop", ring(instr(use(0), lateDef(2))), []int{0, 1, 1}},
		{"handed on to itself: one already", turn(2, 3), []int{0, 1, 0, 1}},
		{"handed on crosswise", turn(3, 2), []int{0, 1, 0, 1}},
		{"one to both", turn(2, 2), []int{0, 1, 0, 1}},
		{"always begun anew", turn(0, 0), []int{0, 1, 2, 1}},
		{"through a fork", fun(4,
			api.Block{Instrs: instrs(instr(lateDef(0))), Edges: edges(to(1, 0))},
			api.Block{Params: params(1), Instrs: instrs(instr(use(1))), Edges: edges(to(2, 1), to(3))},
			api.Block{Params: params(2), Instrs: instrs(instr(use(2), lateDef(3))), Edges: edges(to(1, 3))},
			api.Block{Instrs: instrs(instr(use(1)))}), []int{0, 0, 0, 0}},
	})
}

// P8.1: whole groups become one, or none of them does.
func TestWholeGroups(t *testing.T) {
	check(t, []row{
		{"two of two", fun(4,
			api.Block{Instrs: instrs(instr(lateDef(3)), instr(use(3), reuse(1, 0))), Edges: edges(to(2))},
			api.Block{Params: params(2), Instrs: instrs(instr(use(2), reuse(0, 0)))},
			api.Block{Edges: edges(to(1, 1))}), []int{0, 0, 0, 0}},
		{"two that could be one, but for another one of theirs", fun(4,
			api.Block{Instrs: instrs(instr(lateDef(3))), Edges: edges(to(1, 3))},
			api.Block{Params: params(2), Instrs: instrs(instr(lateDef(0)), instr(use(0), use(2), reuse(1, 0))), Edges: edges(to(1, 1))}), []int{0, 0, 2, 2}},
		{"spans of the one between those of the other one", fun(2,
			api.Block{Instrs: instrs(instr(lateDef(0))), Edges: edges(to(2))},
			api.Block{Params: params(1), Edges: edges(to(3))},
			api.Block{Edges: edges(to(1, 0))},
			api.Block{Instrs: instrs(instr(use(1)))}), []int{0, 0}},
	})
}

// P8.1: in which order groups become one.
func TestOrder(t *testing.T) {
	// 0 is made and used up, where the block's param 2 is needed, and becomes 1, which is handed on to be 2 again: 0 and 2 can't both be one with 1.
	turned := instrs(instr(lateDef(0)), instr(use(0), use(2), reuse(1, 0)))
	begun := instrs(instr(lateDef(3)))
	// The params 3 and 4 are needed at once; 1 is one with 3, and 2 with 4, when 0 is handed on to 1 and to 2.
	fork := func(l ...api.Edge) api.Func {
		return fun(7,
			api.Block{Instrs: instrs(instr(lateDef(5), lateDef(6))), Edges: edges(to(3, 5, 6))},
			api.Block{Params: params(1), Edges: edges(to(3, 1, 6))},
			api.Block{Params: params(2), Edges: edges(to(3, 5, 2))},
			api.Block{Params: params(3, 4), Instrs: instrs(instr(lateDef(0))), Edges: l})
	}
	check(t, []row{
		{"reuses ahead of edges", fun(4,
			api.Block{Instrs: begun, Edges: edges(to(1, 3))},
			api.Block{Params: params(2), Instrs: turned, Edges: edges(to(1, 1))}), []int{0, 0, 2, 2}},
		{"edges of a block ahead of reuses of a later one", fun(4,
			api.Block{Instrs: begun, Edges: edges(to(2, 3))},
			api.Block{Edges: edges(to(2, 1))},
			api.Block{Params: params(2), Instrs: turned, Edges: edges(to(1))}), []int{0, 1, 1, 1}},
		{"edge by edge", fork(to(1, 0), to(2, 0)), []int{0, 0, 2, 0, 2, 5, 6}},
		{"edge by edge, the other way round", fork(to(2, 0), to(1, 0)), []int{0, 1, 0, 1, 0, 5, 6}},
		// Here 0 is one with 3, and 2 with 4, when 0 becomes 1, and that becomes 2.
		{"instruction by instruction", fun(7,
			api.Block{Instrs: instrs(instr(lateDef(0), lateDef(5), lateDef(6))), Edges: edges(to(1), to(4))},
			api.Block{Edges: edges(to(3, 0, 5))},
			api.Block{Edges: edges(to(3, 6, 2))},
			api.Block{Params: params(3, 4)},
			api.Block{Instrs: instrs(instr(use(0), reuse(1, 0)), instr(use(1), reuse(2, 0))), Edges: edges(to(2))}), []int{0, 0, 2, 0, 2, 2, 6}},
	})
}

// P8.1: what flow's Check refuses, with nothing else.
func TestRefused(t *testing.T) {
	class := line(1, instr(def(0)))
	class.Values[0] = 2
	classes := line(2, instr(lateDef(0)), instr(use(0), reuse(1, 0)))
	classes.Values[1] = 1
	handed := fun(2, api.Block{Instrs: instrs(instr(lateDef(0))), Edges: edges(to(1, 0))}, api.Block{Params: params(1)})
	handed.Values[1] = 1
	fork := api.Block{Instrs: instrs(instr()), Edges: edges(to(1), to(2))}
	for _, c := range []struct {
		name string
		f    api.Func
		want api.Errno
	}{
		{"no blocks", api.Func{}, api.ErrSize},
		{"too many blocks", fun(0, make([]api.Block, api.MaxBlocks+1)...), api.ErrSize},
		{"too many values", fun(api.MaxValues+1, api.Block{}), api.ErrSize},
		{"a class that is none", class, api.ErrClass},
		{"a reuse of another class", classes, api.ErrClass},
		{"an arg of another class", handed, api.ErrClass},
		{"a reuse of no operand", line(2, instr(lateDef(0)), instr(use(0), reuse(1, 2))), api.ErrNone},
		{"a reuse of no operand, by far", line(2, instr(lateDef(0)), instr(use(0), reuse(1, -1<<63))), api.ErrNone},
		{"a reuse of a def", line(2, instr(lateDef(0), reuse(1, 0))), api.ErrForm},
		{"a reuse of itself", line(1, instr(reuse(0, 0))), api.ErrForm},
		{"a reuse of a late use", line(2, instr(lateDef(0)), instr(lateUse(0), reuse(1, 0))), api.ErrForm},
		{"two reuses of one operand", line(3, instr(lateDef(0)), instr(use(0), reuse(1, 0), reuse(2, 0))), api.ErrClash},
		{"no such value", line(1, instr(def(0)), instr(use(1))), api.ErrRange},
		{"made twice", line(1, instr(def(0)), instr(def(0))), api.ErrTwice},
		{"not made", line(1, instr(use(0))), api.ErrNone},
		{"an edge to no block", fun(0, api.Block{Edges: edges(to(1))}), api.ErrNone},
		{"an arg, and no param", fun(1, api.Block{Instrs: instrs(instr(def(0))), Edges: edges(to(1, 0))}, api.Block{}), api.ErrForm},
		{"a param, and no arg", fun(1, api.Block{Edges: edges(to(1))}, api.Block{Params: params(0)}), api.ErrForm},
		{"a block to which nothing comes", fun(0, api.Block{}, api.Block{}), api.ErrDead},
		{"an edge from many to many", fun(0, fork, api.Block{Edges: edges(to(2))}, api.Block{}), api.ErrEdge},
		{"used ahead of where it is made", line(1, instr(use(0)), instr(def(0))), api.ErrUse},
		{"a reuse of what is not made ahead", line(2, instr(use(0), reuse(1, 0)), instr(def(0))), api.ErrUse},
	} {
		if got, e := group.Groups(c.f, machine()); e != c.want || len(got) > 0 {
			t.Errorf("%s: %v %d, want %d", c.name, got, e, c.want)
		}
	}
	for _, m := range []api.Machine{{}, {Regs: [api.Classes]int{4, 1}}, {Regs: [api.Classes]int{api.MaxRegs + 1, 4}}} {
		if got, e := group.Groups(ring(instr(use(1), lateDef(2))), m); e != api.ErrRange || len(got) > 0 {
			t.Errorf("%v: %v %d", m, got, e)
		}
	}
}

// chain of as many values as there may be, each but the last one reused by the next one, or read once more behind that; by falling numbers.
func chain(again bool) api.Func {
	const last = api.MaxValues - 1
	f := fun(api.MaxValues)
	for at := range api.MaxAll {
		x := instr(lateDef(last))
		if at > 0 {
			x = instr(use(last+1-at), reuse(last-at, 0))
		}
		if again && at > 1 {
			x.Operands = append(x.Operands, use(last+2-at))
		}
		if at%api.MaxInstrs == 0 {
			f.Blocks = append(f.Blocks, api.Block{Edges: edges(to(len(f.Blocks) + 1))})
		}
		b := &f.Blocks[len(f.Blocks)-1]
		b.Instrs = append(b.Instrs, x)
	}
	f.Blocks[len(f.Blocks)-1].Edges = nil
	return f
}

// P8.1: as many values as there may be, all in one group, or each in its own.
func TestFull(t *testing.T) {
	own := make([]int, api.MaxValues)
	for v := range own {
		own[v] = v
	}
	// The last value of the chain is read by nobody, the one ahead of it once.
	apart := slices.Clone(own)
	apart[1] = 0
	check(t, []row{
		{"all one", chain(false), make([]int, api.MaxValues)},
		{"but the last two none", chain(true), apart},
	})
}
