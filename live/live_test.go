package live_test

import (
	"fmt"
	"slices"
	"strings"
	"testing"

	"ostler/api"
	"ostler/live"
)

func machine() api.Machine { return api.Machine{Regs: [api.Classes]int{5, 4}} }

func use(v int) api.Operand {
	return api.Operand{Kind: api.Use, Value: v, Limit: api.Anywhere}
}

func lateUse(v int) api.Operand {
	return api.Operand{Kind: api.Use, Value: v, Late: true, Limit: api.Anywhere}
}

func def(v int) api.Operand {
	return api.Operand{Kind: api.Def, Value: v, Limit: api.Anywhere}
}

func lateDef(v int) api.Operand {
	return api.Operand{Kind: api.Def, Value: v, Late: true, Limit: api.Anywhere}
}

// reuse: a def where the operand n is.
func reuse(v, n int) api.Operand {
	return api.Operand{Kind: api.Def, Value: v, Late: true, Limit: api.Reuse, N: n}
}

func instr(l ...api.Operand) api.Instr { return api.Instr{Op: 1, Operands: l} }

func instrs(l ...api.Instr) []api.Instr { return l }

func params(l ...int) []int { return l }

// to: edges to blocks without params.
func to(l ...int) []api.Edge {
	var edges []api.Edge
	for _, b := range l {
		edges = append(edges, api.Edge{Block: b})
	}
	return edges
}

// with: the one edge to a block with params.
func with(block int, args ...int) []api.Edge {
	return []api.Edge{{Block: block, Args: args}}
}

// fun with so many values, all of class 0.
func fun(values int, blocks ...api.Block) api.Func {
	return api.Func{Values: make([]int, values), Blocks: blocks}
}

// flat text of an answer; an empty list may be nil or not.
func flat(l ...any) string { return strings.ReplaceAll(fmt.Sprint(l...), "<nil>", "[]") }

// line: one block of these instructions.
func line(values int, l ...api.Instr) api.Func { return fun(values, api.Block{Instrs: l}) }

// ring: what is made in the first block is read in the second one, round which a loop goes by the third one.
func ring() api.Func {
	return fun(2,
		api.Block{Instrs: instrs(instr(lateDef(0))), Edges: to(1)},
		api.Block{Instrs: instrs(instr(use(0)), instr(lateDef(1))), Edges: to(2, 3)},
		api.Block{Edges: to(1)},
		api.Block{Instrs: instrs(instr(use(1)))},
	)
}

// P3.1
func TestSets(t *testing.T) {
	made := instrs(instr(lateDef(0)))
	both := instrs(instr(lateDef(0)), instr(lateDef(1)))
	for _, c := range []struct {
		name    string
		f       api.Func
		in, out string
	}{
		{"a block without anything", fun(0, api.Block{}), "[[]]", "[[]]"},
		{"made and read in one block", line(1, instr(lateDef(0)), instr(use(0))), "[[]]", "[[]]"},
		{"read behind an edge", fun(1, api.Block{Instrs: made, Edges: to(1)}, api.Block{Instrs: instrs(instr(use(0)))}), "[[] [0]]", "[[0] []]"},
		{"read late behind an edge", fun(1, api.Block{Instrs: made, Edges: to(1)}, api.Block{Instrs: instrs(instr(lateUse(0)))}), "[[] [0]]", "[[0] []]"},
		{"read by nobody", fun(1, api.Block{Instrs: made, Edges: to(1)}, api.Block{}), "[[] []]", "[[] []]"},
		{"through a block that has nothing to do with it", fun(1, api.Block{Instrs: made, Edges: to(1)}, api.Block{Edges: to(2)}, api.Block{Instrs: instrs(instr(use(0)))}), "[[] [0] [0]]", "[[0] [0] []]"},
		{"backwards through blocks", fun(1, api.Block{Instrs: made, Edges: to(3)}, api.Block{Instrs: instrs(instr(use(0)))}, api.Block{Edges: to(1)}, api.Block{Edges: to(2)}), "[[] [0] [0] [0]]", "[[0] [] [0] [0]]"},
		{"an arg is needed at the end, its param nowhere", fun(2, api.Block{Instrs: made, Edges: with(1, 0)}, api.Block{Params: params(1)}), "[[] []]", "[[0] []]"},
		{"an arg of a block that does not make it", fun(2, api.Block{Instrs: made, Edges: to(1)}, api.Block{Edges: with(2, 0)}, api.Block{Params: params(1)}), "[[] [0] []]", "[[0] [0] []]"},
		{"a param is made where it is one", fun(2, api.Block{Instrs: made, Edges: with(1, 0)}, api.Block{Params: params(1), Instrs: instrs(instr(use(1)))}), "[[] []]", "[[0] []]"},
		{"a param that is handed on", fun(3, api.Block{Instrs: made, Edges: with(1, 0)}, api.Block{Params: params(1), Edges: with(2, 1)}, api.Block{Params: params(2)}), "[[] [] []]", "[[0] [1] []]"},
		{"a param that is read behind its block", fun(2, api.Block{Instrs: made, Edges: with(1, 0)}, api.Block{Params: params(1), Edges: to(2)}, api.Block{Instrs: instrs(instr(use(1)))}), "[[] [] [1]]", "[[0] [1] []]"},
		{"an arg that is read behind the edge too", fun(2, api.Block{Instrs: made, Edges: with(1, 0)}, api.Block{Params: params(1), Instrs: instrs(instr(use(0)))}), "[[] [0]]", "[[0] []]"},
		{"an arg that is handed on twice", fun(3, api.Block{Instrs: made, Edges: with(1, 0, 0)}, api.Block{Params: params(1, 2)}), "[[] []]", "[[0] []]"},
		{"by one edge of two", fun(1, api.Block{Instrs: made, Edges: to(1, 2)}, api.Block{}, api.Block{Instrs: instrs(instr(use(0)))}), "[[] [] [0]]", "[[0] [] []]"},
		{"each edge needs another one", fun(2, api.Block{Instrs: both, Edges: to(1, 2)}, api.Block{Instrs: instrs(instr(use(1)))}, api.Block{Instrs: instrs(instr(use(0)))}), "[[] [1] [0]]", "[[0 1] [] []]"},
		{"by their numbers, however they are read", fun(2, api.Block{Instrs: both, Edges: to(1)}, api.Block{Instrs: instrs(instr(use(1), use(0), use(1)))}), "[[] [0 1]]", "[[0 1] []]"},
		{"a loop needs it all the way round", ring(), "[[] [0] [0] [1]]", "[[0] [0 1] [0] []]"},
		{"a loop of one block that hands on what it makes", fun(3, api.Block{Instrs: made, Edges: with(1, 0)}, api.Block{Params: params(1), Instrs: instrs(instr(use(1), lateDef(2))), Edges: with(1, 2)}), "[[] []]", "[[0] [2]]"},
		{"a loop of one block that hands on what it was given", fun(2, api.Block{Instrs: made, Edges: with(1, 0)}, api.Block{Params: params(1), Edges: with(1, 0)}), "[[] [0]]", "[[0] [0]]"},
	} {
		got, e := live.Sets(c.f, machine())
		if e != api.OK || flat(got.In) != c.in || flat(got.Out) != c.out {
			t.Errorf("%s: %v %d, want {%s %s}", c.name, got, e, c.in, c.out)
		}
	}
}

// P3.2
func TestStarts(t *testing.T) {
	blocks := func(sizes ...int) api.Func {
		var f api.Func
		for _, n := range sizes {
			f.Blocks = append(f.Blocks, api.Block{Instrs: make([]api.Instr, n)})
		}
		return f
	}
	bad := blocks(1, 0)
	bad.Values = []int{-5, 1 << 40}
	bad.Blocks[0].Params = []int{-1, 7}
	bad.Blocks[1].Edges = []api.Edge{{Block: -3}, {Block: 1 << 40, Args: []int{-1}}}
	for _, c := range []struct {
		name string
		f    api.Func
		want []int
	}{
		{"no blocks", api.Func{}, []int{0}},
		{"a block without anything", blocks(0), []int{0, 2}},
		{"one instruction", blocks(1), []int{0, 4}},
		{"two instructions", blocks(2), []int{0, 6}},
		{"blocks", blocks(2, 0, 1, 3), []int{0, 6, 8, 12, 20}},
		{"a loop", ring(), []int{0, 4, 10, 12, 16}},
		{"as many instructions as may be, and more", blocks(api.MaxInstrs, api.MaxInstrs+1), []int{0, 82, 166}},
		{"one that may not be", bad, []int{0, 4, 6}},
	} {
		if got := live.Starts(c.f); !slices.Equal(got, c.want) {
			t.Errorf("%s: %v, want %v", c.name, got, c.want)
		}
	}
	many := live.Starts(blocks(make([]int, 100000)...))
	if len(many) != 100001 || many[100000] != 200000 {
		t.Errorf("many blocks: %d starts, the last one %d", len(many), many[len(many)-1])
	}
}

// P3.3
func TestSpans(t *testing.T) {
	made := instrs(instr(lateDef(0)))
	for _, c := range []struct {
		name string
		f    api.Func
		want string
	}{
		{"a block without anything", fun(0, api.Block{}), "[]"},
		{"a late def that nobody reads", line(1, instr(lateDef(0))), "[[{2 3}]]"},
		{"an early def that nobody reads", line(1, instr(def(0))), "[[{1 3}]]"},
		{"a late def, and a use", line(1, instr(lateDef(0)), instr(use(0))), "[[{2 4}]]"},
		{"a late def, and a late use", line(1, instr(lateDef(0)), instr(lateUse(0))), "[[{2 5}]]"},
		{"an early def, and a use", line(1, instr(def(0)), instr(use(0))), "[[{1 4}]]"},
		{"an early def, and a late use", line(1, instr(def(0)), instr(lateUse(0))), "[[{1 5}]]"},
		{"a late use and an early one of one instruction", line(1, instr(lateDef(0)), instr(lateUse(0), use(0))), "[[{2 5}]]"},
		{"an early use and a late one of one instruction", line(1, instr(lateDef(0)), instr(use(0), lateUse(0))), "[[{2 5}]]"},
		{"a late use, and an early one behind it", line(1, instr(lateDef(0)), instr(lateUse(0)), instr(), instr(use(0)), instr()), "[[{2 8}]]"},
		{"instructions ahead", line(1, instr(), instr(), instr(lateDef(0)), instr(), instr(use(0))), "[[{6 10}]]"},
		{"one is used up where another one is made", line(2, instr(lateDef(0)), instr(use(0), lateDef(1))), "[[{2 4}] [{4 5}]]"},
		{"one is used up where another one is made early", line(2, instr(lateDef(0)), instr(use(0), def(1))), "[[{2 4}] [{3 5}]]"},
		{"a reuse", line(2, instr(lateDef(0)), instr(use(0), reuse(1, 0)), instr(use(1))), "[[{2 4}] [{4 6}]]"},
		{"two of one instruction", line(2, instr(lateDef(0), def(1)), instr(use(0), lateUse(1))), "[[{2 4}] [{1 5}]]"},

		{"on to the next block: one span", fun(1, api.Block{Instrs: made, Edges: to(1)}, api.Block{Instrs: instrs(instr(use(0)))}), "[[{2 6}]]"},
		{"through a block: one span", fun(1, api.Block{Instrs: made, Edges: to(1)}, api.Block{Edges: to(2)}, api.Block{Instrs: instrs(instr(lateUse(0)))}), "[[{2 9}]]"},
		{"over a block: two spans", fun(1, api.Block{Instrs: made, Edges: to(1, 2)}, api.Block{Instrs: instrs(instr())}, api.Block{Instrs: instrs(instr(use(0)), instr())}), "[[{2 4} {8 10}]]"},
		{"a block ahead of where it is made", fun(1, api.Block{Edges: to(2)}, api.Block{Instrs: instrs(instr(use(0)))}, api.Block{Instrs: instrs(instr(), instr(def(0))), Edges: to(1)}), "[[{2 4} {9 12}]]"},
		{"an arg: up to the end", fun(2, api.Block{Instrs: instrs(instr(lateDef(0)), instr(use(0)), instr()), Edges: with(1, 0)}, api.Block{Params: params(1)}), "[[{2 8}] [{8 9}]]"},
		{"an arg of a block without instructions", fun(2, api.Block{Instrs: made, Edges: to(1)}, api.Block{Edges: with(2, 0)}, api.Block{Params: params(1)}), "[[{2 6}] [{6 7}]]"},
		{"a param that is read", fun(2, api.Block{Instrs: made, Edges: with(1, 0)}, api.Block{Params: params(1), Instrs: instrs(instr(), instr(use(1)))}), "[[{2 4}] [{4 8}]]"},
		{"a param that is handed on", fun(3, api.Block{Instrs: made, Edges: with(1, 0)}, api.Block{Params: params(1), Instrs: instrs(instr()), Edges: with(2, 1)}, api.Block{Params: params(2)}), "[[{2 4}] [{4 8}] [{8 9}]]"},
		{"a gap behind the last use: two spans", fun(1, api.Block{Instrs: made, Edges: to(1, 2)}, api.Block{Instrs: instrs(instr(use(0))), Edges: to(3)}, api.Block{Instrs: instrs(instr(lateUse(0)))}, api.Block{}), "[[{2 6} {8 11}]]"},
		{"spans that meet are one, though no edge leads from block to block", fun(1, api.Block{Instrs: made, Edges: to(2, 1)}, api.Block{Edges: to(3)}, api.Block{Instrs: instrs(instr(use(0)))}, api.Block{Instrs: instrs(instr(use(0)))}), "[[{2 8} {10 12}]]"},
		{"a loop needs it all the way round", ring(), "[[{2 12}] [{8 10} {12 14}]]"},
		{"a loop of one block that hands on what it makes", fun(3, api.Block{Instrs: made, Edges: with(1, 0)}, api.Block{Params: params(1), Instrs: instrs(instr(use(1), lateDef(2))), Edges: with(1, 2)}), "[[{2 4}] [{4 6}] [{6 8}]]"},
		{"each value has its list", line(3, instr(lateDef(2)), instr(lateDef(0)), instr(lateDef(1), use(2))), "[[{4 5}] [{6 7}] [{2 6}]]"},
	} {
		if got, e := live.Spans(c.f, machine()); e != api.OK || flat(got) != c.want {
			t.Errorf("%s: %v %d, want %s", c.name, got, e, c.want)
		}
	}
}

// P3.1, P3.3: what flow's Check refuses, with nothing else; P3.2 refuses nothing.
func TestRefused(t *testing.T) {
	class := line(1, instr(def(0)))
	class.Values[0] = 2
	fork := api.Block{Instrs: instrs(instr()), Edges: to(1, 2)}
	for _, c := range []struct {
		name string
		f    api.Func
		want api.Errno
	}{
		{"no blocks", api.Func{}, api.ErrSize},
		{"too many blocks", fun(0, make([]api.Block, api.MaxBlocks+1)...), api.ErrSize},
		{"a class that is none", class, api.ErrClass},
		{"no such value", line(1, instr(def(0)), instr(use(1))), api.ErrRange},
		{"no such value, by far", line(1, instr(def(0)), instr(use(-1<<63))), api.ErrRange},
		{"made twice", line(1, instr(def(0)), instr(def(0))), api.ErrTwice},
		{"not made", line(1, instr(use(0))), api.ErrNone},
		{"an edge to no block", fun(0, api.Block{Edges: to(1)}), api.ErrNone},
		{"a block to which nothing comes", fun(0, api.Block{}, api.Block{}), api.ErrDead},
		{"an edge from many to many", fun(0, fork, api.Block{Edges: to(2)}, api.Block{}), api.ErrEdge},
		{"used ahead of where it is made", line(1, instr(use(0)), instr(def(0))), api.ErrUse},
		{"used by what makes it", line(1, instr(def(0), lateUse(0))), api.ErrUse},
	} {
		sets, e := live.Sets(c.f, machine())
		if e != c.want || len(sets.In)+len(sets.Out) > 0 {
			t.Errorf("%s: Sets: %v %d, want %d", c.name, sets, e, c.want)
		}
		spans, e := live.Spans(c.f, machine())
		if e != c.want || len(spans) > 0 {
			t.Errorf("%s: Spans: %v %d, want %d", c.name, spans, e, c.want)
		}
	}
	none := api.Machine{Regs: [api.Classes]int{4, 1}}
	if sets, e := live.Sets(ring(), none); e != api.ErrRange || len(sets.In)+len(sets.Out) > 0 {
		t.Errorf("no machine: Sets: %v %d", sets, e)
	}
	if spans, e := live.Spans(ring(), none); e != api.ErrRange || len(spans) > 0 {
		t.Errorf("no machine: Spans: %v %d", spans, e)
	}
}
