package claim_test

import (
	"slices"
	"testing"

	"ostler/api"
	"ostler/claim"
)

// bill: a function, and what its values cost.
type bill struct {
	name string
	f    api.Func
	want []int
}

func checkPrices(t *testing.T, bills []bill) {
	t.Helper()
	for _, c := range bills {
		if got, e := claim.Prices(c.f, machine()); e != api.OK || !slices.Equal(got, c.want) {
			t.Errorf("%s: %v %d, want %v", c.name, got, e, c.want)
		}
	}
}

// P9.2: outside of loops each time that a value stands somewhere is one.
func TestPrices(t *testing.T) {
	made := instrs(instr(lateDef(0)))
	checkPrices(t, []bill{
		{"no values", fun(0, api.Block{}), nil},
		{"made, and read by nobody", line(1, instr(lateDef(0))), []int{1}},
		{"made and read", line(1, instr(lateDef(0)), instr(use(0))), []int{2}},
		{"read late, too", line(1, instr(def(0)), instr(use(0), lateUse(0))), []int{3}},
		{"the same operand again", line(1, instr(lateDef(0)), instr(fixed(use(0), 1), fixed(use(0), 1))), []int{3}},
		{"whatever the limit is", line(3, instr(lateDef(0)), instr(in(api.Register, use(0)), in(api.Stack, use(0)), fixed(use(0), 1)), instr(fixed(lateDef(1), 2), in(api.Stack, def(2)))), []int{4, 1, 1}},
		{"whatever the class is", classes(line(2, instr(lateDef(0), lateDef(1)), instr(use(1))), 0, 1), []int{1, 2}},
		{"a reuse, for both", line(2, instr(lateDef(0)), instr(use(0), reuse(1, 0))), []int{2, 1}},
		{"spoils cost nothing", line(1, spoils(instr(lateDef(0)), reg(0, 0), reg(1, 0))), []int{1}},
		{"as an arg, and as a param", fun(2, api.Block{Instrs: made, Edges: edges(to(1, 0))}, api.Block{Params: params(1)}), []int{2, 1}},
		{"as two args of an edge", fun(3, api.Block{Instrs: made, Edges: edges(to(1, 0, 0))}, api.Block{Params: params(2, 1), Instrs: instrs(instr(use(2)))}), []int{3, 1, 2}},
		{"as args of two edges", fun(3, api.Block{Instrs: made, Edges: edges(to(1, 0), to(2, 0))}, api.Block{Params: params(1)}, api.Block{Params: params(2)}), []int{3, 1, 1}},
		{"a param once, however many edges lead to it", fun(2,
			api.Block{Instrs: made, Edges: edges(to(1), to(2))},
			api.Block{Edges: edges(to(3, 0))},
			api.Block{Edges: edges(to(3, 0))},
			api.Block{Params: params(1)}), []int{3, 1}},
		{"in many blocks", fun(1, api.Block{Instrs: made, Edges: edges(to(2))}, api.Block{Instrs: instrs(instr(use(0)))}, api.Block{Instrs: instrs(instr(use(0))), Edges: edges(to(1))}), []int{3}},
		{"needed in a block where it does not stand", fun(1, api.Block{Instrs: made, Edges: edges(to(1))}, api.Block{Edges: edges(to(2))}, api.Block{Instrs: instrs(instr(use(0)))}), []int{2}},
	})
}

// P9.2: eight times as much in a loop.
func TestPricesInLoops(t *testing.T) {
	made := api.Block{Instrs: instrs(instr(lateDef(0))), Edges: edges(to(1))}
	checkPrices(t, []bill{
		{"what a loop is begun with, its param, and what it makes", ring(use(1), lateDef(2)), []int{2, 16, 16}},
		{"read in a loop, made outside", fun(1, made, api.Block{Instrs: instrs(instr(use(0))), Edges: edges(to(1))}), []int{9}},
		{"in the head, in the body, and behind the loop", fun(1, made,
			api.Block{Instrs: instrs(instr(use(0))), Edges: edges(to(2), to(3))},
			api.Block{Instrs: instrs(instr(use(0))), Edges: edges(to(1))},
			api.Block{Instrs: instrs(instr(use(0)))}), []int{18}},
		{"an arg costs what it costs where the edge begins", fun(3,
			api.Block{Instrs: instrs(instr(lateDef(0))), Edges: edges(to(1))},
			api.Block{Instrs: instrs(instr()), Edges: edges(to(2, 0), to(3, 0))},
			api.Block{Params: params(1), Edges: edges(to(1))},
			api.Block{Params: params(2)}), []int{17, 8, 1}},
		{"two ways back, one loop", fun(1, made,
			api.Block{Instrs: instrs(instr(use(0))), Edges: edges(to(2), to(3))},
			api.Block{Edges: edges(to(1))},
			api.Block{Edges: edges(to(1))}), []int{9}},
		{"one loop behind the other", fun(2, made,
			api.Block{Instrs: instrs(instr(use(0))), Edges: edges(to(2), to(3))},
			api.Block{Edges: edges(to(1))},
			api.Block{Edges: edges(to(4))},
			api.Block{Instrs: instrs(instr(use(0), lateDef(1))), Edges: edges(to(4))}), []int{17, 8}},
		{"round and round, without a head", fun(1,
			api.Block{Instrs: instrs(instr(lateDef(0))), Edges: edges(to(1), to(2))},
			api.Block{Edges: edges(to(3))},
			api.Block{Edges: edges(to(4))},
			api.Block{Instrs: instrs(instr(use(0))), Edges: edges(to(4))},
			api.Block{Edges: edges(to(3))}), []int{2}},
	})
}

// nest of loops: the heads 1 to n, one within the other; behind them the ways back to them, and behind these the ways out, from the inner one on. Each block makes the value of its number.
func nest(n int) api.Func {
	back := func(i int) int { return n + i }
	out := func(i int) int { return 2*n + i }
	f := fun(3*n+1, make([]api.Block, 3*n+1)...)
	for b := range f.Blocks {
		f.Blocks[b].Instrs = instrs(instr(lateDef(b)))
	}
	for i := range n {
		f.Blocks[i].Edges = edges(to(i + 1))
	}
	f.Blocks[n].Edges = edges(to(back(n)), to(out(n)))
	for i := 1; i <= n; i++ {
		f.Blocks[back(i)].Edges = edges(to(i))
		if i > 1 {
			f.Blocks[out(i)].Edges = edges(to(back(i-1)), to(out(i-1)))
		}
	}
	return f
}

// P9.2: loops within loops, of which four count.
func TestPricesInNests(t *testing.T) {
	checkPrices(t, []bill{
		{"one", nest(1), []int{1, 8, 8, 1}},
		{"two", nest(2), []int{1, 8, 64, 8, 64, 1, 8}},
		{"three", nest(3), []int{1, 8, 64, 512, 8, 64, 512, 1, 8, 64}},
		{"four", nest(4), []int{1, 8, 64, 512, 4096, 8, 64, 512, 4096, 1, 8, 64, 512}},
		{"five", nest(5), []int{1, 8, 64, 512, 4096, 4096, 8, 64, 512, 4096, 4096, 1, 8, 64, 512, 4096}},
	})
	f := nest(5)
	for b := range f.Blocks {
		f.Blocks[b].Instrs = append(f.Blocks[b].Instrs, instr(use(0), lateUse(0)))
	}
	checkPrices(t, []bill{{"read in all of them", f, []int{1 + 2*(1+2*(8+64+512+4096+4096)+1+8+64+512+4096), 8, 64, 512, 4096, 4096, 8, 64, 512, 4096, 4096, 1, 8, 64, 512, 4096}}})
}

// P9.2: as many operands as there may be, all of one value.
func TestMostPrices(t *testing.T) {
	f := chain(instr(slices.Repeat([]api.Operand{use(0)}, api.MaxOperands)...))
	f.Values = []int{0}
	f.Blocks[0].Instrs[0] = instr(lateDef(0))
	checkPrices(t, []bill{{"all one value", f, []int{1 + (api.MaxAll-1)*api.MaxOperands}}})
	f.Blocks[3].Edges = edges(to(1))
	const rest = api.MaxInstrs * api.MaxOperands
	checkPrices(t, []bill{{"in a loop of three blocks", f, []int{1 + rest - api.MaxOperands + 3*8*rest}}})
}
