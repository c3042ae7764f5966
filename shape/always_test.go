package shape_test

import (
	"fmt"
	"math"
	"testing"

	"ostler/api"
	"ostler/shape"
)

// draw: numbers that look drawn, the same each time.
type draw uint64

func (d *draw) below(n int) int {
	*d = *d*6364136223846793005 + 1442695040888963407
	return int(uint64(*d>>33) % uint64(n))
}

// number: mostly a small one, now and then one that no list has room for.
func (d *draw) number() int {
	wild := [...]int{-1, 6, 10, 11, 255, 256, math.MinInt, math.MaxInt, math.MinInt + 1, 1 << 32}
	if d.below(12) == 0 {
		return wild[d.below(len(wild))]
	}
	return d.below(5)
}

func (d *draw) numbers() []int {
	// The spare room is filled, so that a call that writes there is seen.
	l := make([]int, 0, 8)
	for range cap(l) {
		l = append(l, d.number())
	}
	return l[:d.below(4)]
}

func (d *draw) instr() api.Instr {
	x := api.Instr{Op: d.number()}
	l := make([]api.Operand, 0, 8)
	for range cap(l) {
		l = append(l, api.Operand{Kind: d.number(), Value: d.number(), Late: d.below(2) == 0, Limit: d.number(), N: d.number()})
	}
	x.Operands = l[:d.below(5)]
	spoils := make([]api.Reg, 0, 4)
	for range cap(spoils) {
		spoils = append(spoils, api.Reg{Class: d.number(), N: d.number()})
	}
	x.Spoils = spoils[:d.below(3)]
	return x
}

func (d *draw) fun() api.Func {
	f := api.Func{Values: make([]int, 0, 8)}
	for range d.below(8) {
		f.Values = append(f.Values, d.below(2))
	}
	for range d.below(5) {
		var b api.Block
		if len(f.Blocks) > 0 {
			b.Params = d.numbers()
		}
		for range d.below(4) {
			b.Instrs = append(b.Instrs, d.instr())
		}
		for range d.below(3) {
			b.Edges = append(b.Edges, api.Edge{Block: d.number(), Args: d.numbers()})
		}
		f.Blocks = append(f.Blocks, b)
	}
	return f
}

// told: all that a function has, spare room too.
func told(f api.Func) string {
	s := fmt.Sprint(f.Values[:cap(f.Values)])
	for _, b := range f.Blocks[:cap(f.Blocks)] {
		s += fmt.Sprint(b.Params[:cap(b.Params)], len(b.Params))
		for _, x := range b.Instrs[:cap(b.Instrs)] {
			s += fmt.Sprint(x.Op, x.Operands[:cap(x.Operands)], len(x.Operands), x.Spoils[:cap(x.Spoils)], len(x.Spoils))
		}
		for _, e := range b.Edges[:cap(b.Edges)] {
			s += fmt.Sprint(e.Block, e.Args[:cap(e.Args)], len(e.Args))
		}
	}
	return s
}

// What holds everywhere: calls end without a panic, answer the same again, and leave what they are given as it is.
func TestWildFunctions(t *testing.T) {
	d := draw(7)
	for i := range 20000 {
		f := d.fun()
		m := regs(2+d.below(9), 2+d.below(9))
		before := told(f)
		first := shape.Check(f, m)
		if again := shape.Check(f, m); again != first {
			t.Fatalf("case %d: %d, then %d", i, first, again)
		}
		if told(f) != before {
			t.Fatalf("case %d: what was given is changed", i)
		}
	}
}

// Sizes are asked first, so that even long lists are refused soon.
func TestLongLists(t *testing.T) {
	const long = 1 << 20
	checkRows(t, machine(), []row{
		{"blocks", api.Func{Blocks: make([]api.Block, long)}, api.ErrSize},
		{"values", api.Func{Values: make([]int, long), Blocks: make([]api.Block, 1)}, api.ErrSize},
		{"params", api.Func{Blocks: []api.Block{{Params: make([]int, long)}}}, api.ErrSize},
		{"instructions", api.Func{Blocks: []api.Block{{Instrs: make([]api.Instr, long)}}}, api.ErrSize},
		{"edges", api.Func{Blocks: []api.Block{{Edges: make([]api.Edge, long)}}}, api.ErrSize},
		{"args", changed(func(f *api.Func) { f.Blocks[1].Edges[0].Args = make([]int, long) }), api.ErrForm},
	})
}

// The document's example of the whole is a function that may be.
func TestExampleOfTheWhole(t *testing.T) {
	f := api.Func{Values: []int{0}, Blocks: []api.Block{{Instrs: []api.Instr{
		instr(lateDef(0, api.Anywhere, 0)),
		spoiling([]api.Reg{{N: 0}, {N: 1}, {N: 2}}),
		instr(use(0, api.Fixed, 1)),
	}}}}
	checkRows(t, regs(4, 4), []row{{"the example", f, api.OK}})
}
