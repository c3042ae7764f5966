package run_test

import (
	"fmt"
	"math"
	"math/big"
	"slices"
	"strings"
	"testing"

	"ostler/api"
	"ostler/run"
)

func machine() api.Machine { return api.Machine{Regs: [api.Classes]int{5, 4}} }

func use(v int) api.Operand {
	return api.Operand{Kind: api.Use, Value: v, Limit: api.Anywhere}
}

func lateUse(v int) api.Operand {
	return api.Operand{Kind: api.Use, Value: v, Late: true, Limit: api.Anywhere}
}

func def(v int) api.Operand {
	return api.Operand{Kind: api.Def, Value: v, Limit: api.Anywhere}
}

func lateDef(v int) api.Operand {
	return api.Operand{Kind: api.Def, Value: v, Late: true, Limit: api.Anywhere}
}

// reuse: a def where the operand n is.
func reuse(v, n int) api.Operand {
	return api.Operand{Kind: api.Def, Value: v, Late: true, Limit: api.Reuse, N: n}
}

func instr(op int, l ...api.Operand) api.Instr { return api.Instr{Op: op, Operands: l} }

func instrs(l ...api.Instr) []api.Instr { return l }

func params(l ...int) []int { return l }

// to: edges to blocks without params.
func to(l ...int) []api.Edge {
	var edges []api.Edge
	for _, b := range l {
		edges = append(edges, api.Edge{Block: b})
	}
	return edges
}

// with: the one edge to a block with params.
func with(block int, args ...int) []api.Edge {
	return []api.Edge{{Block: block, Args: args}}
}

// fun with so many values, all of class 0.
func fun(values int, blocks ...api.Block) api.Func {
	return api.Func{Values: make([]int, values), Blocks: blocks}
}

// line: one block of these instructions.
func line(values int, l ...api.Instr) api.Func { return fun(values, api.Block{Instrs: l}) }

// flat text of an answer; an empty list may be nil or not.
func flat(l ...any) string { return strings.ReplaceAll(fmt.Sprint(l...), "<nil>", "[]") }

// bigMix: P4.1 in numbers without bounds.
func bigMix(l ...int) int {
	mix := big.NewInt(7)
	for _, n := range l {
		mix.Mul(mix, big.NewInt(31))
		mix.Add(mix, big.NewInt(int64(n)))
		mix.Mod(mix, big.NewInt(1000003))
	}
	return int(mix.Int64())
}

// P4.1
func TestMix(t *testing.T) {
	for _, c := range []struct {
		name string
		l    []int
		want int
	}{
		{"nothing", nil, 7},
		{"nothing, in a list", []int{}, 7},
		{"0", []int{0}, 217},
		{"1", []int{1}, 218},
		{"below 0", []int{1, -1}, 6757},
		{"the first number that goes round", []int{1000003 - 217}, 0},
		{"the last number that does not", []int{1000002 - 217}, 1000002},
		{"to 0 from below", []int{-217}, 0},
		{"round from below", []int{-218}, 1000002},
		{"far below 0", []int{-1000003*5 - 218}, 1000002},
		{"a multiple", []int{1000003 * 9}, 217},
		{"a multiple below 0", []int{-1000003 * 9}, 217},
		{"the order tells", []int{-1, 1}, 6697},
		{"zeros tell", []int{0, 0}, 6727},
	} {
		if got := run.Mix(c.l); got != c.want || got != bigMix(c.l...) {
			t.Errorf("%s: %d, want %d (%d)", c.name, got, c.want, bigMix(c.l...))
		}
	}
	edges := []int{math.MinInt, math.MinInt + 1, math.MaxInt, math.MaxInt - 1, -1, 0, 1, 1000002, 1000003, -1000002, -1000003, 1 << 62}
	for _, a := range edges {
		for _, b := range edges {
			if got, want := run.Mix([]int{a, b, a}), bigMix(a, b, a); got != want {
				t.Errorf("%d, %d, %d: %d, want %d", a, b, a, got, want)
			}
		}
	}
	d := draw(41)
	for range 2000 {
		l := d.list(9)
		if got, want := run.Mix(l), bigMix(l...); got != want || got < 0 || got > 1000002 {
			t.Fatalf("%v: %d, want %d", l, got, want)
		}
	}
	if got, want := run.Mix(make([]int, 100000)), bigMix(make([]int, 100000)...); got != want {
		t.Errorf("a long list: %d, want %d", got, want)
	}
}

// P4.2: of any instruction, place and list.
func TestMade(t *testing.T) {
	for _, c := range []struct {
		name  string
		seed  int
		x     api.Instr
		place int
		read  []int
		want  int
	}{
		{"what was read", 1, api.Instr{Op: 2}, 0, []int{3}, 496345},
		{"nothing was read", 1, instr(2, lateDef(0)), 0, nil, 209560},
		{"another seed", 2, instr(2, lateDef(0)), 0, nil, 210521},
		{"another Op", 1, instr(3, lateDef(0)), 0, nil, 209591},
		{"another place", 1, instr(2, use(0), lateDef(0)), 1, nil, 209561},
		{"seed and Op below 0", -1, instr(-2), 0, nil, 207514},
		{"a place that is none", 0, instr(0), -1, nil, 208536},
		{"in the order in which it was read", 1, instr(2), 0, []int{4, 3}, 386684},
		{"zeros", 0, api.Instr{}, 0, []int{0, 0}, 403457},
		{"by far", math.MinInt, instr(math.MaxInt), math.MinInt, []int{math.MaxInt}, 65437},
	} {
		if got := run.Made(c.seed, c.x, c.place, c.read); got != c.want {
			t.Errorf("%s: %d, want %d", c.name, got, c.want)
		}
	}
	x := instr(7, use(3), def(9), lateDef(-4))
	y := api.Instr{Op: 7, Spoils: []api.Reg{{N: 3}}}
	if run.Made(5, x, 1, []int{6}) != run.Made(5, y, 1, []int{6}) {
		t.Error("operands or spoils tell, and ought not to")
	}
	d := draw(43)
	for range 2000 {
		seed, op, place, read := d.number(), d.number(), d.number(), d.list(8)
		want := bigMix(append([]int{seed, op, place}, read...)...)
		if got := run.Made(seed, instr(op), place, read); got != want {
			t.Fatalf("%d %d %d %v: %d, want %d", seed, op, place, read, got, want)
		}
	}
}

// P4.3: of any block, and any place in it.
func TestTakes(t *testing.T) {
	block := func(instrs, edges int) api.Block {
		b := api.Block{Edges: make([]api.Edge, edges)}
		for i := range instrs {
			b.Instrs = append(b.Instrs, instr(10+i))
		}
		return b
	}
	for _, c := range []struct {
		name              string
		instrs, edges, at int
		want              int
	}{
		{"nothing at all", 0, 0, 0, -1},
		{"no instruction, one edge", 0, 1, 0, -1},
		{"no instruction, one edge, ahead of all", 0, 1, -1, -1},
		{"no instruction, two edges, ahead of all", 0, 2, -1, -1},
		{"the last one, no edge", 1, 0, 0, -1},
		{"the last one, one edge", 1, 1, 0, 0},
		{"the last one of three, one edge", 3, 1, 2, 0},
		{"the first one of three, one edge", 3, 1, 0, -1},
		{"the one ahead of the last", 3, 2, 1, -1},
		{"behind the last one", 3, 2, 3, -1},
		{"ahead of the first one", 3, 2, -1, -1},
		{"far behind", 1, 2, math.MaxInt, -1},
		{"far ahead", 1, 2, math.MinInt, -1},
	} {
		for seed := range 20 {
			if got := run.Takes(seed, block(c.instrs, c.edges), c.at, []int{seed}); got != c.want {
				t.Errorf("%s: %d, want %d", c.name, got, c.want)
			}
		}
	}
	d := draw(42)
	for edges := 2; edges < 12; edges++ {
		seen := make([]int, edges)
		for range 600 {
			seed, read, last := d.number(), d.list(5), d.below(4)
			b := block(last+1, edges)
			want := bigMix(append([]int{seed, 10 + last, -1}, read...)...) % edges
			got := run.Takes(seed, b, last, read)
			if got != want {
				t.Fatalf("%d edges, seed %d, last %d, read %v: %d, want %d", edges, seed, last, read, got, want)
			}
			seen[got]++
		}
		if slices.Min(seen) == 0 {
			t.Errorf("%d edges: %v, drawn too small", edges, seen)
		}
	}
	// Mix of 1, 2, -1 is 209559; of 2, 2, -1 it is 210520.
	fork := api.Block{Instrs: instrs(instr(2)), Edges: to(1, 2)}
	if a, b := run.Takes(1, fork, 0, nil), run.Takes(2, fork, 0, nil); a != 1 || b != 0 {
		t.Errorf("a fork: %d %d, want 1 0", a, b)
	}
}

// P4.4: what is read and made, and the events that tell it.
func TestSource(t *testing.T) {
	ten := func(l ...int) int { return bigMix(append([]int{10}, l...)...) }
	a, b := ten(1, 0), ten(2, 0)
	for _, c := range []struct {
		name  string
		f     api.Func
		steps int
		want  string
	}{
		{"a block without anything", fun(0, api.Block{}), 9, "[]"},
		{"an instruction without operands", line(0, instr(1)), 9, "[{0 0 [] -1}]"},
		{"made and read", line(1, instr(1, lateDef(0)), instr(2, use(0))), 9, flat("[{0 0 [] -1} {0 1 [", a, "] -1}]")},
		{"made early, read late", line(1, instr(1, def(0)), instr(2, lateUse(0))), 9, flat("[{0 0 [] -1} {0 1 [", a, "] -1}]")},
		{"read twice", line(1, instr(1, def(0)), instr(2, lateUse(0), use(0))), 9, flat("[{0 0 [] -1} {0 1 [", a, " ", a, "] -1}]")},
		{"in the order of the operands, late or not",
			line(2, instr(1, def(0)), instr(2, def(1)), instr(3, lateUse(1), use(0))), 9,
			flat("[{0 0 [] -1} {0 1 [] -1} {0 2 [", b, " ", a, "] -1}]")},
		{"two defs of one instruction, by their places",
			line(3, instr(1, def(0)), instr(2, lateDef(1), use(0), def(2)), instr(3, use(1), use(2))), 9,
			flat("[{0 0 [] -1} {0 1 [", a, "] -1} {0 2 [", ten(2, 0, a), " ", ten(2, 2, a), "] -1}]")},
		{"a reuse makes as any def",
			line(2, instr(1, def(0)), instr(2, use(0), reuse(1, 0)), instr(3, use(1))), 9,
			flat("[{0 0 [] -1} {0 1 [", a, "] -1} {0 2 [", ten(2, 1, a), "] -1}]")},
		{"the one edge is told by the last instruction alone",
			fun(0, api.Block{Instrs: instrs(instr(1), instr(1)), Edges: to(1)}, api.Block{Instrs: instrs(instr(1))}), 9,
			"[{0 0 [] -1} {0 1 [] 0} {1 0 [] -1}]"},
		{"an edge is told though no step is left",
			fun(0, api.Block{Instrs: instrs(instr(1), instr(1)), Edges: to(1)}, api.Block{Instrs: instrs(instr(1))}), 3,
			"[{0 0 [] -1} {0 1 [] 0}]"},
		{"a block without instructions hands on by its edge 0",
			fun(3, api.Block{Instrs: instrs(instr(1, def(0))), Edges: with(1, 0)}, api.Block{Params: params(1), Edges: with(2, 1)}, api.Block{Params: params(2), Instrs: instrs(instr(2, use(2)))}), 9,
			flat("[{0 0 [] 0} {2 0 [", a, "] -1}]")},
		{"params take args all at once",
			fun(4, api.Block{Instrs: instrs(instr(1, def(0)), instr(2, def(1))), Edges: with(1, 0, 1)}, api.Block{Params: params(2, 3), Instrs: instrs(instr(3, use(2), use(3))), Edges: with(1, 3, 2)}), 9,
			flat("[{0 0 [] -1} {0 1 [] 0} {1 0 [", a, " ", b, "] 0} {1 0 [", b, " ", a, "] 0} {1 0 [", a, " ", b, "] 0}]")},
		{"one arg for two params",
			fun(3, api.Block{Instrs: instrs(instr(1, def(0))), Edges: with(1, 0, 0)}, api.Block{Params: params(2, 1), Instrs: instrs(instr(3, use(1), use(2)))}), 8,
			flat("[{0 0 [] 0} {1 0 [", a, " ", a, "] -1}]")},
		{"a loop makes anew of what it handed on",
			fun(3, api.Block{Instrs: instrs(instr(1, def(0))), Edges: with(1, 0)}, api.Block{Params: params(1), Instrs: instrs(instr(2, use(1), lateDef(2))), Edges: with(1, 2)}), 8,
			flat("[{0 0 [] 0} {1 0 [", a, "] 0} {1 0 [", ten(2, 1, a), "] 0} {1 0 [", ten(2, 1, ten(2, 1, a)), "] 0}]")},
	} {
		if got, e := run.Source(c.f, machine(), 10, c.steps); e != api.OK || flat(got) != c.want {
			t.Errorf("%s: %v %d, want %s", c.name, got, e, c.want)
		}
	}
}

// P4.3, P4.4: the last instruction chooses among edges, by the seed, its Op and what it read.
func TestFork(t *testing.T) {
	for _, edges := range []int{2, 3} {
		f := fun(1, api.Block{Instrs: instrs(instr(1, def(0)), instr(2, use(0))), Edges: to([]int{3, 1, 2}[:edges]...)})
		for range edges {
			f.Blocks = append(f.Blocks, api.Block{Instrs: instrs(instr(3))})
		}
		if edges == 2 {
			f.Blocks[0].Edges[0].Block = 2
		}
		seen := make([]int, edges)
		for seed := -50; seed < 50; seed++ {
			made := bigMix(seed, 1, 0)
			taken := bigMix(seed, 2, -1, made) % edges
			want := fmt.Sprintf("[{0 0 [] -1} {0 1 [%d] %d} {%d 0 [] -1}]", made, taken, f.Blocks[0].Edges[taken].Block)
			if got, e := run.Source(f, machine(), seed, 20); e != api.OK || flat(got) != want {
				t.Errorf("%d edges, seed %d: %v %d, want %s", edges, seed, got, e, want)
			}
			seen[taken]++
		}
		if slices.Min(seen) == 0 {
			t.Errorf("%d edges: %v: some are never taken", edges, seen)
		}
	}
}

// P4.4: to come to a block is a step, and each instruction is one.
func TestSteps(t *testing.T) {
	chain := fun(0,
		api.Block{Instrs: instrs(instr(1), instr(1)), Edges: to(1)},
		api.Block{Edges: to(2)},
		api.Block{Instrs: instrs(instr(1))},
	)
	loop := fun(0, api.Block{Edges: to(1)}, api.Block{Instrs: instrs(instr(1)), Edges: to(1)})
	bare := fun(0, api.Block{Edges: to(1)}, api.Block{Edges: to(1)})
	for _, c := range []struct {
		name   string
		f      api.Func
		events []int // after 0 steps, 1, ..
	}{
		{"a chain", chain, []int{0, 0, 1, 2, 2, 2, 3, 3, 3}},
		{"a loop", loop, []int{0, 0, 0, 1, 1, 2, 2, 3, 3}},
		{"a loop without an instruction", bare, []int{0, 0, 0, 0, 0}},
	} {
		for steps, want := range c.events {
			if got, e := run.Source(c.f, machine(), 3, steps); e != api.OK || len(got) != want {
				t.Errorf("%s, %d steps: %v %d, want %d events", c.name, steps, got, e, want)
			}
		}
	}
	if got, e := run.Source(loop, machine(), 3, api.MaxSteps); e != api.OK || len(got) != (api.MaxSteps-1)/2 {
		t.Errorf("a loop, as many steps as may be: %d events, %d", len(got), e)
	}
	if got, e := run.Source(bare, machine(), 3, api.MaxSteps); e != api.OK || len(got) != 0 {
		t.Errorf("a loop without an instruction, as many steps as may be: %d events, %d", len(got), e)
	}
	if got, e := run.Source(chain, machine(), 3, api.MaxSteps); e != api.OK || len(got) != 3 {
		t.Errorf("a chain, as many steps as may be: %d events, %d", len(got), e)
	}
}

// P4.4: what flow's Check refuses, then steps; with nothing else.
func TestRefused(t *testing.T) {
	good := line(1, instr(1, def(0)))
	class := line(1, instr(1, def(0)))
	class.Values[0] = 2
	fork := api.Block{Instrs: instrs(instr(1)), Edges: to(1, 2)}
	for _, c := range []struct {
		name  string
		f     api.Func
		steps int
		want  api.Errno
	}{
		{"no blocks", api.Func{}, 9, api.ErrSize},
		{"no blocks, no such steps", api.Func{}, -1, api.ErrSize},
		{"too many blocks", fun(0, make([]api.Block, api.MaxBlocks+1)...), 9, api.ErrSize},
		{"a class that is none", class, 9, api.ErrClass},
		{"no such value", line(1, instr(1, def(0)), instr(1, use(1))), 9, api.ErrRange},
		{"an Op that is none", line(1, instr(api.MaxOp+1, def(0))), 9, api.ErrRange},
		{"made twice", line(1, instr(1, def(0)), instr(1, def(0))), 9, api.ErrTwice},
		{"not made", line(1, instr(1, use(0))), 9, api.ErrNone},
		{"an edge to no block", fun(0, api.Block{Edges: to(1)}), 9, api.ErrNone},
		{"more edges, no instruction", fun(0, api.Block{Edges: to(1, 2)}, api.Block{}, api.Block{}), 9, api.ErrForm},
		{"a block to which nothing comes", fun(0, api.Block{}, api.Block{}), 9, api.ErrDead},
		{"an edge from many to many", fun(0, fork, api.Block{Edges: to(2)}, api.Block{}), 9, api.ErrEdge},
		{"used ahead of where it is made", line(1, instr(1, use(0)), instr(1, def(0))), 9, api.ErrUse},
		{"used ahead of where it is made, no such steps", line(1, instr(1, use(0)), instr(1, def(0))), api.MaxSteps + 1, api.ErrUse},
		{"used by what makes it", line(1, instr(1, def(0), lateUse(0))), 9, api.ErrUse},
		{"steps below 0", good, -1, api.ErrRange},
		{"steps far below 0", good, math.MinInt, api.ErrRange},
		{"too many steps", good, api.MaxSteps + 1, api.ErrRange},
		{"far too many steps", good, math.MaxInt, api.ErrRange},
	} {
		if got, e := run.Source(c.f, machine(), 1, c.steps); e != c.want || len(got) > 0 {
			t.Errorf("%s: %v %d, want %d", c.name, got, e, c.want)
		}
	}
	none := api.Machine{Regs: [api.Classes]int{4, 1}}
	if got, e := run.Source(good, none, 1, 9); e != api.ErrRange || len(got) > 0 {
		t.Errorf("no machine: %v %d", got, e)
	}
	for _, seed := range []int{math.MinInt, -1, 0, api.MaxSeed + 1, math.MaxInt} {
		if got, e := run.Source(good, machine(), seed, 9); e != api.OK || len(got) != 1 {
			t.Errorf("seed %d: %v %d", seed, got, e)
		}
	}
}
