package shape_test

import (
	"math"
	"testing"

	"ostler/api"
	"ostler/shape"
)

func machine() api.Machine { return regs(5, 4) }

func regs(first, second int) api.Machine {
	return api.Machine{Regs: [api.Classes]int{first, second}}
}

func use(v, limit, n int) api.Operand {
	return api.Operand{Kind: api.Use, Value: v, Limit: limit, N: n}
}

func lateUse(v, limit, n int) api.Operand {
	return api.Operand{Kind: api.Use, Value: v, Late: true, Limit: limit, N: n}
}

func def(v, limit, n int) api.Operand {
	return api.Operand{Kind: api.Def, Value: v, Limit: limit, N: n}
}

func lateDef(v, limit, n int) api.Operand {
	return api.Operand{Kind: api.Def, Value: v, Late: true, Limit: limit, N: n}
}

func instr(l ...api.Operand) api.Instr { return api.Instr{Op: 1, Operands: l} }

// spoiling: an instruction with these operands that spoils these registers.
func spoiling(spoils []api.Reg, l ...api.Operand) api.Instr {
	return api.Instr{Op: 1, Operands: l, Spoils: spoils}
}

// makers of the values from one number up to another one, that not any more.
func makers(from, to int) []api.Instr {
	var l []api.Instr
	for v := from; v < to; v++ {
		if (v-from)%api.MaxOperands == 0 {
			l = append(l, api.Instr{})
		}
		x := &l[len(l)-1]
		x.Operands = append(x.Operands, lateDef(v, api.Anywhere, 0))
	}
	return l
}

// Around an instruction the values 0 and 1 (of class 0), 2 and 3 (of class 1) are there to be used; it may make 4 and 5 (of class 0), 6 and 7 (of class 1).
func around(x api.Instr) api.Func {
	f := api.Func{Values: []int{0, 0, 1, 1, 0, 0, 1, 1}}
	made := [8]int{}
	for _, o := range x.Operands {
		if o.Kind == api.Def && o.Value >= 0 && o.Value < len(made) {
			made[o.Value]++
		}
	}
	l := append(makers(0, 4), x)
	for v := 4; v < len(made); v++ {
		if made[v] == 0 {
			l = append(l, instr(lateDef(v, api.Anywhere, 0)))
		}
	}
	f.Blocks = []api.Block{{Instrs: l}}
	return f
}

// fork of four blocks: the first makes the values 0 (of class 0) and 1 (of class 1), the last has the params 2 (of class 0) and 3 (of class 1).
func fork() api.Func {
	return api.Func{Values: []int{0, 1, 0, 1}, Blocks: []api.Block{
		{Instrs: makers(0, 2), Edges: []api.Edge{{Block: 1}, {Block: 2}}},
		{Edges: []api.Edge{{Block: 3, Args: []int{0, 1}}}},
		{Instrs: []api.Instr{instr(use(0, api.Register, 0))}, Edges: []api.Edge{{Block: 3, Args: []int{0, 1}}}},
		{Params: []int{2, 3}, Instrs: []api.Instr{instr(use(2, api.Fixed, 4), use(3, api.Stack, 0))}},
	}}
}

// changed fork.
func changed(change func(f *api.Func)) api.Func {
	f := fork()
	change(&f)
	return f
}

type row struct {
	name string
	f    api.Func
	want api.Errno
}

func checkRows(t *testing.T, m api.Machine, rows []row) {
	t.Helper()
	for _, r := range rows {
		if got := shape.Check(r.f, m); got != r.want {
			t.Errorf("%s: %d, want %d", r.name, got, r.want)
		}
	}
}

type instrRow struct {
	name string
	x    api.Instr
	want api.Errno
}

func checkInstrs(t *testing.T, m api.Machine, rows []instrRow) {
	t.Helper()
	for _, r := range rows {
		if got := shape.Check(around(r.x), m); got != r.want {
			t.Errorf("%s: %d, want %d", r.name, got, r.want)
		}
	}
}

// P1.1
func TestMachinesMayBe(t *testing.T) {
	for _, c := range []struct {
		first, second int
		want          api.Errno
	}{
		{2, 2, api.OK},
		{2, 10, api.OK},
		{10, 2, api.OK},
		{10, 10, api.OK},
		{5, 4, api.OK},
		{0, 0, api.ErrRange},
		{1, 2, api.ErrRange},
		{2, 1, api.ErrRange},
		{11, 10, api.ErrRange},
		{10, 11, api.ErrRange},
		{-2, 5, api.ErrRange},
		{5, -2, api.ErrRange},
		{math.MinInt, 5, api.ErrRange},
		{5, math.MaxInt, api.ErrRange},
	} {
		if got := shape.CheckMachine(regs(c.first, c.second)); got != c.want {
			t.Errorf("%d and %d registers: %d, want %d", c.first, c.second, got, c.want)
		}
	}
}

// P1.2
func TestMachineIsCheckedFirst(t *testing.T) {
	for _, m := range []api.Machine{{}, regs(1, 5), regs(5, 1), regs(11, 5), regs(5, 11)} {
		checkRows(t, m, []row{
			{"a function that may be", fork(), api.ErrRange},
			{"no block", api.Func{}, api.ErrRange},
			{"no such class", api.Func{Values: []int{7}, Blocks: []api.Block{{}}}, api.ErrRange},
		})
	}
}

// P1.2
func TestFunctionsMayBe(t *testing.T) {
	loop := api.Func{Values: []int{1, 1, 1}, Blocks: []api.Block{
		{Instrs: makers(0, 1), Edges: []api.Edge{{Block: 1, Args: []int{0}}}},
		{Params: []int{1}, Instrs: makers(2, 3), Edges: []api.Edge{{Block: 1, Args: []int{2}}, {Block: 2}}},
		{},
	}}
	dead := changed(func(f *api.Func) { f.Blocks[0].Edges = nil })
	early := changed(func(f *api.Func) { f.Blocks[2].Instrs[0].Operands[0].Value = 2 })
	checkRows(t, machine(), []row{
		{"one block, nothing in it", api.Func{Blocks: make([]api.Block, 1)}, api.OK},
		{"a fork", fork(), api.OK},
		{"a loop", loop, api.OK},
		{"how blocks hang together is not asked here", dead, api.OK},
		{"where values are made is not asked here", early, api.OK},
	})
	// The register 4 of class 0 is the scratch there.
	checkRows(t, regs(4, 4), []row{{"a fork, for fewer registers", fork(), api.ErrRange}})
}

// P1.2: lists without elements may be nil or not.
func TestEmptyListsMayBeNilOrNot(t *testing.T) {
	full := api.Func{Values: []int{}, Blocks: []api.Block{
		{Params: []int{}, Instrs: []api.Instr{{Operands: []api.Operand{}, Spoils: []api.Reg{}}}, Edges: []api.Edge{{Block: 1, Args: []int{}}}},
		{Params: []int{}, Instrs: []api.Instr{}, Edges: []api.Edge{}},
	}}
	bare := api.Func{Blocks: []api.Block{{Instrs: make([]api.Instr, 1), Edges: []api.Edge{{Block: 1}}}, {}}}
	checkRows(t, machine(), []row{
		{"empty lists", full, api.OK},
		{"nil lists", bare, api.OK},
		{"no block, an empty list", api.Func{Blocks: []api.Block{}}, api.ErrSize},
	})
}

// manyInstrs: a function of blocks with so many instructions each.
func manyInstrs(counts ...int) api.Func {
	var f api.Func
	for _, n := range counts {
		f.Blocks = append(f.Blocks, api.Block{Instrs: make([]api.Instr, n)})
	}
	return f
}

// manyParams: the second block has so many.
func manyParams(n int) api.Func {
	f := api.Func{Values: make([]int, n), Blocks: make([]api.Block, 2)}
	for v := range n {
		f.Blocks[1].Params = append(f.Blocks[1].Params, v)
	}
	return f
}

// manyEdges: so many lead from the first block to the second one.
func manyEdges(n int) api.Func {
	f := manyInstrs(1, 0)
	for range n {
		f.Blocks[0].Edges = append(f.Blocks[0].Edges, api.Edge{Block: 1})
	}
	return f
}

// manyOperands: a value is made, and used so often by one instruction.
func manyOperands(n int) api.Func {
	x := instr()
	for range n {
		x.Operands = append(x.Operands, use(0, api.Anywhere, 0))
	}
	return api.Func{Values: []int{0}, Blocks: []api.Block{{Instrs: append(makers(0, 1), x)}}}
}

// allSpoils: all registers of a machine of 10 and 10, and more of the last one.
func allSpoils(more int) api.Func {
	var l []api.Reg
	for class := range api.Classes {
		for n := range api.MaxRegs {
			l = append(l, api.Reg{Class: class, N: n})
		}
	}
	for range more {
		l = append(l, l[len(l)-1])
	}
	return api.Func{Blocks: []api.Block{{}, {Instrs: []api.Instr{spoiling(l)}}}}
}

// P1.3
func TestSizes(t *testing.T) {
	values := func(n int) api.Func {
		return api.Func{Values: make([]int, n), Blocks: []api.Block{{Instrs: makers(0, n)}}}
	}
	checkRows(t, regs(10, 10), []row{
		{"no block", api.Func{}, api.ErrSize},
		{"values, no block", api.Func{Values: []int{0}}, api.ErrSize},
		{"16 blocks", api.Func{Blocks: make([]api.Block, 16)}, api.OK},
		{"17 blocks", api.Func{Blocks: make([]api.Block, 17)}, api.ErrSize},
		{"160 values", values(160), api.OK},
		{"161 values", values(161), api.ErrSize},
		{"5 params", manyParams(5), api.OK},
		{"6 params", manyParams(6), api.ErrSize},
		{"40 instructions", manyInstrs(0, 40), api.OK},
		{"41 instructions", manyInstrs(0, 41), api.ErrSize},
		{"41 instructions in the first block", manyInstrs(41), api.ErrSize},
		{"160 instructions in all", manyInstrs(40, 40, 40, 40), api.OK},
		{"160 instructions in all, by more blocks", manyInstrs(39, 40, 0, 40, 1, 40), api.OK},
		{"161 instructions in all", manyInstrs(40, 40, 40, 40, 1), api.ErrSize},
		{"161 instructions in all, by more blocks", manyInstrs(33, 32, 0, 32, 32, 32, 0), api.ErrSize},
		{"3 edges", manyEdges(3), api.OK},
		{"4 edges", manyEdges(4), api.ErrSize},
		{"6 operands", manyOperands(6), api.OK},
		{"7 operands", manyOperands(7), api.ErrSize},
		{"20 spoils", allSpoils(0), api.ErrFull},
		{"21 spoils", allSpoils(1), api.ErrSize},
	})
}

// P1.3: sizes are told ahead of all else, then classes, then the first block's params.
func TestSizesThenClassesThenEntry(t *testing.T) {
	late := func(b api.Block) api.Func {
		return api.Func{Values: []int{2}, Blocks: []api.Block{{Params: []int{0}, Instrs: []api.Instr{{Op: -1}}}, b}}
	}
	values := func(classes ...int) api.Func {
		return api.Func{Values: classes, Blocks: []api.Block{{Instrs: makers(0, len(classes))}}}
	}
	entry := func(params ...int) api.Func {
		return api.Func{Values: []int{0}, Blocks: []api.Block{{Params: params}}}
	}
	checkRows(t, machine(), []row{
		{"params of a later block", late(api.Block{Params: make([]int, 6)}), api.ErrSize},
		{"instructions of a later block", late(api.Block{Instrs: make([]api.Instr, 41)}), api.ErrSize},
		{"edges of a later block", late(api.Block{Edges: make([]api.Edge, 4)}), api.ErrSize},
		{"operands in a later block", late(api.Block{Instrs: []api.Instr{{}, {Operands: make([]api.Operand, 7)}}}), api.ErrSize},
		{"spoils in a later block", late(api.Block{Instrs: []api.Instr{{}, {Spoils: make([]api.Reg, 21)}}}), api.ErrSize},
		{"a class, ahead of the first block's params", late(api.Block{}), api.ErrClass},
		{"the classes 0 and 1", values(0, 1), api.OK},
		{"the class 2", values(0, 2), api.ErrClass},
		{"the class -1", values(-1, 0), api.ErrClass},
		{"a great class", values(math.MaxInt), api.ErrClass},
		{"a param of the first block", entry(0), api.ErrForm},
		{"a param of the first block that is no value", entry(9), api.ErrForm},
		{"the first block's params, ahead of its instructions", api.Func{Values: []int{0}, Blocks: []api.Block{{Params: []int{0}, Instrs: []api.Instr{{Op: -1}}}}}, api.ErrForm},
	})
}

// P1.3: of a block its instructions, then its edges; block by block; at last what is made.
func TestBlocksInOrder(t *testing.T) {
	bad := instr(api.Operand{})
	checkRows(t, machine(), []row{
		{"one edge, no instruction", manyInstrsTo(0, 1), api.OK},
		{"two edges, no instruction", manyInstrsTo(0, 2), api.ErrForm},
		{"two edges, an instruction", manyInstrsTo(1, 2), api.OK},
		{"no instruction, in a later block", changed(func(f *api.Func) {
			f.Blocks[1].Edges = append(f.Blocks[1].Edges, f.Blocks[1].Edges[0])
		}), api.ErrForm},
		{"no instruction, ahead of the edges", changed(func(f *api.Func) {
			f.Blocks[0] = api.Block{Edges: []api.Edge{{Block: 9}, {Block: 9}}}
		}), api.ErrForm},
		{"instructions, ahead of edges", changed(func(f *api.Func) {
			f.Blocks[0].Instrs = append(f.Blocks[0].Instrs, bad)
			f.Blocks[0].Edges[0].Block = 9
		}), api.ErrKind},
		{"edges, ahead of the next block's instructions", changed(func(f *api.Func) {
			f.Blocks[1].Edges[0].Block = 9
			f.Blocks[2].Instrs[0] = bad
		}), api.ErrNone},
		{"instructions, ahead of the next block's edges", changed(func(f *api.Func) {
			f.Blocks[0].Instrs = append(f.Blocks[0].Instrs, bad)
			f.Blocks[1].Edges[0].Block = 9
		}), api.ErrKind},
		{"no instruction, ahead of the next block's instructions", changed(func(f *api.Func) {
			f.Blocks[1].Edges = append(f.Blocks[1].Edges, f.Blocks[1].Edges[0])
			f.Blocks[2].Instrs[0] = bad
		}), api.ErrForm},
		{"instructions one by one", changed(func(f *api.Func) {
			f.Blocks[0].Instrs = []api.Instr{{Op: 256}, bad}
		}), api.ErrRange},
		{"all blocks, ahead of what is made twice", changed(func(f *api.Func) {
			f.Blocks[0].Instrs = append(makers(0, 2), makers(0, 1)...)
			f.Blocks[3].Instrs[0].Operands[0].Kind = 0
		}), api.ErrKind},
		{"all edges, ahead of what is made twice", changed(func(f *api.Func) {
			f.Blocks[0].Instrs = append(makers(0, 2), makers(0, 1)...)
			f.Blocks[3].Edges = []api.Edge{{Block: 0}}
		}), api.ErrNone},
	})
}

// manyInstrsTo: the first block has so many instructions, and so many edges to the second one.
func manyInstrsTo(instrs, edges int) api.Func {
	f := manyEdges(edges)
	f.Blocks[0].Instrs = make([]api.Instr, instrs)
	return f
}

// P1.4
func TestOps(t *testing.T) {
	for _, c := range []struct {
		op   int
		want api.Errno
	}{{0, api.OK}, {255, api.OK}, {-1, api.ErrRange}, {256, api.ErrRange}, {math.MinInt, api.ErrRange}, {math.MaxInt, api.ErrRange}} {
		if got := shape.Check(around(api.Instr{Op: c.op}), machine()); got != c.want {
			t.Errorf("op %d: %d, want %d", c.op, got, c.want)
		}
	}
	bad := api.Instr{Op: 256, Operands: []api.Operand{{}}}
	checkInstrs(t, machine(), []instrRow{{"the op, ahead of operands", bad, api.ErrRange}})
}

// P1.4
func TestOperands(t *testing.T) {
	kind := func(kind, limit int) api.Instr {
		return instr(api.Operand{Kind: kind, Limit: limit, Late: true})
	}
	checkInstrs(t, machine(), []instrRow{
		{"no operands", instr(), api.OK},
		{"kind 0", kind(0, api.Anywhere), api.ErrKind},
		{"kind 3", kind(3, api.Anywhere), api.ErrKind},
		{"kind -1", kind(-1, api.Anywhere), api.ErrKind},
		{"limit 0", kind(api.Use, 0), api.ErrKind},
		{"limit 6", kind(api.Use, 6), api.ErrKind},
		{"limit -1", kind(api.Use, -1), api.ErrKind},
		{"a use anywhere", instr(use(0, api.Anywhere, 0)), api.OK},
		{"a use in a register", instr(use(0, api.Register, 0)), api.OK},
		{"a use on the stack", instr(use(0, api.Stack, 0)), api.OK},
		{"a use in a fixed register", instr(use(0, api.Fixed, 0)), api.OK},
		{"a late use", instr(lateUse(0, api.Fixed, 1)), api.OK},
		{"a def anywhere", instr(def(4, api.Anywhere, 0)), api.OK},
		{"a def in a register", instr(def(4, api.Register, 0)), api.OK},
		{"a def on the stack", instr(lateDef(4, api.Stack, 0)), api.OK},
		{"a def in a fixed register", instr(lateDef(4, api.Fixed, 3)), api.OK},
		{"the last value", instr(use(7, api.Anywhere, 0)), api.OK},
		{"the value 8", instr(use(8, api.Anywhere, 0)), api.ErrRange},
		{"the value -1", instr(use(-1, api.Anywhere, 0)), api.ErrRange},
		{"a def of the value 8", instr(def(8, api.Fixed, 0)), api.ErrRange},
		{"the last register of class 0", instr(use(0, api.Fixed, 4)), api.OK},
		{"the scratch of class 0", instr(use(0, api.Fixed, 5)), api.ErrRange},
		{"the last register of class 1", instr(use(2, api.Fixed, 3)), api.OK},
		{"the scratch of class 1", instr(use(2, api.Fixed, 4)), api.ErrRange},
		{"the register -1", instr(def(4, api.Fixed, -1)), api.ErrRange},
		{"an N anywhere", instr(use(0, api.Anywhere, 1)), api.ErrForm},
		{"an N in a register", instr(def(4, api.Register, 1)), api.ErrForm},
		{"an N on the stack", instr(use(0, api.Stack, -1)), api.ErrForm},
	})
}

// P1.4
func TestOperandsInOrder(t *testing.T) {
	checkInstrs(t, machine(), []instrRow{
		{"kind, ahead of values", instr(api.Operand{Kind: 3, Value: -1, Limit: api.Anywhere, N: 1}), api.ErrKind},
		{"limit, ahead of values", instr(api.Operand{Kind: api.Use, Value: -1, Limit: 6, N: 1}), api.ErrKind},
		{"values, ahead of N", instr(use(8, api.Anywhere, 1)), api.ErrRange},
		{"values, ahead of a reuse's form", instr(use(8, api.Reuse, 0)), api.ErrRange},
		{"one by one: a range first", instr(use(8, api.Anywhere, 0), api.Operand{}), api.ErrRange},
		{"one by one: a form first", instr(use(0, api.Stack, 2), use(8, api.Anywhere, 0)), api.ErrForm},
		{"one by one: a kind first", instr(api.Operand{}, use(8, api.Anywhere, 0)), api.ErrKind},
		{"the last one", instr(use(0, api.Stack, 0), use(1, api.Anywhere, 0), use(2, 9, 0)), api.ErrKind},
	})
}

// P1.4
func TestReuses(t *testing.T) {
	checkInstrs(t, machine(), []instrRow{
		{"of a use", instr(use(0, api.Anywhere, 0), lateDef(4, api.Reuse, 0)), api.OK},
		{"of a use behind it", instr(lateDef(4, api.Reuse, 1), use(0, api.Register, 0)), api.OK},
		{"of a use on the stack", instr(lateDef(6, api.Reuse, 1), use(2, api.Stack, 0)), api.OK},
		{"a use", instr(use(0, api.Anywhere, 0), lateUse(1, api.Reuse, 0)), api.ErrForm},
		{"not late", instr(use(0, api.Anywhere, 0), def(4, api.Reuse, 0)), api.ErrForm},
		{"of no operand", instr(use(0, api.Anywhere, 0), lateDef(4, api.Reuse, 2)), api.ErrNone},
		{"of the operand -1", instr(use(0, api.Anywhere, 0), lateDef(4, api.Reuse, -1)), api.ErrNone},
		{"of itself", instr(lateDef(4, api.Reuse, 0)), api.ErrForm},
		{"of a def", instr(lateDef(5, api.Anywhere, 0), lateDef(4, api.Reuse, 0)), api.ErrForm},
		{"of an early def", instr(def(5, api.Anywhere, 0), lateDef(4, api.Reuse, 0)), api.ErrForm},
		{"of a late use", instr(lateUse(0, api.Anywhere, 0), lateDef(4, api.Reuse, 0)), api.ErrForm},
		{"of another class", instr(use(2, api.Anywhere, 0), lateDef(4, api.Reuse, 0)), api.ErrClass},
		{"form, ahead of class", instr(lateUse(2, api.Anywhere, 0), lateDef(4, api.Reuse, 0)), api.ErrForm},
		{"all operands, ahead of reuses", instr(lateDef(4, api.Reuse, 9), api.Operand{}), api.ErrKind},
		{"one by one: none first", instr(lateDef(4, api.Reuse, 9), lateDef(5, api.Reuse, 1)), api.ErrNone},
		{"one by one: form first", instr(lateDef(5, api.Reuse, 0), lateDef(4, api.Reuse, 9)), api.ErrForm},
		{"one by one: class first", instr(use(2, api.Anywhere, 0), lateDef(5, api.Reuse, 0), lateDef(4, api.Reuse, 9)), api.ErrClass},
		{"ahead of spoils", spoiling([]api.Reg{{Class: 2}}, lateDef(4, api.Reuse, 9)), api.ErrNone},
	})
}

// P1.5
func TestSpoils(t *testing.T) {
	spoils := func(pairs ...[2]int) api.Instr {
		x := instr()
		for _, p := range pairs {
			x.Spoils = append(x.Spoils, api.Reg{Class: p[0], N: p[1]})
		}
		return x
	}
	checkInstrs(t, machine(), []instrRow{
		{"by classes, then by numbers", spoils([2]int{0, 0}, [2]int{0, 2}, [2]int{0, 4}, [2]int{1, 0}, [2]int{1, 3}), api.OK},
		{"the last register of class 0", spoils([2]int{0, 4}), api.OK},
		{"the scratch of class 0", spoils([2]int{0, 5}), api.ErrRange},
		{"the last register of class 1", spoils([2]int{1, 3}), api.OK},
		{"the scratch of class 1", spoils([2]int{1, 4}), api.ErrRange},
		{"the register -1", spoils([2]int{1, -1}), api.ErrRange},
		{"the class 2", spoils([2]int{2, 0}), api.ErrRange},
		{"the class -1", spoils([2]int{-1, 0}), api.ErrRange},
		{"the same twice", spoils([2]int{0, 1}, [2]int{0, 1}), api.ErrForm},
		{"numbers the wrong way", spoils([2]int{1, 2}, [2]int{1, 1}), api.ErrForm},
		{"classes the wrong way", spoils([2]int{1, 0}, [2]int{0, 1}), api.ErrForm},
		{"the third one", spoils([2]int{0, 0}, [2]int{1, 0}, [2]int{0, 1}), api.ErrForm},
		{"range, ahead of form", spoils([2]int{0, 1}, [2]int{-1, 0}), api.ErrRange},
		{"one by one: form first", spoils([2]int{0, 1}, [2]int{0, 0}, [2]int{2, 0}), api.ErrForm},
		{"one by one: range first", spoils([2]int{0, 5}, [2]int{0, 0}, [2]int{0, 0}), api.ErrRange},
		{"ahead of clashes", spoiling([]api.Reg{{N: 1}, {N: 1}}, def(4, api.Fixed, 1)), api.ErrForm},
	})
}

// P1.6
func TestMeet(t *testing.T) {
	other := api.Fixed
	for _, c := range []struct {
		name string
		a, b api.Operand
		want bool
	}{
		{"uses of one value", use(3, 1, 0), use(3, other, 2), false},
		{"uses of one value, one late", use(3, 1, 0), lateUse(3, 1, 0), false},
		{"late uses of one value", lateUse(3, 1, 0), lateUse(3, 1, 0), false},
		{"uses of two values", use(3, 1, 0), use(4, 1, 0), true},
		{"uses of two values, one late", use(3, 1, 0), lateUse(4, 1, 0), true},
		{"late uses of two values", lateUse(3, 1, 0), lateUse(4, 1, 0), true},
		{"defs of one value", def(3, 1, 0), def(3, 1, 0), true},
		{"defs", def(3, 1, 0), def(4, 1, 0), true},
		{"defs, one late", def(3, 1, 0), lateDef(4, 1, 0), true},
		{"late defs", lateDef(3, 1, 0), lateDef(4, 1, 0), true},
		{"late defs of one value", lateDef(3, 1, 0), lateDef(3, 1, 0), true},
		{"a use and a def", use(3, 1, 0), def(4, 1, 0), true},
		{"a use and a late def", use(3, 1, 0), lateDef(4, 1, 0), false},
		{"a late use and a def", lateUse(3, 1, 0), def(4, 1, 0), true},
		{"a late use and a late def", lateUse(3, 1, 0), lateDef(4, 1, 0), true},
		{"a use and a def of one value", use(3, 1, 0), def(3, 1, 0), true},
		{"a use and a late def of one value", use(3, 1, 0), lateDef(3, 1, 0), false},
		{"a late use and a late def of one value", lateUse(3, 1, 0), lateDef(3, 1, 0), true},
		{"a use and its reuse", use(3, 1, 0), lateDef(4, api.Reuse, 0), false},
		{"values that are none", use(-1, 0, 9), use(math.MaxInt, 0, 9), true},
		{"no kind", api.Operand{}, api.Operand{Value: 1}, false},
		{"no kind, and a use", api.Operand{Kind: 3, Late: true}, use(1, 1, 0), false},
		{"no kind, and a def", api.Operand{Kind: -1, Late: true}, def(1, 1, 0), false},
	} {
		if got := shape.Meet(c.a, c.b); got != c.want {
			t.Errorf("%s: %v, want %v", c.name, got, c.want)
		}
		if got := shape.Meet(c.b, c.a); got != c.want {
			t.Errorf("%s, the other way round: %v, want %v", c.name, got, c.want)
		}
	}
}

// P1.6
func TestClashesWithSpoils(t *testing.T) {
	one := []api.Reg{{N: 1}, {Class: 1, N: 2}}
	checkInstrs(t, machine(), []instrRow{
		{"a use", spoiling(one, use(0, api.Fixed, 1)), api.OK},
		{"a late use", spoiling(one, lateUse(0, api.Fixed, 1)), api.ErrClash},
		{"a def", spoiling(one, def(4, api.Fixed, 1)), api.ErrClash},
		{"a late def", spoiling(one, lateDef(4, api.Fixed, 1)), api.ErrClash},
		{"a late def of class 1", spoiling(one, lateDef(6, api.Fixed, 2)), api.ErrClash},
		{"of the other class", spoiling(one, lateUse(2, api.Fixed, 1)), api.OK},
		{"of another number", spoiling(one, lateUse(0, api.Fixed, 2)), api.OK},
		{"not fixed", spoiling([]api.Reg{{N: 0}}, lateUse(0, api.Register, 0), lateDef(4, api.Anywhere, 0)), api.OK},
		{"a reuse of a fixed use", spoiling(one, use(0, api.Fixed, 1), lateDef(4, api.Reuse, 0)), api.ErrClash},
		{"a reuse of a fixed use behind it", spoiling(one, lateDef(4, api.Reuse, 1), use(0, api.Fixed, 1)), api.ErrClash},
		{"a reuse of a use elsewhere", spoiling(one, use(0, api.Fixed, 2), lateDef(4, api.Reuse, 0)), api.OK},
		{"a reuse of a free use", spoiling(one, use(1, api.Stack, 0), use(0, api.Anywhere, 0), lateDef(4, api.Reuse, 1)), api.OK},
		{"the last operand", spoiling(one, use(0, api.Fixed, 1), use(2, api.Fixed, 2), lateDef(6, api.Fixed, 2)), api.ErrClash},
	})
}

// P1.6
func TestClashesOfOperands(t *testing.T) {
	checkInstrs(t, machine(), []instrRow{
		{"uses of two values", instr(use(0, api.Fixed, 1), use(1, api.Fixed, 1)), api.ErrClash},
		{"uses of one value", instr(use(0, api.Fixed, 1), use(0, api.Fixed, 1)), api.OK},
		{"uses of two values, one late", instr(use(0, api.Fixed, 1), lateUse(1, api.Fixed, 1)), api.ErrClash},
		{"uses in two registers", instr(use(0, api.Fixed, 1), use(1, api.Fixed, 2)), api.OK},
		{"uses of two classes", instr(use(0, api.Fixed, 1), use(2, api.Fixed, 1)), api.OK},
		{"a use that is not fixed", instr(use(0, api.Fixed, 0), use(1, api.Register, 0)), api.OK},
		{"uses that are not fixed", instr(use(0, api.Register, 0), use(1, api.Register, 0)), api.OK},
		{"a use and a def", instr(use(0, api.Fixed, 1), def(4, api.Fixed, 1)), api.ErrClash},
		{"a use and a late def", instr(use(0, api.Fixed, 1), lateDef(4, api.Fixed, 1)), api.OK},
		{"a late def and a use", instr(lateDef(4, api.Fixed, 1), use(0, api.Fixed, 1)), api.OK},
		{"a late use and a late def", instr(lateUse(0, api.Fixed, 1), lateDef(4, api.Fixed, 1)), api.ErrClash},
		{"a late def and a late use", instr(lateDef(4, api.Fixed, 1), lateUse(0, api.Fixed, 1)), api.ErrClash},
		{"two defs", instr(def(4, api.Fixed, 1), lateDef(5, api.Fixed, 1)), api.ErrClash},
		{"two defs of two classes", instr(lateDef(4, api.Fixed, 1), lateDef(6, api.Fixed, 1)), api.OK},
		{"the first and the last of four", instr(use(0, api.Fixed, 1), use(2, api.Fixed, 1), use(0, api.Stack, 0), use(1, api.Fixed, 1)), api.ErrClash},
		{"the last two of three", instr(use(2, api.Fixed, 1), use(0, api.Fixed, 1), use(1, api.Fixed, 1)), api.ErrClash},
	})
}

// P1.6
func TestClashesOfReuses(t *testing.T) {
	fixed := use(0, api.Fixed, 1)
	checkInstrs(t, machine(), []instrRow{
		{"a reuse of a fixed use", instr(fixed, lateDef(4, api.Reuse, 0)), api.OK},
		{"and a late def there", instr(fixed, lateDef(4, api.Reuse, 0), lateDef(5, api.Fixed, 1)), api.ErrClash},
		{"and a late def there, ahead", instr(lateDef(5, api.Fixed, 1), fixed, lateDef(4, api.Reuse, 1)), api.ErrClash},
		{"and a late def elsewhere", instr(fixed, lateDef(4, api.Reuse, 0), lateDef(5, api.Fixed, 0)), api.OK},
		{"and a late use there, of the same value", instr(fixed, lateUse(0, api.Fixed, 1), lateDef(4, api.Reuse, 0)), api.ErrClash},
		{"and a use there, of the same value", instr(fixed, fixed, lateDef(4, api.Reuse, 0)), api.OK},
		{"two of two uses there, of one value", instr(fixed, fixed, lateDef(4, api.Reuse, 0), lateDef(5, api.Reuse, 1)), api.ErrClash},
		{"two of one fixed use", instr(fixed, lateDef(4, api.Reuse, 0), lateDef(5, api.Reuse, 0)), api.ErrClash},
		{"two of one free use", instr(use(0, api.Anywhere, 0), lateDef(4, api.Reuse, 0), lateDef(5, api.Reuse, 0)), api.ErrClash},
		{"two of one use on the stack", instr(lateDef(6, api.Reuse, 1), use(2, api.Stack, 0), lateDef(7, api.Reuse, 1)), api.ErrClash},
		{"two of two uses", instr(use(0, api.Anywhere, 0), use(1, api.Anywhere, 0), lateDef(4, api.Reuse, 0), lateDef(5, api.Reuse, 1)), api.OK},
		{"two of two free uses, of one value", instr(use(0, api.Anywhere, 0), use(0, api.Anywhere, 0), lateDef(4, api.Reuse, 0), lateDef(5, api.Reuse, 1)), api.OK},
		{"the N of a reuse is no register", instr(use(0, api.Anywhere, 0), lateDef(4, api.Reuse, 0), lateDef(5, api.Fixed, 0)), api.OK},
	})
}

// P1.6, P1.7: a clash is told ahead of too little room.
func TestClashAheadOfFull(t *testing.T) {
	clash := instr(use(0, api.Fixed, 1), use(1, api.Fixed, 1))
	spoilt := spoiling([]api.Reg{{N: 0}, {N: 1}}, def(4, api.Fixed, 1))
	twice := instr(use(0, api.Anywhere, 0), lateDef(4, api.Reuse, 0), lateDef(5, api.Reuse, 0))
	checkInstrs(t, regs(2, 2), []instrRow{{"operands", clash, api.ErrClash}, {"spoils", spoilt, api.ErrClash}, {"reuses", twice, api.ErrClash}})
	full := around(instr(use(0, api.Register, 0), use(1, api.Register, 0)))
	full.Blocks[0].Instrs = append(full.Blocks[0].Instrs, clash)
	checkRows(t, regs(2, 2), []row{{"the next instruction's clash is later", full, api.ErrFull}})
}

// P1.7
func TestRoom(t *testing.T) {
	three := []api.Reg{{N: 2}, {N: 3}, {N: 4}}
	low, high := use(0, api.Register, 0), use(2, api.Register, 0)
	checkInstrs(t, machine(), []instrRow{
		{"4 of 5, of class 0", instr(low, low, low, low), api.OK},
		{"5 of 5, of class 0", instr(low, low, low, low, low), api.ErrFull},
		{"6 of 5, of class 0", instr(low, low, low, low, low, low), api.ErrFull},
		{"3 of 4, of class 1", instr(high, high, high), api.OK},
		{"4 of 4, of class 1", instr(high, high, high, high), api.ErrFull},
		{"3 of 4, of class 1, and 3 of 5, of class 0", instr(high, high, high, low, low, low), api.OK},
		{"4 spoils of 5", spoiling(append([]api.Reg{{N: 1}}, three...)), api.OK},
		{"5 spoils of 5", spoiling(append([]api.Reg{{N: 0}, {N: 1}}, three...)), api.ErrFull},
		{"4 spoils of 4", spoiling([]api.Reg{{Class: 1}, {Class: 1, N: 1}, {Class: 1, N: 2}, {Class: 1, N: 3}}), api.ErrFull},
		{"3 spoils and a register", spoiling(three, low), api.OK},
		{"3 spoils and two registers", spoiling(three, low, low), api.ErrFull},
		{"3 spoils, a register and one of the other class", spoiling(three, low, high), api.OK},
		{"3 spoils, a register and a fixed one", spoiling(three, low, use(1, api.Fixed, 0)), api.ErrFull},
		{"3 spoils, a register and a reuse", spoiling(three, low, lateDef(4, api.Reuse, 0)), api.ErrFull},
		{"3 spoils and a reuse", spoiling(three, use(0, api.Anywhere, 0), lateDef(4, api.Reuse, 0)), api.OK},
		{"3 spoils and two reuses", spoiling(three, use(0, api.Stack, 0), lateDef(4, api.Reuse, 0), use(1, api.Stack, 0), lateDef(5, api.Reuse, 2)), api.ErrFull},
		{"3 spoils and two fixed", spoiling(three, use(0, api.Fixed, 0), lateDef(4, api.Fixed, 1)), api.ErrFull},
		{"3 spoils, a register, and operands that ask for none", spoiling(three, low, use(1, api.Anywhere, 0), use(1, api.Stack, 0), lateDef(4, api.Anywhere, 0), def(5, api.Stack, 0)), api.OK},
		{"a fixed use in a spoilt register counts twice", spoiling(three, use(0, api.Fixed, 2), use(1, api.Fixed, 3)), api.ErrFull},
		{"a register that two share counts twice", spoiling(three, use(0, api.Fixed, 1), lateDef(4, api.Fixed, 1)), api.ErrFull},
		{"defs count", spoiling(three, def(4, api.Register, 0), lateDef(5, api.Register, 0)), api.ErrFull},
	})
	checkInstrs(t, regs(2, 2), []instrRow{
		{"one of two", instr(low, high), api.OK},
		{"two of two", instr(high, high), api.ErrFull},
	})
}

// P1.8
func TestEdges(t *testing.T) {
	edge := func(e api.Edge) api.Func {
		return changed(func(f *api.Func) { f.Blocks[2].Edges[0] = e })
	}
	args := func(l ...int) api.Func { return edge(api.Edge{Block: 3, Args: l}) }
	checkRows(t, machine(), []row{
		{"to the last block", args(0, 1), api.OK},
		{"to itself", edge(api.Edge{Block: 2}), api.OK},
		{"to the first block", edge(api.Edge{Block: 0}), api.ErrNone},
		{"to the block 4", edge(api.Edge{Block: 4}), api.ErrNone},
		{"to the block -1", edge(api.Edge{Block: -1}), api.ErrNone},
		{"the block, ahead of args", edge(api.Edge{Block: 4, Args: []int{99}}), api.ErrNone},
		{"no args", args(), api.ErrForm},
		{"too few args", args(0), api.ErrForm},
		{"too many args", args(0, 1, 0), api.ErrForm},
		{"args to a block without params", edge(api.Edge{Block: 1, Args: []int{0}}), api.ErrForm},
		{"how many, ahead of which", args(99), api.ErrForm},
		{"the arg 4", args(0, 4), api.ErrRange},
		{"the arg -1", args(-1, 1), api.ErrRange},
		{"the last value", args(2, 3), api.OK},
		{"an arg of another class", args(1, 1), api.ErrClass},
		{"the last arg of another class", args(0, 0), api.ErrClass},
		{"one by one: class first", args(1, 99), api.ErrClass},
		{"one by one: range first", args(99, 0), api.ErrRange},
	})
}

// P1.8
func TestEdgesToParamsThatAreNone(t *testing.T) {
	params := func(arg int, params ...int) api.Func {
		return changed(func(f *api.Func) {
			f.Blocks[1].Edges[0].Args[0] = arg
			f.Blocks[3].Params = params
		})
	}
	second := changed(func(f *api.Func) {
		f.Blocks[0].Edges = []api.Edge{{Block: 1}, {Block: 0}}
	})
	order := changed(func(f *api.Func) {
		f.Blocks[0].Edges = []api.Edge{{Block: 3}, {Block: 9}}
	})
	checkRows(t, machine(), []row{
		{"the param 4", params(0, 4, 3), api.ErrClass},
		{"the param -1", params(0, -1, 3), api.ErrClass},
		{"the arg, ahead of the param", params(99, 4, 3), api.ErrRange},
		{"a param of another class", params(0, 3, 2), api.ErrClass},
		{"the second edge", second, api.ErrNone},
		{"edges one by one", order, api.ErrForm},
	})
}

// P1.9
func TestMadeOnce(t *testing.T) {
	more := func(l ...api.Instr) api.Func {
		return changed(func(f *api.Func) { f.Blocks[3].Instrs = append(f.Blocks[3].Instrs, l...) })
	}
	// Block 4 is one to which no edge leads: nothing asks for its params ahead of what is made.
	lone := func(l ...int) api.Func {
		return changed(func(f *api.Func) { f.Blocks = append(f.Blocks, api.Block{Params: l}) })
	}
	unmade := func(classes ...int) api.Func {
		return changed(func(f *api.Func) { f.Values = append(f.Values, classes...) })
	}
	nothing := api.Func{Values: []int{0}, Blocks: make([]api.Block, 1)}
	checkRows(t, machine(), []row{
		{"a def twice", more(makers(0, 1)...), api.ErrTwice},
		{"a def of a param", more(makers(3, 4)...), api.ErrTwice},
		{"a param twice", lone(2), api.ErrTwice},
		{"a param of a def", lone(1), api.ErrTwice},
		{"two defs of one instruction", more(instr(lateDef(1, api.Anywhere, 0), def(1, api.Anywhere, 0))), api.ErrTwice},
		{"a param that is no value", lone(4), api.ErrRange},
		{"the param -1", lone(-1), api.ErrRange},
		{"a use makes nothing", more(instr(use(0, api.Anywhere, 0), lateUse(0, api.Anywhere, 0))), api.OK},
		{"the last value is not made", unmade(0), api.ErrNone},
		{"a use of what is not made", api.Func{Values: []int{0}, Blocks: []api.Block{{Instrs: []api.Instr{instr(use(0, api.Anywhere, 0))}}}}, api.ErrNone},
		{"nothing is made", nothing, api.ErrNone},
	})
}

// P1.9
func TestMadeInOrder(t *testing.T) {
	blocks := func(classes int, l ...api.Block) api.Func {
		return api.Func{Values: make([]int, classes), Blocks: append([]api.Block{{}}, l...)}
	}
	params := func(l ...int) api.Block { return api.Block{Params: l} }
	defs := func(l ...api.Instr) api.Block { return api.Block{Instrs: l} }
	twice := instr(def(0, api.Anywhere, 0), def(0, api.Anywhere, 0))
	checkRows(t, machine(), []row{
		{"the first value is not made", blocks(2, params(1)), api.ErrNone},
		{"all are made", blocks(2, params(1), params(0)), api.OK},
		{"twice in one block", blocks(1, params(0, 0)), api.ErrTwice},
		{"twice, ahead of not made", blocks(2, params(0), params(0)), api.ErrTwice},
		{"no value, ahead of not made", blocks(2, params(0, 2)), api.ErrRange},
		{"one by one: twice first", blocks(1, params(0, 0, 1)), api.ErrTwice},
		{"one by one: no value first", blocks(1, params(1, 0, 0)), api.ErrRange},
		{"block by block: twice first", blocks(1, defs(twice), params(1)), api.ErrTwice},
		{"block by block: no value first", blocks(1, params(1), defs(twice)), api.ErrRange},
		{"params, ahead of defs", blocks(1, api.Block{Params: []int{1}, Instrs: []api.Instr{twice}}), api.ErrRange},
	})
}
