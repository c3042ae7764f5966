package claim_test

import (
	"slices"
	"testing"

	"ostler/api"
	"ostler/claim"
)

func machine() api.Machine { return api.Machine{Regs: [api.Classes]int{5, 4}} }

func use(v int) api.Operand {
	return api.Operand{Kind: api.Use, Value: v, Limit: api.Anywhere}
}

func def(v int) api.Operand {
	return api.Operand{Kind: api.Def, Value: v, Limit: api.Anywhere}
}

func late(o api.Operand) api.Operand {
	o.Late = true
	return o
}

func lateUse(v int) api.Operand { return late(use(v)) }

func lateDef(v int) api.Operand { return late(def(v)) }

// in: an operand of this limit.
func in(limit int, o api.Operand) api.Operand {
	o.Limit = limit
	return o
}

// fixed: an operand that must be in the register n.
func fixed(o api.Operand, n int) api.Operand {
	o.Limit, o.N = api.Fixed, n
	return o
}

// reuse: a def where the operand n is.
func reuse(v, n int) api.Operand {
	return api.Operand{Kind: api.Def, Value: v, Late: true, Limit: api.Reuse, N: n}
}

func instr(l ...api.Operand) api.Instr { return api.Instr{Op: 1, Operands: l} }

func reg(class, n int) api.Reg { return api.Reg{Class: class, N: n} }

// spoils: an instruction that spoils these, too.
func spoils(x api.Instr, l ...api.Reg) api.Instr {
	x.Spoils = l
	return x
}

func instrs(l ...api.Instr) []api.Instr { return l }

func params(l ...int) []int { return l }

// to: an edge to a block, with args.
func to(block int, args ...int) api.Edge { return api.Edge{Block: block, Args: args} }

func edges(l ...api.Edge) []api.Edge { return l }

// fun with so many values, all of class 0.
func fun(values int, blocks ...api.Block) api.Func {
	return api.Func{Values: make([]int, values), Blocks: blocks}
}

// line: one block of these instructions.
func line(values int, l ...api.Instr) api.Func { return fun(values, api.Block{Instrs: l}) }

// classes of the values of a function are these.
func classes(f api.Func, l ...int) api.Func {
	f.Values = l
	return f
}

// on a register of a class, from a point up to another one, for a value.
func on(class, n, from, to, v int) api.Claim {
	return api.Claim{Reg: reg(class, n), Span: api.Span{From: from, To: to}, Value: v}
}

func claims(l ...api.Claim) []api.Claim { return l }

// row: a function, and what its instructions claim.
type row struct {
	name string
	f    api.Func
	want []api.Claim
}

func check(t *testing.T, rows []row) {
	t.Helper()
	for _, c := range rows {
		if got, e := claim.Claims(c.f, machine()); e != api.OK || !slices.Equal(got, c.want) {
			t.Errorf("%s: %v %d, want %v", c.name, got, e, c.want)
		}
	}
}

// P9.1: where no register is named, none is claimed.
func TestNothing(t *testing.T) {
	check(t, []row{
		{"no instructions", fun(0, api.Block{}), nil},
		{"an instruction of nothing", line(0, instr()), nil},
		{"other limits", line(4, instr(lateDef(0), in(api.Register, lateDef(1)), in(api.Stack, def(2))),
			instr(use(0), in(api.Register, lateUse(1)), in(api.Stack, use(2)), reuse(3, 0))), nil},
		{"a reuse of what must be in some register", line(2, instr(lateDef(0)), instr(in(api.Register, use(0)), reuse(1, 0))), nil},
		{"handed on", fun(2, api.Block{Instrs: instrs(instr(lateDef(0))), Edges: edges(to(1, 0))}, api.Block{Params: params(1)}), nil},
	})
}

// P9.1: what is spoilt is claimed at the late point, for nobody.
func TestSpoils(t *testing.T) {
	check(t, []row{
		{"one", line(0, spoils(instr(), reg(0, 2))), claims(on(0, 2, 2, 3, -1))},
		{"the first one and the last one of each class", line(0, spoils(instr(), reg(0, 0), reg(0, 4), reg(1, 0), reg(1, 3))),
			claims(on(0, 0, 2, 3, -1), on(0, 4, 2, 3, -1), on(1, 0, 2, 3, -1), on(1, 3, 2, 3, -1))},
		{"by a later instruction", line(0, instr(), instr(), spoils(instr(), reg(0, 2))), claims(on(0, 2, 6, 7, -1))},
		{"again and again", line(0, spoils(instr(), reg(1, 1)), instr(), spoils(instr(), reg(1, 1))), claims(on(1, 1, 2, 3, -1), on(1, 1, 6, 7, -1))},
		{"where values are needed in any place", line(1, instr(lateDef(0)), spoils(instr(use(0), lateUse(0)), reg(0, 1))), claims(on(0, 1, 4, 5, -1))},
		{"what was read there", line(1, instr(lateDef(0)), spoils(instr(fixed(use(0), 1)), reg(0, 1))), claims(on(0, 1, 3, 4, 0), on(0, 1, 4, 5, -1))},
	})
}

// P9.1: operands that have a fixed register: at the early point, at the late one, or at both.
func TestFixed(t *testing.T) {
	made := instr(lateDef(0))
	check(t, []row{
		{"read early", line(1, made, instr(fixed(use(0), 1))), claims(on(0, 1, 3, 4, 0))},
		{"read late", line(1, made, instr(fixed(lateUse(0), 1))), claims(on(0, 1, 3, 5, 0))},
		{"made early", line(1, instr(fixed(def(0), 1))), claims(on(0, 1, 1, 3, 0))},
		{"made late", line(1, instr(fixed(lateDef(0), 1))), claims(on(0, 1, 2, 3, 0))},
		{"the register 0", line(1, made, instr(fixed(use(0), 0))), claims(on(0, 0, 3, 4, 0))},
		{"the last one", line(1, made, instr(fixed(use(0), 4))), claims(on(0, 4, 3, 4, 0))},
		{"of the other class, at each point", classes(line(4, instr(lateDef(0), lateDef(1)), instr(fixed(use(0), 0), fixed(lateUse(1), 1), fixed(def(2), 2)), instr(fixed(lateDef(3), 3))), 1, 1, 1, 1),
			claims(on(1, 0, 3, 4, 0), on(1, 1, 3, 5, 1), on(1, 2, 3, 5, 2), on(1, 3, 6, 7, 3))},
		{"the same number of both classes", classes(line(2, instr(fixed(lateDef(0), 1), fixed(lateDef(1), 1))), 1, 0), claims(on(0, 1, 2, 3, 1), on(1, 1, 2, 3, 0))},
		{"one read, another one made", line(2, made, instr(fixed(use(0), 2), fixed(lateDef(1), 2))), claims(on(0, 2, 3, 4, 0), on(0, 2, 4, 5, 1))},
		{"one value in two registers", line(1, made, instr(fixed(use(0), 3), fixed(use(0), 1))), claims(on(0, 1, 3, 4, 0), on(0, 3, 3, 4, 0))},
		{"made in one register, read in another one", line(1, instr(fixed(lateDef(0), 2)), instr(fixed(use(0), 1))), claims(on(0, 1, 3, 4, 0), on(0, 2, 2, 3, 0))},
		{"instruction by instruction", line(1, instr(fixed(lateDef(0), 2)), instr(fixed(use(0), 2)), instr(fixed(use(0), 2))),
			claims(on(0, 2, 2, 3, 0), on(0, 2, 3, 4, 0), on(0, 2, 5, 6, 0))},
	})
}

// P9.1: a Reuse has the register of what it names, and claims it for its own value.
func TestReuses(t *testing.T) {
	both := instr(lateDef(0), lateDef(1))
	check(t, []row{
		{"of a fixed one", line(2, instr(lateDef(0)), instr(fixed(use(0), 1), reuse(1, 0))), claims(on(0, 1, 3, 4, 0), on(0, 1, 4, 5, 1))},
		{"ahead of what it names", line(2, instr(lateDef(0)), instr(reuse(1, 1), fixed(use(0), 1))), claims(on(0, 1, 3, 4, 0), on(0, 1, 4, 5, 1))},
		{"of one that is not the first", line(3, both, instr(use(0), fixed(use(1), 2), reuse(2, 1))), claims(on(0, 2, 3, 4, 1), on(0, 2, 4, 5, 2))},
		{"of one of two, beside a fixed one", line(3, both, instr(fixed(use(0), 2), use(1), reuse(2, 1))), claims(on(0, 2, 3, 4, 0))},
		{"crosswise", line(4, both, instr(fixed(use(0), 2), fixed(use(1), 0), reuse(2, 1), reuse(3, 0))),
			claims(on(0, 0, 3, 4, 1), on(0, 0, 4, 5, 2), on(0, 2, 3, 4, 0), on(0, 2, 4, 5, 3))},
		{"of the other class", classes(line(2, instr(lateDef(0)), instr(fixed(use(0), 3), reuse(1, 0))), 1, 1), claims(on(1, 3, 3, 4, 0), on(1, 3, 4, 5, 1))},
		{"of one that must be elsewhere behind", line(2, instr(lateDef(0)), instr(fixed(use(0), 1), reuse(1, 0)), instr(fixed(use(1), 0))),
			claims(on(0, 0, 5, 6, 1), on(0, 1, 3, 4, 0), on(0, 1, 4, 5, 1))},
	})
}

// P9.1: each claim once; those of other points are others.
func TestOnce(t *testing.T) {
	made := instr(lateDef(0))
	check(t, []row{
		{"read twice", line(1, made, instr(fixed(use(0), 1), fixed(use(0), 1))), claims(on(0, 1, 3, 4, 0))},
		{"read twice, with another one between", line(2, instr(lateDef(0), lateDef(1)), instr(fixed(use(0), 1), fixed(use(1), 2), fixed(use(0), 1))), claims(on(0, 1, 3, 4, 0), on(0, 2, 3, 4, 1))},
		{"as often as may be", classes(line(1, made, instr(slices.Repeat([]api.Operand{fixed(use(0), 1)}, 3)...)), 1), claims(on(1, 1, 3, 4, 0))},
		{"read late twice", line(1, made, instr(fixed(lateUse(0), 1), fixed(lateUse(0), 1))), claims(on(0, 1, 3, 5, 0))},
		{"read early and late", line(1, made, instr(fixed(lateUse(0), 1), fixed(use(0), 1))), claims(on(0, 1, 3, 4, 0), on(0, 1, 3, 5, 0))},
		{"read twice each, early and late", line(1, made, instr(fixed(lateUse(0), 1), fixed(use(0), 1), fixed(lateUse(0), 1), fixed(use(0), 1))), claims(on(0, 1, 3, 4, 0), on(0, 1, 3, 5, 0))},
		{"read twice, and made once of that", line(2, made, instr(fixed(use(0), 1), fixed(use(0), 1), reuse(1, 1))), claims(on(0, 1, 3, 4, 0), on(0, 1, 4, 5, 1))},
		{"in two instructions", line(1, made, instr(fixed(use(0), 1)), instr(fixed(use(0), 1))), claims(on(0, 1, 3, 4, 0), on(0, 1, 5, 6, 0))},
	})
}

// P9.1: by classes, then by numbers, then by points, however they are asked for.
func TestOrder(t *testing.T) {
	check(t, []row{
		{"classes ahead of numbers", classes(line(2, instr(fixed(lateDef(0), 0), fixed(lateDef(1), 3))), 1, 0), claims(on(0, 3, 2, 3, 1), on(1, 0, 2, 3, 0))},
		{"classes ahead of points", classes(line(2, instr(fixed(lateDef(0), 1)), instr(fixed(lateDef(1), 1))), 1, 0), claims(on(0, 1, 4, 5, 1), on(1, 1, 2, 3, 0))},
		{"numbers ahead of points", line(2, instr(fixed(lateDef(0), 3)), instr(fixed(lateDef(1), 1))), claims(on(0, 1, 4, 5, 1), on(0, 3, 2, 3, 0))},
		{"numbers ahead of values", line(2, instr(fixed(lateDef(0), 3), fixed(lateDef(1), 1))), claims(on(0, 1, 2, 3, 1), on(0, 3, 2, 3, 0))},
		{"points ahead of values", line(3, instr(lateDef(2)), instr(fixed(use(2), 1), fixed(lateDef(1), 1)), instr(fixed(lateDef(0), 1))),
			claims(on(0, 1, 3, 4, 2), on(0, 1, 4, 5, 1), on(0, 1, 6, 7, 0))},
		{"what is read ahead of what is spoilt", line(2, instr(lateDef(0), lateDef(1)), spoils(instr(fixed(use(1), 2), fixed(use(0), 1)), reg(0, 1), reg(0, 2))),
			claims(on(0, 1, 3, 4, 0), on(0, 1, 4, 5, -1), on(0, 2, 3, 4, 1), on(0, 2, 4, 5, -1))},
	})
}

// P9.1: points are counted block by block, whichever way one comes to these.
func TestBlocks(t *testing.T) {
	asks := func(n int, o api.Operand) []api.Instr { return instrs(instr(fixed(o, n))) }
	check(t, []row{
		{"a line, by falling numbers", fun(1,
			api.Block{Instrs: asks(1, lateDef(0)), Edges: edges(to(2))},
			api.Block{Instrs: asks(1, use(0))},
			api.Block{Instrs: asks(1, lateUse(0)), Edges: edges(to(1))}), claims(on(0, 1, 2, 3, 0), on(0, 1, 5, 6, 0), on(0, 1, 9, 11, 0))},
		{"behind a block without instructions", fun(1,
			api.Block{Edges: edges(to(1))},
			api.Block{Instrs: asks(1, lateDef(0))}), claims(on(0, 1, 4, 5, 0))},
		{"a fork", fun(2,
			api.Block{Instrs: asks(1, lateDef(0)), Edges: edges(to(1), to(2))},
			api.Block{Instrs: asks(0, use(0)), Edges: edges(to(3, 0))},
			api.Block{Instrs: instrs(spoils(instr(), reg(0, 1))), Edges: edges(to(3, 0))},
			api.Block{Params: params(1), Instrs: asks(0, use(1))}),
			claims(on(0, 0, 5, 6, 0), on(0, 0, 13, 14, 1), on(0, 1, 2, 3, 0), on(0, 1, 10, 11, -1))},
		{"a loop", ring(fixed(use(1), 2), reuse(2, 0)), claims(on(0, 2, 5, 6, 1), on(0, 2, 6, 7, 2))},
	})
}

// ring: the first block makes 0, the second one, which has the param 1, makes 2 of it and hands that on to itself.
func ring(l ...api.Operand) api.Func {
	return fun(3, api.Block{Instrs: instrs(instr(lateDef(0))), Edges: edges(to(1, 0))}, api.Block{Params: params(1), Instrs: instrs(instr(l...)), Edges: edges(to(1, 2))})
}

// P9.1: as many instructions as there may be, each with as many spoils.
func TestMostClaims(t *testing.T) {
	m := api.Machine{Regs: [api.Classes]int{api.MaxRegs, api.MaxRegs}}
	var l []api.Reg
	for n := range api.Classes * (api.MaxRegs - 1) {
		l = append(l, reg(n/(api.MaxRegs-1), 1+n%(api.MaxRegs-1)))
	}
	f := chain(spoils(instr(), l...))
	got, e := claim.Claims(f, m)
	if e != api.OK || len(got) != api.MaxAll*len(l) {
		t.Fatalf("%d claims, and %d", len(got), e)
	}
	for i, c := range got {
		// Each block has two points more than its instructions have.
		at := i % api.MaxAll
		if point := 2 + 2*at + 2*(at/api.MaxInstrs); c != (api.Claim{Reg: l[i/api.MaxAll], Span: api.Span{From: point, To: point + 1}, Value: -1}) {
			t.Fatalf("the claim %d: %v, want one of %v at %d", i, c, l[i/api.MaxAll], point)
		}
	}
}

// chain of blocks, with as many instructions as there may be, all the same.
func chain(x api.Instr) api.Func {
	var f api.Func
	for b := range api.MaxAll / api.MaxInstrs {
		f.Blocks = append(f.Blocks, api.Block{Instrs: slices.Repeat(instrs(x), api.MaxInstrs), Edges: edges(to(b + 1))})
	}
	f.Blocks[len(f.Blocks)-1].Edges = nil
	return f
}

// refused functions, and with which error.
func refused() []struct {
	name string
	f    api.Func
	want api.Errno
} {
	fork := api.Block{Instrs: instrs(instr()), Edges: edges(to(1), to(2))}
	made := instr(lateDef(0))
	return []struct {
		name string
		f    api.Func
		want api.Errno
	}{
		{"no blocks", api.Func{}, api.ErrSize},
		{"too many blocks", fun(0, make([]api.Block, api.MaxBlocks+1)...), api.ErrSize},
		{"too many values", fun(api.MaxValues+1, api.Block{}), api.ErrSize},
		{"too many spoils", line(0, spoils(instr(), make([]api.Reg, api.Classes*api.MaxRegs+1)...)), api.ErrSize},
		{"a class that is none", classes(line(1, made), 2), api.ErrClass},
		{"a spoil of no class", line(0, spoils(instr(), reg(2, 0))), api.ErrRange},
		{"the scratch is spoilt", line(0, spoils(instr(), reg(0, 5))), api.ErrRange},
		{"spoils the wrong way round", line(0, spoils(instr(), reg(0, 2), reg(0, 1))), api.ErrForm},
		{"a spoil twice", line(0, spoils(instr(), reg(0, 2), reg(0, 2))), api.ErrForm},
		{"fixed in the scratch", line(1, instr(fixed(lateDef(0), 5))), api.ErrRange},
		{"fixed in the scratch of the other class", classes(line(1, instr(fixed(lateDef(0), 4))), 1), api.ErrRange},
		{"fixed below all registers", line(1, instr(fixed(lateDef(0), -1))), api.ErrRange},
		{"made where is spoilt", line(1, spoils(instr(fixed(lateDef(0), 1)), reg(0, 1))), api.ErrClash},
		{"read late where is spoilt", line(1, made, spoils(instr(fixed(lateUse(0), 1)), reg(0, 1))), api.ErrClash},
		{"a reuse of what is spoilt", line(2, made, spoils(instr(fixed(use(0), 1), reuse(1, 0)), reg(0, 1))), api.ErrClash},
		{"two in one register", line(2, instr(fixed(lateDef(0), 1), fixed(lateDef(1), 1))), api.ErrClash},
		{"a reuse of no operand", line(2, made, instr(fixed(use(0), 1), reuse(1, 2))), api.ErrNone},
		{"a reuse of no operand, by far", line(2, made, instr(fixed(use(0), 1), reuse(1, -1<<63))), api.ErrNone},
		{"a reuse of itself", line(1, instr(reuse(0, 0))), api.ErrForm},
		{"a reuse of another class", classes(line(2, made, instr(fixed(use(0), 1), reuse(1, 0))), 0, 1), api.ErrClass},
		{"all registers are spoilt", line(0, spoils(instr(), reg(1, 0), reg(1, 1), reg(1, 2), reg(1, 3))), api.ErrFull},
		{"no such value", line(1, made, instr(use(1))), api.ErrRange},
		{"no such param", fun(0, api.Block{Edges: edges(to(1))}, api.Block{Params: params(0)}), api.ErrForm},
		{"no such arg", fun(1, api.Block{Edges: edges(to(1, 1))}, api.Block{Params: params(0)}), api.ErrRange},
		{"made twice", line(1, made, made), api.ErrTwice},
		{"not made", line(1, instr(use(0))), api.ErrNone},
		{"an edge to no block", fun(0, api.Block{Edges: edges(to(1))}), api.ErrNone},
		{"a block to which nothing comes", fun(0, api.Block{}, api.Block{}), api.ErrDead},
		{"an edge from many to many", fun(0, fork, api.Block{Edges: edges(to(2))}, api.Block{}), api.ErrEdge},
		{"used ahead of where it is made", line(1, instr(use(0)), made), api.ErrUse},
	}
}

// P9.1, P9.2: what flow's Check refuses, with nothing else.
func TestRefused(t *testing.T) {
	tell := func(name string, f api.Func, m api.Machine, want api.Errno) {
		t.Helper()
		if got, e := claim.Claims(f, m); e != want || len(got) > 0 {
			t.Errorf("%s: claims %v %d, want %d", name, got, e, want)
		}
		if got, e := claim.Prices(f, m); e != want || len(got) > 0 {
			t.Errorf("%s: prices %v %d, want %d", name, got, e, want)
		}
	}
	for _, c := range refused() {
		tell(c.name, c.f, machine(), c.want)
	}
	f := ring(fixed(use(1), 1), reuse(2, 0))
	tell("a machine of nothing", f, api.Machine{}, api.ErrRange)
	tell("too few registers of a class", f, api.Machine{Regs: [api.Classes]int{4, 1}}, api.ErrRange)
	tell("too many of one", f, api.Machine{Regs: [api.Classes]int{api.MaxRegs + 1, 4}}, api.ErrRange)
	tell("a register that this machine has not", ring(fixed(use(1), 2), reuse(2, 0)), api.Machine{Regs: [api.Classes]int{2, 2}}, api.ErrRange)
}
