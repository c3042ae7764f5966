package mach_test

import (
	"fmt"
	"math"
	"slices"
	"strings"
	"testing"

	"ostler/api"
	"ostler/mach"
	"ostler/run"
)

func machine() api.Machine { return api.Machine{Regs: [api.Classes]int{5, 4}} }

func use(v int) api.Operand {
	return api.Operand{Kind: api.Use, Value: v, Limit: api.Anywhere}
}

func lateUse(v int) api.Operand {
	return api.Operand{Kind: api.Use, Value: v, Late: true, Limit: api.Anywhere}
}

func def(v int) api.Operand {
	return api.Operand{Kind: api.Def, Value: v, Limit: api.Anywhere}
}

func lateDef(v int) api.Operand {
	return api.Operand{Kind: api.Def, Value: v, Late: true, Limit: api.Anywhere}
}

func instr(op int, l ...api.Operand) api.Instr { return api.Instr{Op: op, Operands: l} }

func instrs(l ...api.Instr) []api.Instr { return l }

// spoiling: an instruction that spoils registers of class 0.
func spoiling(x api.Instr, l ...int) api.Instr {
	for _, n := range l {
		x.Spoils = append(x.Spoils, api.Reg{N: n})
	}
	return x
}

// to: edges to blocks without params.
func to(l ...int) []api.Edge {
	var edges []api.Edge
	for _, b := range l {
		edges = append(edges, api.Edge{Block: b})
	}
	return edges
}

// with: the one edge to a block with params.
func with(block int, args ...int) []api.Edge {
	return []api.Edge{{Block: block, Args: args}}
}

// fun with so many values, all of class 0.
func fun(values int, blocks ...api.Block) api.Func {
	return api.Func{Values: make([]int, values), Blocks: blocks}
}

// line: one block of these instructions.
func line(values int, l ...api.Instr) api.Func { return fun(values, api.Block{Instrs: l}) }

// reg of class 0.
func reg(n int) api.Place { return api.Place{Kind: api.InReg, N: n} }

// other: a register of class 1.
func other(n int) api.Place { return api.Place{Kind: api.InReg, Class: 1, N: n} }

func slot(n int) api.Place { return api.Place{Kind: api.InSlot, N: n} }

// at: the places of an instruction's operands.
func at(l ...api.Place) []api.Place { return l }

// row: the places of a block's instructions.
func row(l ...[]api.Place) [][]api.Place { return l }

// moves between places that stand in pairs: from, to.
func moves(l ...api.Place) []api.Move {
	var all []api.Move
	for pair := range slices.Chunk(l, 2) {
		all = append(all, api.Move{From: pair[0], To: pair[1]})
	}
	return all
}

func edit(block, at int, l ...api.Place) api.Edit {
	return api.Edit{Block: block, At: at, Moves: moves(l...)}
}

func edits(l ...api.Edit) []api.Edit { return l }

// output of so many slots, without edits.
func output(frame int, rows ...[][]api.Place) api.Output {
	return api.Output{Places: rows, Frame: frame}
}

// flat text of an answer; an empty list may be nil or not.
func flat(l ...any) string { return strings.ReplaceAll(fmt.Sprint(l...), "<nil>", "[]") }

// two blocks: the first one has two instructions, the second one has one.
func two() api.Func {
	return fun(2,
		api.Block{Instrs: instrs(instr(1, lateDef(0)), instr(2, use(0), lateDef(1))), Edges: to(1)},
		api.Block{Instrs: instrs(instr(3, use(1)))})
}

// P5.1
func TestCheckPlaces(t *testing.T) {
	first, second, third := at(reg(0)), at(reg(0), reg(1)), at(reg(1))
	good := output(3, row(first, second), row(third))
	one := func(frame int, p api.Place) api.Output { return output(frame, row(first, second), row(at(p))) }
	for _, c := range []struct {
		name string
		o    api.Output
		want api.Errno
	}{
		{"as it should be", good, api.OK},
		{"no slots", output(0, row(first, second), row(third)), api.OK},
		{"as many slots as may be", output(api.MaxFrame, row(first, second), row(third)), api.OK},
		{"a frame below 0", output(-1, row(first, second), row(third)), api.ErrSize},
		{"a frame far below 0", output(math.MinInt, row(first, second), row(third)), api.ErrSize},
		{"too many slots", output(api.MaxFrame+1, row(first, second), row(third)), api.ErrSize},
		{"far too many slots", output(math.MaxInt, row(first, second), row(third)), api.ErrSize},
		{"too many slots, and no places", output(api.MaxFrame + 1), api.ErrSize},

		{"no places", output(3), api.ErrForm},
		{"no places of a block", output(3, row(first, second)), api.ErrForm},
		{"places of a block more", output(3, row(first, second), row(third), row()), api.ErrForm},
		{"no places of the last instruction", output(3, row(first), row(third)), api.ErrForm},
		{"no places of any instruction", output(3, row(first, second), row()), api.ErrForm},
		{"no places of an instruction, as a list that is nil", output(3, nil, row(third)), api.ErrForm},
		{"places of an instruction more", output(3, row(first, second), row(third, at())), api.ErrForm},
		{"one place too few", output(3, row(first, at(reg(0))), row(third)), api.ErrForm},
		{"one place too many", output(3, row(first, at(reg(0), reg(1), reg(2))), row(third)), api.ErrForm},
		{"no place", output(3, row(at(), second), row(third)), api.ErrForm},

		{"the last register", one(3, reg(4)), api.OK},
		{"the scratch", one(3, reg(5)), api.ErrRange},
		{"far behind the last register", one(3, reg(math.MaxInt)), api.ErrRange},
		{"a register below 0", one(3, reg(-1)), api.ErrRange},
		{"a register far below 0", one(3, reg(math.MinInt)), api.ErrRange},
		{"of another class than the value", one(3, other(0)), api.OK},
		{"the last register of the other class", one(3, other(3)), api.OK},
		{"the scratch of the other class", one(3, other(4)), api.ErrRange},
		{"a class that is none", one(3, api.Place{Kind: api.InReg, Class: 2}), api.ErrRange},
		{"a class below 0", one(3, api.Place{Kind: api.InReg, Class: -1}), api.ErrRange},
		{"the first slot", one(3, slot(0)), api.OK},
		{"the last slot", one(3, slot(2)), api.OK},
		{"behind the last slot", one(3, slot(3)), api.ErrRange},
		{"far behind the last slot", one(3, slot(math.MaxInt)), api.ErrRange},
		{"a slot below 0", one(3, slot(-1)), api.ErrRange},
		{"a slot of an empty frame", one(0, slot(0)), api.ErrRange},
		{"the last slot of all", one(api.MaxFrame, slot(api.MaxFrame-1)), api.OK},
		{"a slot with a class", one(3, api.Place{Kind: api.InSlot, Class: 1}), api.ErrRange},
		{"a slot with a class below 0", one(3, api.Place{Kind: api.InSlot, Class: -1}), api.ErrRange},
		{"no kind", one(3, api.Place{}), api.ErrRange},
		{"a kind that is none", one(3, api.Place{Kind: 3}), api.ErrRange},
		{"a kind below 0", one(3, api.Place{Kind: -1}), api.ErrRange},

		{"how many blocks there are tells ahead of a place", output(3, row(at(reg(9)), second)), api.ErrForm},
		{"a place tells ahead of what its block's next instruction has", output(3, row(at(reg(9)), at()), row(third)), api.ErrRange},
		{"a place tells ahead of what the next block has", output(3, row(first, at(reg(0), reg(9))), row()), api.ErrRange},
		{"how many instructions a block has tells ahead of its places", output(3, row(at(reg(9))), row(third)), api.ErrForm},
		{"how many operands there are tells ahead of their places", output(3, row(first, at(reg(9))), row(third)), api.ErrForm},
		{"how many operands there are tells ahead of the next place", output(3, row(at(), at(reg(9), reg(9))), row(third)), api.ErrForm},
	} {
		if got := mach.Check(two(), machine(), c.o); got != c.want {
			t.Errorf("%s: %d, want %d", c.name, got, c.want)
		}
	}
	bare := fun(0, api.Block{Edges: to(1)}, api.Block{})
	for _, rows := range [][][][]api.Place{{nil, nil}, {{}, {}}} {
		if got := mach.Check(bare, machine(), output(0, rows...)); got != api.OK {
			t.Errorf("blocks without instructions: %d", got)
		}
	}
	if got := mach.Check(line(0, instr(1)), machine(), output(0, row(nil))); got != api.OK {
		t.Errorf("an instruction without operands: %d", got)
	}
}

// P5.1: what flow's Check refuses comes first.
func TestCheckFunc(t *testing.T) {
	bad := output(-1)
	for _, c := range []struct {
		name string
		f    api.Func
		m    api.Machine
		want api.Errno
	}{
		{"no machine", two(), api.Machine{}, api.ErrRange},
		{"one register too many", two(), api.Machine{Regs: [api.Classes]int{5, api.MaxRegs + 1}}, api.ErrRange},
		{"no blocks", api.Func{}, machine(), api.ErrSize},
		{"no such value", line(1, instr(1, def(0)), instr(1, use(1))), machine(), api.ErrRange},
		{"a block to which nothing comes", fun(0, api.Block{}, api.Block{}), machine(), api.ErrDead},
		{"an edge from many to many", fun(0, api.Block{Instrs: instrs(instr(1)), Edges: to(1, 2)}, api.Block{Edges: to(2)}, api.Block{}), machine(), api.ErrEdge},
		{"used ahead of where it is made", line(1, instr(1, use(0)), instr(1, def(0))), machine(), api.ErrUse},
		{"nothing", two(), machine(), api.ErrSize},
	} {
		if got := mach.Check(c.f, c.m, bad); got != c.want {
			t.Errorf("%s: %d, want %d", c.name, got, c.want)
		}
		if got, e := mach.Run(c.f, c.m, bad, 1, nil, 9); e != c.want || len(got) > 0 {
			t.Errorf("%s: %v %d, want %d", c.name, got, e, c.want)
		}
	}
}

// P5.2: where edits may stand.
func TestCheckEdits(t *testing.T) {
	good := output(3, row(at(reg(0)), at(reg(0), reg(1))), row(at(reg(1))))
	no := api.Place{}
	for _, c := range []struct {
		name  string
		edits []api.Edit
		want  api.Errno
	}{
		{"none", nil, api.OK},
		{"everywhere", edits(edit(0, 0), edit(0, 1), edit(0, 2), edit(1, 0), edit(1, 1)), api.OK},
		{"behind the last instruction", edits(edit(1, 1)), api.OK},
		{"a block below 0", edits(edit(-1, 0)), api.ErrRange},
		{"no such block", edits(edit(2, 0)), api.ErrRange},
		{"far behind the last block", edits(edit(math.MaxInt, 0)), api.ErrRange},
		{"below 0", edits(edit(0, -1)), api.ErrRange},
		{"far below 0", edits(edit(0, math.MinInt)), api.ErrRange},
		{"too far in the first block", edits(edit(0, 3)), api.ErrRange},
		{"too far in the second block", edits(edit(1, 2)), api.ErrRange},
		{"far too far", edits(edit(1, math.MaxInt)), api.ErrRange},
		{"the same again", edits(edit(0, 1), edit(0, 1)), api.ErrForm},
		{"back in a block", edits(edit(0, 1), edit(0, 0)), api.ErrForm},
		{"back by a block", edits(edit(1, 0), edit(0, 2)), api.ErrForm},
		{"back in the next block", edits(edit(0, 2), edit(1, 0)), api.OK},
		{"back, behind one that is in order", edits(edit(0, 0), edit(1, 1), edit(0, 1)), api.ErrForm},
		{"back, far behind", edits(edit(0, 0), edit(0, 1), edit(0, 2), edit(0, 2)), api.ErrForm},

		{"where it stands tells ahead of the order", edits(edit(0, 1), edit(0, -1)), api.ErrRange},
		{"the order tells ahead of moves", edits(edit(0, 1), edit(0, 1, reg(0), no)), api.ErrForm},
		{"where it stands tells ahead of moves", edits(edit(0, 7, slot(0), slot(1))), api.ErrRange},
		{"moves tell ahead of the next edit", edits(edit(0, 1, slot(0), slot(1)), edit(0, 1)), api.ErrLimit},
		{"moves tell ahead of where the next edit stands", edits(edit(0, 1, reg(0), other(1)), edit(7, 1)), api.ErrClass},
		{"moves tell one by one", edits(edit(0, 1, reg(0), other(1), slot(0), slot(1), no, no)), api.ErrClass},
		{"moves tell one by one, in order", edits(edit(0, 1, reg(0), reg(1), slot(0), slot(1), reg(0), other(1))), api.ErrLimit},
	} {
		good.Edits = c.edits
		if got := mach.Check(two(), machine(), good); got != c.want {
			t.Errorf("%s: %d, want %d", c.name, got, c.want)
		}
	}
	good.Edits = edits(edit(9, 9))
	good.Places[1][0] = at(reg(9), reg(9))
	if got := mach.Check(two(), machine(), good); got != api.ErrForm {
		t.Errorf("places tell ahead of edits: %d", got)
	}
	good.Places[1][0] = at(reg(5))
	good.Edits = edits(edit(0, 1), edit(0, 1))
	if got := mach.Check(two(), machine(), good); got != api.ErrRange {
		t.Errorf("a place tells ahead of edits: %d", got)
	}
	bare := output(0, nil, nil)
	for i, want := range []api.Errno{api.OK, api.ErrRange} {
		bare.Edits = edits(edit(1, i))
		if got := mach.Check(fun(0, api.Block{Edges: to(1)}, api.Block{}), machine(), bare); got != want {
			t.Errorf("a block without instructions, at %d: %d, want %d", i, got, want)
		}
	}
}

// P5.2: what a move may be.
func TestCheckMove(t *testing.T) {
	for _, c := range []struct {
		name     string
		from, to api.Place
		want     api.Errno
	}{
		{"from a register to another one", reg(0), reg(4), api.OK},
		{"from a register to itself", reg(0), reg(0), api.OK},
		{"of the other class", other(3), other(0), api.OK},
		{"from a slot", slot(2), reg(0), api.OK},
		{"to a slot", other(0), slot(0), api.OK},
		{"from a scratch", reg(5), reg(0), api.OK},
		{"to a scratch", other(0), other(4), api.OK},
		{"from a slot to a scratch", slot(0), other(4), api.OK},
		{"from a scratch to a slot", reg(5), slot(2), api.OK},
		{"from a slot to another one", slot(0), slot(1), api.ErrLimit},
		{"from a slot to itself", slot(0), slot(0), api.ErrLimit},
		{"from class to class", reg(0), other(0), api.ErrClass},
		{"from class to class, the other way", other(0), reg(0), api.ErrClass},
		{"from scratch to scratch", reg(5), other(4), api.ErrClass},
		{"behind the scratch", reg(6), reg(0), api.ErrRange},
		{"to behind the scratch", other(0), other(5), api.ErrRange},
		{"from below 0", reg(-1), reg(0), api.ErrRange},
		{"to below 0", reg(0), reg(-1), api.ErrRange},
		{"from a class that is none", api.Place{Kind: api.InReg, Class: 2}, reg(0), api.ErrRange},
		{"to a class that is none", reg(0), api.Place{Kind: api.InReg, Class: -1}, api.ErrRange},
		{"from behind the last slot", slot(3), reg(0), api.ErrRange},
		{"to behind the last slot", reg(0), slot(3), api.ErrRange},
		{"from a slot below 0", slot(-1), reg(0), api.ErrRange},
		{"from a slot with a class", api.Place{Kind: api.InSlot, Class: 1}, other(0), api.ErrRange},
		{"to a slot with a class", other(0), api.Place{Kind: api.InSlot, Class: 1}, api.ErrRange},
		{"from no kind", api.Place{}, reg(0), api.ErrRange},
		{"to a kind that is none", reg(0), api.Place{Kind: 3}, api.ErrRange},
		{"no places at all", api.Place{}, api.Place{}, api.ErrRange},
		{"no such slots", slot(0), slot(3), api.ErrRange},
		{"no such classes", reg(0), api.Place{Kind: api.InReg, Class: 7}, api.ErrRange},
	} {
		o := output(3, row(at(reg(0)), at(reg(0), reg(1))), row(at(reg(1))))
		o.Edits = edits(edit(1, 0, c.from, c.to))
		if got := mach.Check(two(), machine(), o); got != c.want {
			t.Errorf("%s: %d, want %d", c.name, got, c.want)
		}
		o.Edits = edits(edit(0, 0, reg(0), reg(1)), edit(0, 2, reg(0), reg(1), c.from, c.to, reg(0), other(0)))
		want := c.want
		if want == api.OK {
			want = api.ErrClass
		}
		if got := mach.Check(two(), machine(), o); got != want {
			t.Errorf("%s, among others: %d, want %d", c.name, got, want)
		}
	}
}

// P5.2: how many moves there may be.
func TestCheckMoves(t *testing.T) {
	many := func(n int, m api.Move) []api.Move { return slices.Repeat([]api.Move{m}, n) }
	good, bad := api.Move{From: reg(0), To: reg(1)}, api.Move{}
	for _, c := range []struct {
		name  string
		edits []api.Edit
		want  api.Errno
	}{
		{"as many as may be", edits(api.Edit{Moves: many(api.MaxMoves, good)}), api.OK},
		{"one more", edits(api.Edit{Moves: many(api.MaxMoves+1, good)}), api.ErrSize},
		{"as many as may be, together", edits(api.Edit{Moves: many(api.MaxMoves-2, good)}, api.Edit{At: 1, Moves: many(2, good)}), api.OK},
		{"one more, together", edits(api.Edit{Moves: many(api.MaxMoves-2, good)}, api.Edit{At: 1, Moves: many(3, good)}), api.ErrSize},
		{"one more, in the next block", edits(api.Edit{Moves: many(api.MaxMoves, good)}, api.Edit{Block: 1, Moves: many(1, good)}), api.ErrSize},
		{"as many as may be, and an edit without moves", edits(api.Edit{Moves: many(api.MaxMoves, good)}, api.Edit{At: 2}), api.OK},
		{"too many, and none may be", edits(api.Edit{Moves: many(api.MaxMoves+1, bad)}), api.ErrSize},
		{"too many with the next edit, and none may be", edits(api.Edit{Moves: many(api.MaxMoves, bad)}, api.Edit{At: 1, Moves: many(1, good)}), api.ErrRange},
		{"too many, back", edits(api.Edit{At: 1}, api.Edit{Moves: many(api.MaxMoves+1, good)}), api.ErrForm},
		{"too many, nowhere", edits(api.Edit{At: 1}, api.Edit{At: 9, Moves: many(api.MaxMoves+1, good)}), api.ErrRange},
	} {
		o := output(3, row(at(reg(0)), at(reg(0), reg(1))), row(at(reg(1))))
		o.Edits = c.edits
		if got := mach.Check(two(), machine(), o); got != c.want {
			t.Errorf("%s: %d, want %d", c.name, got, c.want)
		}
	}
}

// counted: so much junk, all of it different: 100, 101, ..
func counted(n int) []int {
	var l []int
	for i := range n {
		l = append(l, 100+i)
	}
	return l
}

// look: what a place has at the beginning, a scratch too.
func look(t *testing.T, m api.Machine, p api.Place, frame int, junk []int) int {
	t.Helper()
	f := line(1, instr(1, lateDef(0)), instr(2, use(0)))
	// A value must be made ahead of where it is read: it is laid where nobody looks.
	hide := reg(0)
	if p == hide {
		hide = reg(1)
	}
	o := output(frame, row(at(hide), at(p)))
	if p.Kind == api.InReg && p.N == m.Regs[p.Class] {
		free := api.Place{Kind: api.InReg, Class: p.Class, N: 1}
		o.Places[0][1] = at(free)
		o.Edits = edits(edit(0, 1, p, free))
	}
	got, e := mach.Run(f, m, o, 1, junk, 9)
	if e != api.OK || len(got) != 2 || len(got[1].Read) != 1 {
		t.Fatalf("%v: %v %d", p, got, e)
	}
	return got[1].Read[0]
}

// P5.3: what each place has at the beginning.
func TestJunk(t *testing.T) {
	for _, regs := range [][api.Classes]int{{5, 4}, {2, 2}, {2, 10}, {10, 2}, {10, 10}} {
		m := api.Machine{Regs: regs}
		for _, n := range []int{0, 1, 2, 3, 13, api.MaxJunk} {
			junk, next := counted(n), 0
			expect := func(p api.Place, frame int) {
				t.Helper()
				want := 0
				if n > 0 {
					want = junk[next%n]
				}
				if got := look(t, m, p, frame, junk); got != want {
					t.Errorf("%v, junk of %d: %v has %d, want %d", regs, n, p, got, want)
				}
				next++
			}
			for class, most := range regs {
				for r := range most + 1 {
					expect(api.Place{Kind: api.InReg, Class: class, N: r}, 90)
				}
			}
			for s := range 90 {
				expect(slot(s), 90)
			}
		}
	}
	if got := look(t, machine(), slot(api.MaxFrame-1), api.MaxFrame, counted(7)); got != 100+(6+5+api.MaxFrame-1)%7 {
		t.Errorf("the last slot of all: %d", got)
	}
	for _, n := range []int{math.MinInt, -1, math.MaxInt} {
		if got := look(t, machine(), slot(1), 2, []int{n}); got != n {
			t.Errorf("junk that is %d: %d", n, got)
		}
	}
}

// ran: an output, and what it does.
type ran struct {
	name  string
	f     api.Func
	o     api.Output
	steps int
	want  string
}

func (c ran) test(t *testing.T) {
	t.Helper()
	// At the beginning the registers have 100 to 105 and 106 to 110, the slots have 111 and so on.
	if got, e := mach.Run(c.f, machine(), c.o, 10, counted(api.MaxJunk), c.steps); e != api.OK || flat(got) != c.want {
		t.Errorf("%s: %v %d, want %s", c.name, got, e, c.want)
	}
}

// ten: what is made with the seed 10.
func ten(l ...int) int { return run.Mix(append([]int{10}, l...)) }

// P5.3: moves of edits, and the events.
func TestMoves(t *testing.T) {
	made := ten(1, 0)
	// It makes the value 0, at register 0, and reads it six times.
	six := line(1, instr(1, lateDef(0)), instr(2, use(0), use(0), use(0), use(0), use(0), use(0)))
	all := output(2, row(at(reg(0)), at(reg(0), reg(1), reg(2), other(0), slot(0), slot(1))))
	with6 := func(l ...api.Edit) api.Output {
		o := all
		o.Edits = l
		return o
	}
	loop := fun(1, api.Block{Instrs: instrs(instr(1, lateDef(0))), Edges: to(1)}, api.Block{Edges: to(2)}, api.Block{Instrs: instrs(instr(2, use(0), use(0))), Edges: to(1)})
	turn := output(0, row(at(reg(0))), nil, row(at(reg(0), reg(1))))
	turn.Edits = edits(edit(1, 0, reg(0), reg(5), reg(1), reg(0), reg(5), reg(1)))
	ends := turn
	ends.Edits = edits(edit(2, 1, reg(0), reg(5), reg(1), reg(0), reg(5), reg(1)))
	begins := turn
	begins.Edits = edits(edit(2, 0, reg(0), reg(5), reg(1), reg(0), reg(5), reg(1)))
	both := turn
	both.Edits = edits(edit(2, 0, reg(1), reg(0)), edit(2, 1, reg(2), reg(1)))
	for _, c := range []ran{
		{"no edits", six, all, 9, flat("[{0 0 [] -1} {0 1 [", made, " 101 102 106 111 112] -1}]")},
		{"a move", six, with6(edit(0, 1, reg(0), reg(1))), 9, flat("[{0 0 [] -1} {0 1 [", made, " ", made, " 102 106 111 112] -1}]")},
		{"a move from where it is made, ahead of that", six, with6(edit(0, 0, reg(0), reg(1))), 9, flat("[{0 0 [] -1} {0 1 [", made, " 100 102 106 111 112] -1}]")},
		{"a move to where it is made, ahead of that", six, with6(edit(0, 0, reg(1), reg(0))), 9, flat("[{0 0 [] -1} {0 1 [", made, " 101 102 106 111 112] -1}]")},
		{"a move behind all", six, with6(edit(0, 2, reg(0), reg(1))), 9, flat("[{0 0 [] -1} {0 1 [", made, " 101 102 106 111 112] -1}]")},
		{"one by one, not all at once", six, with6(edit(0, 1, reg(0), reg(1), reg(1), reg(2))), 9, flat("[{0 0 [] -1} {0 1 [", made, " ", made, " ", made, " 106 111 112] -1}]")},
		{"one by one, in order", six, with6(edit(0, 1, reg(1), reg(2), reg(0), reg(1))), 9, flat("[{0 0 [] -1} {0 1 [", made, " ", made, " 101 106 111 112] -1}]")},
		{"to and from slots", six, with6(edit(0, 1, reg(0), slot(1), slot(0), other(0), reg(1), slot(0))), 9, flat("[{0 0 [] -1} {0 1 [", made, " 101 102 111 101 ", made, "] -1}]")},
		{"by a scratch", six, with6(edit(0, 0, slot(1), reg(5)), edit(0, 1, reg(5), reg(2), other(4), slot(0))), 9, flat("[{0 0 [] -1} {0 1 [", made, " 101 112 106 110 112] -1}]")},
		{"to itself", six, with6(edit(0, 1, reg(2), reg(2))), 9, flat("[{0 0 [] -1} {0 1 [", made, " 101 102 106 111 112] -1}]")},
		{"in a block without instructions, each time", loop, turn, 11, flat("[{0 0 [] 0} {2 0 [101 ", made, "] 0} {2 0 [", made, " 101] 0} {2 0 [101 ", made, "] 0}]")},
		{"behind the last instruction, ahead of the edge", loop, ends, 11, flat("[{0 0 [] 0} {2 0 [", made, " 101] 0} {2 0 [101 ", made, "] 0} {2 0 [", made, " 101] 0}]")},
		{"ahead of an instruction, each time", loop, begins, 11, flat("[{0 0 [] 0} {2 0 [101 ", made, "] 0} {2 0 [", made, " 101] 0} {2 0 [101 ", made, "] 0}]")},
		{"ahead and behind", loop, both, 11, "[{0 0 [] 0} {2 0 [101 101] 0} {2 0 [102 102] 0} {2 0 [102 102] 0}]"},
		{"params and Args are not looked at",
			fun(2, api.Block{Instrs: instrs(instr(1, lateDef(0))), Edges: with(1, 0)}, api.Block{Params: []int{1}, Instrs: instrs(instr(2, use(1), use(0)))}),
			output(0, row(at(reg(0))), row(at(reg(1), reg(0)))), 9, flat("[{0 0 [] 0} {1 0 [101 ", made, "] -1}]")},
		{"the value of an operand is not looked at",
			line(2, instr(1, lateDef(0)), instr(2, lateDef(1)), instr(3, use(0), use(1))),
			output(0, row(at(reg(0)), at(reg(1)), at(reg(1), reg(0)))), 9, flat("[{0 0 [] -1} {0 1 [] -1} {0 2 [", ten(2, 0), " ", made, "] -1}]")},
	} {
		c.test(t)
	}
}

// P5.4: in which order an instruction reads, spoils and makes.
func TestInstr(t *testing.T) {
	// The value 0 is made at register 0; then comes the instruction of the case; then the places are read that it tells.
	made := ten(1, 0)
	whole := func(values int, x api.Instr, places []api.Place, seen ...api.Place) (api.Func, api.Output) {
		end := instr(3)
		for range seen {
			end.Operands = append(end.Operands, use(0))
		}
		return line(values, instr(1, lateDef(0)), x, end), output(2, row(at(reg(0)), places, seen))
	}
	for _, c := range []struct {
		name   string
		values int
		x      api.Instr
		places []api.Place
		seen   []api.Place
		reads  []int
		ends   []int
	}{
		{"an early use", 1, instr(2, use(0)), at(reg(0)), at(reg(0)), []int{made}, []int{made}},
		{"a late use", 1, instr(2, lateUse(0)), at(reg(0)), at(reg(0)), []int{made}, []int{made}},
		{"in the order of the operands", 1, instr(2, lateUse(0), use(0), lateUse(0), use(0)), at(reg(1), reg(2), other(0), slot(1)), at(reg(0)), []int{101, 102, 106, 112}, []int{made}},
		{"a late def where an early use is", 2, instr(2, use(0), lateDef(1)), at(reg(0), reg(0)), at(reg(0)), []int{made}, []int{ten(2, 1, made)}},
		{"a late def where a late use is", 2, instr(2, lateUse(0), lateDef(1)), at(reg(0), reg(0)), at(reg(0)), []int{made}, []int{ten(2, 1, made)}},
		{"an early def where an early use is", 2, instr(2, def(1), use(0)), at(reg(0), reg(0)), at(reg(0)), []int{made}, []int{ten(2, 0, made)}},
		{"an early def where a late use is", 2, instr(2, def(1), lateUse(0)), at(reg(0), reg(0)), at(reg(0)), []int{113}, []int{ten(2, 0, 113)}},
		{"early defs take junk in order, late ones none", 4, instr(2, lateUse(0), def(1), lateUse(0), lateDef(2), def(3), lateUse(0)), at(reg(3), reg(2), slot(0), reg(0), reg(3), reg(2)), at(reg(0), reg(2), reg(3)),
			[]int{114, 111, 113}, []int{ten(2, 3, 114, 111, 113), ten(2, 1, 114, 111, 113), ten(2, 4, 114, 111, 113)}},
		{"two early defs at one place", 3, instr(2, def(1), def(2), lateUse(0)), at(reg(1), reg(1), reg(1)), at(reg(1)), []int{114}, []int{ten(2, 1, 114)}},
		{"two late defs at one place", 3, instr(2, lateDef(1), use(0), lateDef(2)), at(reg(1), reg(0), reg(1)), at(reg(1)), []int{made}, []int{ten(2, 2, made)}},
		{"a late def, then an early one, at one place", 3, instr(2, lateDef(1), def(2)), at(reg(1), reg(1)), at(reg(1)), nil, []int{ten(2, 1)}},
		{"an early def at a slot", 2, instr(2, def(1), lateUse(0), lateUse(0)), at(slot(1), slot(1), slot(0)), at(slot(1), slot(0)), []int{113, 111}, []int{ten(2, 0, 113, 111), 111}},
		{"spoils", 1, spoiling(instr(2), 0, 2), at(), at(reg(0), reg(1), reg(2)), nil, []int{113, 101, 114}},
		{"spoils of both classes", 1, api.Instr{Op: 2, Spoils: []api.Reg{{N: 3}, {Class: 1}, {Class: 1, N: 3}}}, at(), at(reg(3), other(0), other(3), other(1)), nil, []int{113, 114, 115, 107}},
		{"an early use where it is spoilt", 1, spoiling(instr(2, use(0)), 0), at(reg(0)), at(reg(0)), []int{made}, []int{113}},
		{"a late use where it is spoilt", 1, spoiling(instr(2, lateUse(0)), 0), at(reg(0)), at(reg(0)), []int{113}, []int{113}},
		{"a late def where it is spoilt", 2, spoiling(instr(2, lateDef(1), lateUse(0)), 1), at(reg(1), reg(1)), at(reg(1)), []int{113}, []int{ten(2, 0, 113)}},
		{"early defs, then spoils", 2, spoiling(instr(2, lateUse(0), lateUse(0), def(1)), 1), at(reg(1), reg(2), reg(2)), at(reg(1), reg(2)), []int{114, 113}, []int{114, ten(2, 2, 114, 113)}},
		{"an early def where it is spoilt", 2, spoiling(instr(2, def(1), lateUse(0)), 1), at(reg(1), reg(1)), at(reg(1)), []int{114}, []int{ten(2, 0, 114)}},
	} {
		f, o := whole(c.values, c.x, c.places, c.seen...)
		want := flat("[{0 0 [] -1} {0 1 ", c.reads, " -1} {0 2 ", c.ends, " -1}]")
		ran{c.name, f, o, 9, want}.test(t)
	}
}

// P5.3, P5.4: junk goes on from the beginning, over all instructions, and from the first number on again.
func TestJunkGoesOn(t *testing.T) {
	// 6 + 5 registers and no slot take the first eleven; then each round of the loop takes two.
	f := fun(3, api.Block{Instrs: instrs(instr(1, lateDef(0))), Edges: to(1)}, api.Block{Instrs: instrs(spoiling(instr(2, def(1), lateUse(0)), 1), instr(3, lateDef(2), use(0))), Edges: to(1)})
	o := output(0, row(at(reg(0))), row(at(reg(2), reg(2)), at(reg(3), reg(1))))
	for _, n := range []int{0, 1, 2, 3, 5, 11, 12, 13} {
		junk := counted(n)
		next := 11
		got, e := mach.Run(f, machine(), o, 10, junk, 2+3*20)
		if e != api.OK || len(got) != 1+2*20 {
			t.Fatalf("junk of %d: %v %d", n, got, e)
		}
		for i := 1; i < len(got); i++ {
			want := 0
			if n > 0 {
				want = junk[next%n]
			}
			if next++; got[i].Read[0] != want {
				t.Errorf("junk of %d, event %d: %d, want %d", n, i, got[i].Read[0], want)
			}
		}
	}
}

// P5.3: the edge that is taken hangs on what was read, of the places.
func TestFork(t *testing.T) {
	f := fun(1, api.Block{Instrs: instrs(instr(1, lateDef(0)), instr(2, use(0))), Edges: to(2, 1, 3)},
		api.Block{Instrs: instrs(instr(3))}, api.Block{Instrs: instrs(instr(4))}, api.Block{Instrs: instrs(instr(5))})
	o := output(1, row(at(reg(0)), at(slot(0))), row(at()), row(at()), row(at()))
	seen := make([]int, 3)
	for junk := range 60 {
		for seed := range 3 {
			taken := run.Mix([]int{seed, 2, -1, junk}) % 3
			want := fmt.Sprintf("[{0 0 [] -1} {0 1 [%d] %d} {%d 0 [] -1}]", junk, taken, []int{2, 1, 3}[taken])
			if got, e := mach.Run(f, machine(), o, seed, []int{junk}, 9); e != api.OK || flat(got) != want {
				t.Errorf("junk %d, seed %d: %v %d, want %s", junk, seed, got, e, want)
			}
			seen[taken]++
		}
	}
	if slices.Min(seen) == 0 {
		t.Errorf("%v: some are never taken", seen)
	}
}

// P5.3: steps are counted as those of a function.
func TestSteps(t *testing.T) {
	chain := fun(0,
		api.Block{Instrs: instrs(instr(1), instr(1)), Edges: to(1)},
		api.Block{Edges: to(2)},
		api.Block{Instrs: instrs(instr(1))},
	)
	loop := fun(0, api.Block{Edges: to(1)}, api.Block{Instrs: instrs(instr(1)), Edges: to(1)})
	bare := fun(0, api.Block{Edges: to(1)}, api.Block{Edges: to(1)})
	moved := edits(edit(0, 0, reg(0), reg(1)), edit(1, 0, reg(0), reg(1), reg(1), reg(2)))
	for _, c := range []struct {
		name   string
		f      api.Func
		o      api.Output
		events []int // after 0 steps, 1, ..
	}{
		{"a chain", chain, output(0, row(nil, nil), nil, row(nil)), []int{0, 0, 1, 2, 2, 2, 3, 3, 3}},
		{"a loop", loop, output(0, nil, row(nil)), []int{0, 0, 0, 1, 1, 2, 2, 3, 3}},
		{"a loop without an instruction", bare, output(0, nil, nil), []int{0, 0, 0, 0, 0}},
	} {
		for _, edits := range [][]api.Edit{nil, moved} {
			c.o.Edits = edits
			for steps, want := range c.events {
				if got, e := mach.Run(c.f, machine(), c.o, 3, nil, steps); e != api.OK || len(got) != want {
					t.Errorf("%s, %d steps: %v %d, want %d events", c.name, steps, got, e, want)
				}
			}
			source, _ := run.Source(c.f, machine(), 3, api.MaxSteps)
			if got, e := mach.Run(c.f, machine(), c.o, 3, nil, api.MaxSteps); e != api.OK || flat(got) != flat(source) {
				t.Errorf("%s, as many steps as may be: %d events, %d, want %d", c.name, len(got), e, len(source))
			}
		}
	}
}

// P5.3: what Check refuses, then steps, then junk; with nothing else.
func TestRefused(t *testing.T) {
	good := output(3, row(at(reg(0)), at(reg(0), reg(1))), row(at(reg(1))))
	back := good
	back.Edits = edits(edit(1, 0), edit(0, 0))
	full, over := counted(api.MaxJunk), counted(api.MaxJunk+1)
	for _, c := range []struct {
		name  string
		o     api.Output
		junk  []int
		steps int
		want  api.Errno
	}{
		{"nothing", good, full, api.MaxSteps, api.OK},
		{"no junk, no steps", good, nil, 0, api.OK},
		{"steps below 0", good, nil, -1, api.ErrRange},
		{"steps far below 0", good, nil, math.MinInt, api.ErrRange},
		{"too many steps", good, nil, api.MaxSteps + 1, api.ErrRange},
		{"far too many steps", good, nil, math.MaxInt, api.ErrRange},
		{"too much junk", good, over, 9, api.ErrSize},
		{"too much junk, no steps", good, over, 0, api.ErrSize},
		{"too much junk, steps below 0", good, over, -1, api.ErrRange},
		{"edits that stand back", back, full, 9, api.ErrForm},
		{"edits that stand back, too much junk", back, over, 9, api.ErrForm},
		{"edits that stand back, too many steps", back, full, api.MaxSteps + 1, api.ErrForm},
		{"no places, too many steps, too much junk", output(0), over, api.MaxSteps + 1, api.ErrForm},
	} {
		got, e := mach.Run(two(), machine(), c.o, 1, c.junk, c.steps)
		if e != c.want || e != api.OK && len(got) > 0 {
			t.Errorf("%s: %v %d, want %d", c.name, got, e, c.want)
		}
	}
	for _, seed := range []int{math.MinInt, -1, 0, api.MaxSeed + 1, math.MaxInt} {
		if got, e := mach.Run(two(), machine(), good, seed, nil, 9); e != api.OK || len(got) != 3 {
			t.Errorf("seed %d: %v %d", seed, got, e)
		}
	}
}

// The document's example of the whole: a value is kept where nothing is spoilt, and moved.
func TestWhole(t *testing.T) {
	f := line(1, instr(1, lateDef(0)), spoiling(instr(2), 0, 1, 2), instr(3, use(0)))
	f.Blocks[0].Instrs[2].Operands[0].Limit, f.Blocks[0].Instrs[2].Operands[0].N = api.Fixed, 1
	right := output(0, row(at(reg(3)), at(), at(reg(1))))
	right.Edits = edits(edit(0, 2, reg(3), reg(1)))
	bySlot := output(1, row(at(slot(0)), at(), at(reg(1))))
	bySlot.Edits = edits(edit(0, 2, slot(0), reg(1)))
	wrong := output(0, row(at(reg(1)), at(), at(reg(1))))
	source, _ := run.Source(f, machine(), 4, 9)
	for i, c := range []struct {
		o    api.Output
		same bool
	}{{right, true}, {bySlot, true}, {wrong, false}} {
		got, e := mach.Run(f, machine(), c.o, 4, counted(3), 9)
		if e != api.OK || (flat(got) == flat(source)) != c.same {
			t.Errorf("output %d: %v %d; the function: %v", i, got, e, source)
		}
	}
}
