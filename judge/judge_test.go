package judge_test

import (
	"math"
	"slices"
	"strings"
	"testing"

	"ostler/api"
	"ostler/judge"
)

func machine() api.Machine { return api.Machine{Regs: [api.Classes]int{5, 4}} }

func use(v int) api.Operand {
	return api.Operand{Kind: api.Use, Value: v, Limit: api.Anywhere}
}

func lateUse(v int) api.Operand {
	return api.Operand{Kind: api.Use, Value: v, Late: true, Limit: api.Anywhere}
}

func def(v int) api.Operand {
	return api.Operand{Kind: api.Def, Value: v, Limit: api.Anywhere}
}

func lateDef(v int) api.Operand {
	return api.Operand{Kind: api.Def, Value: v, Late: true, Limit: api.Anywhere}
}

// limited: an operand that may not be anywhere.
func limited(o api.Operand, limit, n int) api.Operand {
	o.Limit, o.N = limit, n
	return o
}

func instr(l ...api.Operand) api.Instr { return api.Instr{Op: 1, Operands: l} }

func instrs(l ...api.Instr) []api.Instr { return l }

// spoiling: an instruction that spoils registers of class 0.
func spoiling(x api.Instr, l ...int) api.Instr {
	for _, n := range l {
		x.Spoils = append(x.Spoils, api.Reg{N: n})
	}
	return x
}

// to: edges to blocks without params.
func to(l ...int) []api.Edge {
	var edges []api.Edge
	for _, b := range l {
		edges = append(edges, api.Edge{Block: b})
	}
	return edges
}

// with: the one edge to a block with params.
func with(block int, args ...int) []api.Edge {
	return []api.Edge{{Block: block, Args: args}}
}

func params(l ...int) []int { return l }

// fun with so many values, all of class 0.
func fun(values int, blocks ...api.Block) api.Func {
	return api.Func{Values: make([]int, values), Blocks: blocks}
}

// line: one block of these instructions.
func line(values int, l ...api.Instr) api.Func { return fun(values, api.Block{Instrs: l}) }

// reg of class 0.
func reg(n int) api.Place { return api.Place{Kind: api.InReg, N: n} }

// other: a register of class 1.
func other(n int) api.Place { return api.Place{Kind: api.InReg, Class: 1, N: n} }

func slot(n int) api.Place { return api.Place{Kind: api.InSlot, N: n} }

// at: the places of an instruction's operands.
func at(l ...api.Place) []api.Place { return l }

// row: the places of a block's instructions.
func row(l ...[]api.Place) [][]api.Place { return l }

// moves between places that stand in pairs: from, to.
func moves(l ...api.Place) []api.Move {
	var all []api.Move
	for pair := range slices.Chunk(l, 2) {
		all = append(all, api.Move{From: pair[0], To: pair[1]})
	}
	return all
}

func edit(block, at int, l ...api.Place) api.Edit {
	return api.Edit{Block: block, At: at, Moves: moves(l...)}
}

func edits(l ...api.Edit) []api.Edit { return l }

// output of four slots, without edits.
func output(rows ...[][]api.Place) api.Output { return api.Output{Places: rows, Frame: 4} }

// edited: an output with edits.
func edited(o api.Output, l ...api.Edit) api.Output {
	o.Edits = l
	return o
}

// letters of what is known: a letter for each operand, a word for each instruction, a text for each block.
func letters(known [][][]bool) string {
	var blocks []string
	for _, block := range known {
		var words []string
		for _, l := range block {
			word := "-"
			if len(l) > 0 {
				word = ""
			}
			for _, yes := range l {
				if yes {
					word += "y"
				} else {
					word += "n"
				}
			}
			words = append(words, word)
		}
		blocks = append(blocks, strings.Join(words, " "))
	}
	return strings.Join(blocks, " / ")
}

// known: an output, and at which operands places surely have the values.
type known struct {
	name string
	f    api.Func
	o    api.Output
	want string
}

func (c known) test(t *testing.T) {
	t.Helper()
	got, e := judge.Known(c.f, machine(), c.o)
	if e != api.OK || letters(got) != c.want {
		t.Errorf("%s: %s %d, want %s", c.name, letters(got), e, c.want)
	}
}

// P6.3: a move: To surely has what From surely has.
func TestMove(t *testing.T) {
	// The value 0 is made at the register 0, then it is read at four places.
	f := line(1, instr(lateDef(0)), instr(use(0), use(0), use(0), use(0)))
	o := output(row(at(reg(0)), at(reg(0), reg(1), slot(0), other(0))))
	for _, c := range []struct {
		name  string
		edits []api.Edit
		want  string
	}{
		{"none", nil, "y ynnn"},
		{"to a register", edits(edit(0, 1, reg(0), reg(1))), "y yynn"},
		{"to a slot", edits(edit(0, 1, reg(0), slot(0))), "y ynyn"},
		{"to a slot with a number that a register has too", edits(edit(0, 1, reg(0), slot(1))), "y ynnn"},
		{"by a slot to a register of the other class", edits(edit(0, 1, reg(0), slot(0), slot(0), other(0))), "y ynyy"},
		{"to all", edits(edit(0, 1, reg(0), reg(1), reg(1), slot(0), slot(0), other(0))), "y yyyy"},
		{"ahead of where it is made", edits(edit(0, 0, reg(0), reg(1))), "y ynnn"},
		{"to where it is made, ahead of that", edits(edit(0, 0, reg(1), reg(0))), "y ynnn"},
		{"behind where it is read", edits(edit(0, 2, reg(0), reg(1))), "y ynnn"},
		{"from a place that has nothing", edits(edit(0, 1, reg(1), reg(0))), "y nnnn"},
		{"from a slot that has nothing", edits(edit(0, 1, slot(3), reg(0))), "y nnnn"},
		{"to itself", edits(edit(0, 1, reg(0), reg(0))), "y ynnn"},
		{"one by one, not all at once", edits(edit(0, 1, reg(0), reg(1), reg(1), slot(0))), "y yyyn"},
		{"one by one, in order", edits(edit(0, 1, reg(1), slot(0), reg(0), reg(1))), "y yynn"},
		{"away", edits(edit(0, 1, reg(0), reg(1), reg(2), reg(0))), "y nynn"},
		{"by a scratch", edits(edit(0, 1, reg(0), reg(5), reg(2), reg(0), reg(5), reg(1))), "y nynn"},
		{"by the scratch of the other class", edits(edit(0, 1, reg(0), slot(1), slot(1), other(4), other(4), other(0))), "y ynny"},
		{"from a scratch that has nothing", edits(edit(0, 1, other(4), other(0), reg(5), reg(0))), "y nnnn"},
		{"round", edits(edit(0, 1, reg(0), reg(5), reg(1), reg(0), reg(5), reg(1))), "y nynn"},
		{"the last slot", edits(edit(0, 1, reg(0), slot(3), slot(3), reg(1))), "y yynn"},
	} {
		known{c.name, f, edited(o, c.edits...), c.want}.test(t)
	}
	// A place that has two values hands on both.
	g := fun(2, api.Block{Instrs: instrs(instr(lateDef(0))), Edges: with(1, 0)}, api.Block{Params: params(1), Instrs: instrs(instr(use(0), use(1)))})
	known{"of two values", g, edited(output(row(at(reg(0))), row(at(slot(0), slot(0)))), edit(1, 0, reg(0), slot(0))), "y / yy"}.test(t)
}

// P6.3, P6.5: what an instruction takes away, what it lays, and when its operands are read.
func TestInstr(t *testing.T) {
	for _, c := range []known{
		{"where it is made, and elsewhere", line(1, instr(lateDef(0)), instr(use(0), lateUse(0), use(0), lateUse(0))), output(row(at(reg(0)), at(reg(0), reg(0), reg(1), slot(0)))), "y yynn"},
		{"in a slot", line(1, instr(lateDef(0)), instr(use(0), use(0))), output(row(at(slot(3)), at(slot(3), reg(3)))), "y yn"},
		{"in the last register of the other class", line(1, instr(lateDef(0)), instr(use(0), use(0), use(0))), output(row(at(other(3)), at(other(3), reg(3), slot(0)))), "y ynn"},
		{"in the last register, not in the scratch behind it", line(1, instr(lateDef(0)), instr(use(0), use(0))), edited(output(row(at(reg(4)), at(reg(0), reg(4)))), edit(0, 1, reg(5), reg(0))), "y ny"},
		{"in the last register of the other class, not in the scratch behind it", line(1, instr(lateDef(0)), instr(use(0), use(0))), edited(output(row(at(other(3)), at(other(0), other(3)))), edit(0, 1, other(4), other(0))), "y ny"},
		{"another one is made there", line(2, instr(lateDef(0)), instr(lateDef(1)), instr(use(0), use(1))), output(row(at(reg(0)), at(reg(0)), at(reg(0), reg(0)))), "y y ny"},
		{"another one is made there early", line(2, instr(lateDef(0)), instr(def(1)), instr(use(0), use(1))), output(row(at(reg(0)), at(reg(0)), at(reg(0), reg(0)))), "y y ny"},
		{"another one is made elsewhere", line(2, instr(lateDef(0)), instr(lateDef(1)), instr(use(0), use(1))), output(row(at(reg(0)), at(slot(0)), at(reg(0), slot(0)))), "y y yy"},
		{"two are made at one place", line(2, instr(lateDef(0), lateDef(1)), instr(use(0), use(1))), output(row(at(reg(0), reg(0)), at(reg(0), reg(0)))), "yy ny"},
		{"two are made at one place, the other way round", line(2, instr(lateDef(1), lateDef(0)), instr(use(0), use(1))), output(row(at(reg(0), reg(0)), at(reg(0), reg(0)))), "yy yn"},
		{"two are made at one place, the early one last", line(2, instr(lateDef(0), def(1)), instr(use(0), use(1))), output(row(at(reg(0), reg(0)), at(reg(0), reg(0)))), "yy ny"},

		{"spoilt", line(1, instr(lateDef(0)), spoiling(instr(), 0), instr(use(0))), output(row(at(reg(0)), at(), at(reg(0)))), "y - n"},
		{"all are spoilt", line(1, instr(lateDef(0)), spoiling(instr(), 0, 1, 3), instr(use(0))), output(row(at(reg(3)), at(), at(reg(3)))), "y - n"},
		{"another one is spoilt", line(1, instr(lateDef(0)), spoiling(instr(), 0, 2), instr(use(0))), output(row(at(reg(1)), at(), at(reg(1)))), "y - y"},
		{"one of the other class is spoilt", line(1, instr(lateDef(0)), spoiling(instr(), 0), instr(use(0))), output(row(at(other(0)), at(), at(other(0)))), "y - y"},
		{"spoilt, of the other class", line(1, instr(lateDef(0)), api.Instr{Spoils: []api.Reg{{N: 3}, {Class: 1, N: 3}}}, instr(use(0))), output(row(at(other(3)), at(), at(other(3)))), "y - n"},
		{"a slot is not spoilt", line(1, instr(lateDef(0)), spoiling(instr(), 0), instr(use(0))), output(row(at(slot(0)), at(), at(slot(0)))), "y - y"},
		{"a scratch is not spoilt", line(1, instr(lateDef(0)), spoiling(instr(), 0, 1, 2, 3), instr(use(0))), edited(output(row(at(reg(0)), at(), at(reg(0)))), edit(0, 1, reg(0), reg(5)), edit(0, 2, reg(5), reg(0))), "y - y"},
		{"made where it is spoilt", line(1, spoiling(instr(lateDef(0)), 0), instr(use(0))), output(row(at(reg(0)), at(reg(0)))), "y y"},

		{"an early use where it is spoilt", line(1, instr(lateDef(0)), spoiling(instr(use(0)), 0), instr(use(0))), output(row(at(reg(0)), at(reg(0)), at(reg(0)))), "y y n"},
		{"a late use where it is spoilt", line(1, instr(lateDef(0)), spoiling(instr(lateUse(0)), 0), instr(use(0))), output(row(at(reg(0)), at(reg(0)), at(reg(0)))), "y n n"},
		{"an early use where one is made early", line(2, instr(lateDef(0)), instr(use(0), def(1)), instr(use(0), use(1))), output(row(at(reg(0)), at(reg(0), reg(0)), at(reg(0), reg(0)))), "y yy ny"},
		{"a late use where one is made early", line(2, instr(lateDef(0)), instr(lateUse(0), def(1)), instr(use(1))), output(row(at(reg(0)), at(reg(0), reg(0)), at(reg(0)))), "y ny y"},
		{"a late use behind one that is made early", line(2, instr(lateDef(0)), instr(def(1), lateUse(0)), instr(use(1))), output(row(at(slot(0)), at(slot(0), slot(0)), at(slot(0)))), "y yn y"},
		{"an early use where one is made late", line(2, instr(lateDef(0)), instr(lateDef(1), use(0)), instr(use(0), use(1))), output(row(at(reg(0)), at(reg(0), reg(0)), at(reg(0), reg(0)))), "y yy ny"},
		{"a late use where one is made late", line(2, instr(lateDef(0)), instr(lateDef(1), lateUse(0)), instr(use(0), use(1))), output(row(at(reg(0)), at(reg(0), reg(0)), at(reg(0), reg(0)))), "y yy ny"},
		{"a late use elsewhere", line(2, instr(lateDef(0)), spoiling(instr(lateUse(0), def(1)), 2), instr(use(0), use(1))), output(row(at(reg(0)), at(reg(0), reg(1)), at(reg(0), reg(1)))), "y yy yy"},
		{"one that was laid early is not there late", line(2, instr(lateDef(0)), instr(lateUse(0), lateUse(0), def(1)), instr(use(0))), output(row(at(reg(0)), at(reg(0), reg(1), reg(1)), at(reg(1)))), "y yny n"},

		{"a def, whatever is wrong with it", line(2, spoiling(instr(limited(def(0), api.Stack, 0), limited(lateDef(1), api.Register, 0)), 0)), output(row(at(reg(0), slot(0)))), "yy"},
		{"no operands", line(0, instr(), instr()), output(row(at(), at())), "- -"},
		{"no instructions", fun(0, api.Block{Edges: to(1)}, api.Block{}), output(nil, nil), " / "},
	} {
		c.test(t)
	}
}

// P6.3: along an edge.
func TestEdge(t *testing.T) {
	made := instrs(instr(lateDef(0), lateDef(1)))
	laid := row(at(reg(0), reg(1)))
	// The params 2 and 3 take the values 0 and 1.
	taking := func(args ...int) api.Func {
		return fun(4, api.Block{Instrs: made, Edges: with(1, args...)}, api.Block{Params: params(2, 3), Instrs: instrs(instr(use(2), use(3), use(2), use(3)))})
	}
	four := output(laid, row(at(reg(0), reg(1), reg(1), reg(0))))
	// A loop: the param 2 is the value 0 at first, then 3, which is made behind where 2 is read.
	loop := func(arg int) api.Func {
		return fun(4, api.Block{Instrs: made, Edges: with(1, 0)},
			api.Block{Params: params(2), Instrs: instrs(instr(use(2)), instr(lateDef(3))), Edges: with(1, arg)})
	}
	// A loop whose params 2 and 3 take 0 and 1, then each other's values.
	turn := fun(4, api.Block{Instrs: made, Edges: with(1, 0, 1)}, api.Block{Params: params(2, 3), Instrs: instrs(instr(use(2), use(3))), Edges: with(1, 3, 2)})
	turned := output(laid, row(at(reg(0), reg(1))))
	for _, c := range []known{
		{"args", taking(0, 1), four, "yy / yynn"},
		{"args, the other way round", taking(1, 0), four, "yy / nnyy"},
		{"one arg twice", taking(0, 0), four, "yy / ynny"},
		{"moves ahead of the edge", taking(0, 1), edited(four, edit(0, 1, reg(0), slot(0), reg(1), reg(0), slot(0), reg(1))), "yy / nnyy"},
		{"moves behind the edge", taking(0, 1), edited(four, edit(1, 0, reg(0), slot(0), reg(1), reg(0), slot(0), reg(1))), "yy / nnyy"},
		{"args that nobody has", taking(0, 1), edited(four, edit(0, 1, reg(2), reg(0), reg(2), reg(1))), "yy / nnnn"},
		{"in a slot and a scratch", taking(0, 1), edited(four, edit(0, 1, reg(0), slot(3), reg(1), reg(5), reg(2), reg(0), reg(2), reg(1)), edit(1, 0, slot(3), reg(0), reg(5), reg(1))), "yy / yynn"},
		{"what is no param stays, by its own name", fun(3, api.Block{Instrs: made, Edges: with(1, 0)}, api.Block{Params: params(2), Instrs: instrs(instr(use(0), use(1), use(2)))}), output(laid, row(at(reg(0), reg(1), reg(0)))), "yy / yyy"},
		{"of a block without instructions", fun(3, api.Block{Instrs: made, Edges: to(1)}, api.Block{Edges: with(2, 1)}, api.Block{Params: params(2), Instrs: instrs(instr(use(2), use(2)))}), output(laid, nil, row(at(reg(1), reg(0)))), "yy /  / yn"},
		{"param of a param", fun(4, api.Block{Instrs: made, Edges: with(1, 1)}, api.Block{Params: params(2), Edges: with(2, 2)}, api.Block{Params: params(3), Instrs: instrs(instr(use(1), use(2), use(3), use(3)))}), output(laid, nil, row(at(reg(1), reg(1), reg(1), reg(0)))), "yy /  / yyyn"},

		{"a param that is handed back to itself", loop(2), output(laid, row(at(reg(0)), at(reg(2)))), "yy / y y"},
		{"a param that is handed back, where another one was laid over it", loop(2), output(laid, row(at(reg(0)), at(reg(0)))), "yy / n y"},
		{"a new value of a param, where the old one was", loop(3), output(laid, row(at(reg(0)), at(reg(0)))), "yy / y y"},
		{"a new value of a param, elsewhere: the old one is none any more", loop(3), output(laid, row(at(reg(0)), at(reg(2)))), "yy / n y"},
		{"a new value of a param, moved", loop(3), edited(output(laid, row(at(reg(0)), at(reg(2)))), edit(1, 2, reg(2), reg(0))), "yy / y y"},
		{"a new value of a param that is an older value", loop(1), output(laid, row(at(reg(0)), at(reg(2)))), "yy / n y"},
		{"a new value of a param that is what it was at first", loop(0), output(laid, row(at(reg(0)), at(reg(2)))), "yy / y y"},
		{"params turn, places too", turn, edited(turned, edit(1, 1, reg(0), reg(5), reg(1), reg(0), reg(5), reg(1))), "yy / yy"},
		{"params turn, places don't", turn, turned, "yy / nn"},
		{"params turn, one place too", turn, edited(turned, edit(1, 1, reg(0), reg(1))), "yy / nn"},
	} {
		c.test(t)
	}
}

// fork: the value 0 is made, then two ways lead to where it is read, at two places; each way has an instruction.
func fork(left, right api.Instr) api.Func {
	return fun(1, api.Block{Instrs: instrs(instr(lateDef(0))), Edges: to(1, 2)},
		api.Block{Instrs: instrs(left), Edges: to(3)}, api.Block{Instrs: instrs(right), Edges: to(3)},
		api.Block{Instrs: instrs(instr(use(0), use(0)))})
}

// P6.4: where edges meet.
func TestMeeting(t *testing.T) {
	plain := fork(instr(), instr())
	o := output(row(at(reg(0))), row(at()), row(at()), row(at(reg(0), reg(1))))
	// Each way makes a value of its own, for the param 3.
	own := fun(4, api.Block{Instrs: instrs(instr(lateDef(0))), Edges: to(1, 2)},
		api.Block{Instrs: instrs(instr(lateDef(1))), Edges: with(3, 1)}, api.Block{Instrs: instrs(instr(lateDef(2))), Edges: with(3, 2)},
		api.Block{Params: params(3), Instrs: instrs(instr(use(3), use(0)))})
	ownAt := func(left, right, end api.Place) api.Output {
		return output(row(at(reg(0))), row(at(left)), row(at(right)), row(at(end, reg(0))))
	}
	for _, c := range []known{
		{"both ways keep it", plain, o, "y / - / - / yn"},
		{"one way spoils it", fork(spoiling(instr(), 0), instr()), o, "y / - / - / nn"},
		{"the other way spoils it", fork(instr(), spoiling(instr(), 0)), o, "y / - / - / nn"},
		{"one way moves it", plain, edited(o, edit(1, 0, reg(0), reg(1))), "y / - / - / yn"},
		{"both ways move it", plain, edited(o, edit(1, 0, reg(0), reg(1)), edit(2, 1, reg(0), reg(1))), "y / - / - / yy"},
		{"ways move it to places of their own", plain, edited(o, edit(1, 0, reg(0), slot(1)), edit(2, 0, reg(0), slot(2)), edit(3, 0, slot(1), reg(0), slot(2), reg(1))), "y / - / - / nn"},
		{"both ways move it by a scratch", fork(spoiling(instr(), 0), instr()), edited(o, edit(1, 0, reg(0), reg(5)), edit(2, 0, reg(0), reg(5)), edit(3, 0, reg(5), reg(1))), "y / - / - / ny"},
		{"a param at one place", own, ownAt(reg(1), reg(1), reg(1)), "y / y / y / yy"},
		{"a param at places of their own", own, ownAt(reg(1), reg(2), reg(1)), "y / y / y / ny"},
		{"a param at places of their own, the other one", own, ownAt(reg(1), reg(2), reg(2)), "y / y / y / ny"},
		{"a param at one place, by a move", own, edited(ownAt(reg(1), reg(2), reg(1)), edit(2, 1, reg(2), reg(1))), "y / y / y / yy"},
		{"one way lays its own over what was there", own, ownAt(reg(1), reg(0), reg(0)), "y / y / y / nn"},
		{"nothing, at the beginning of the first block", line(1, instr(def(0)), instr(use(0), use(0))), output(row(at(reg(0)), at(reg(1), slot(0)))), "y nn"},
	} {
		c.test(t)
	}
}

// P6.4: of all ways of saying so that fit together, the one that says the most; and it must fit.
func TestLoop(t *testing.T) {
	made := instrs(instr(lateDef(0)))
	// A loop of one block, a loop of three whose numbers go down, and one loop in another one. The value 0 is read all along.
	one := fun(1, api.Block{Instrs: made, Edges: to(1)}, api.Block{Instrs: instrs(instr(use(0)), instr(use(0))), Edges: to(1)})
	oneAt := output(row(at(reg(0))), row(at(reg(0)), at(reg(0))))
	down := fun(1, api.Block{Instrs: made, Edges: to(3)},
		api.Block{Instrs: instrs(instr(use(0))), Edges: to(3)}, api.Block{Instrs: instrs(instr(use(0))), Edges: to(1)}, api.Block{Instrs: instrs(instr(use(0))), Edges: to(2)})
	downAt := output(row(at(reg(0))), row(at(reg(0))), row(at(reg(0))), row(at(reg(0))))
	nest := fun(1, api.Block{Instrs: made, Edges: to(1)},
		api.Block{Instrs: instrs(instr(use(0))), Edges: to(2)}, api.Block{Instrs: instrs(instr(use(0))), Edges: to(3)},
		api.Block{Instrs: instrs(instr(use(0))), Edges: to(4, 5, 6)}, api.Block{Edges: to(2)}, api.Block{Edges: to(1)}, api.Block{Instrs: instrs(instr(use(0)))})
	nestAt := output(row(at(reg(0))), row(at(reg(1))), row(at(reg(1))), row(at(reg(1))), nil, nil, row(at(reg(1))))
	spoilt := fun(1, one.Blocks[0], api.Block{Instrs: instrs(instr(use(0)), spoiling(instr(use(0)), 0)), Edges: to(1)})
	for _, c := range []known{
		{"a loop that leaves it alone", one, oneAt, "y / y y"},
		{"a loop that spoils it at its end", spoilt, oneAt, "y / n n"},
		{"a loop that spoils it at its end, and lays it anew", spoilt, edited(oneAt, edit(0, 1, reg(0), slot(0)), edit(1, 0, slot(0), reg(0))), "y / y y"},
		{"a loop that lays it anew, behind where it is read first", spoilt, edited(oneAt, edit(0, 1, reg(0), slot(0)), edit(1, 1, slot(0), reg(0))), "y / n y"},
		{"a loop that lays it anew at its end", spoilt, edited(oneAt, edit(0, 1, reg(0), slot(0)), edit(1, 2, slot(0), reg(0))), "y / y y"},
		{"a loop whose numbers go down", down, downAt, "y / y / y / y"},
		{"a loop whose numbers go down, denied at its end", down, edited(downAt, edit(1, 1, reg(1), reg(0))), "y / n / n / n"},
		{"a loop whose numbers go down, denied in its midst", down, edited(downAt, edit(2, 0, reg(1), reg(0))), "y / n / n / n"},
		{"a loop that hands on from place to place, without an end", down,
			edited(downAt, edit(0, 1, reg(0), reg(1), reg(0), reg(2), reg(0), reg(3)), edit(1, 1, reg(1), reg(0), reg(2), reg(1), reg(3), reg(2))), "y / y / y / y"},
		{"a loop that hands on from place to place, up to one that has nothing", down,
			edited(downAt, edit(0, 1, reg(0), reg(1), reg(0), reg(2), reg(0), reg(3)), edit(1, 1, reg(1), reg(0), reg(2), reg(1), reg(3), reg(2), reg(4), reg(3))), "y / n / n / n"},
		{"a loop in a loop", nest, edited(nestAt, edit(0, 1, reg(0), reg(1))), "y / y / y / y /  /  / y"},
		{"a loop in a loop, denied by the inner one", nest, edited(nestAt, edit(0, 1, reg(0), reg(1)), edit(4, 0, reg(2), reg(1))), "y / n / n / n /  /  / n"},
		{"a loop in a loop, denied by the outer one", nest, edited(nestAt, edit(0, 1, reg(0), reg(1)), edit(5, 0, reg(2), reg(1))), "y / n / n / n /  /  / n"},
		{"a loop in a loop, denied behind both", nest, edited(nestAt, edit(0, 1, reg(0), reg(1)), edit(6, 0, reg(2), reg(1))), "y / y / y / y /  /  / n"},
		{"a loop in a loop, denied by the inner one, laid anew in it", nest, edited(nestAt, edit(0, 1, reg(0), reg(1)), edit(2, 0, reg(0), reg(1)), edit(4, 0, reg(2), reg(1))), "y / y / y / y /  /  / y"},
		{"a loop in a loop, denied by the outer one, laid anew in the inner one", nest, edited(nestAt, edit(0, 1, reg(0), reg(1)), edit(2, 0, reg(0), reg(1)), edit(5, 0, reg(2), reg(1))), "y / n / y / y /  /  / y"},
	} {
		c.test(t)
	}
}

// fault at an operand.
func fault(block, at, operand int, code api.Errno) api.Fault {
	return api.Fault{Block: block, At: at, Operand: operand, Code: code}
}

// P6.2: what is told of an operand by its place alone.
func TestPlace(t *testing.T) {
	right := api.Fault{}
	// The values 0 and 1 are of class 0, 2 and 3 of class 1. Places have what is read: 0 is in the registers 0 to 3 and the slots 0 and 1; so is 1, being the same; 2 and 3 are in the registers 0 to 3 of class 1, and the slots 2 and 3.
	same := func(x api.Instr) api.Func {
		f := fun(6,
			api.Block{Instrs: instrs(instr(lateDef(0), lateDef(2))), Edges: with(1, 0, 2)},
			api.Block{Params: params(1, 3), Instrs: instrs(x)})
		f.Values[2], f.Values[3], f.Values[5] = 1, 1, 1
		// The values 4 and 5 are for the instruction to make; what it does not make is made behind it.
		last := instr()
		for v := 4; v < 6; v++ {
			if !slices.ContainsFunc(x.Operands, func(o api.Operand) bool { return o.Kind == api.Def && o.Value == v }) {
				last.Operands = append(last.Operands, lateDef(v))
			}
		}
		f.Blocks[1].Instrs = append(f.Blocks[1].Instrs, last)
		return f
	}
	spread := edit(0, 1, reg(0), reg(1), reg(0), reg(2), reg(0), reg(3), reg(0), slot(0), reg(0), slot(1),
		other(0), other(1), other(0), other(2), other(0), other(3), other(0), slot(2), other(0), slot(3))
	const register, stack, fixed, reuse = api.Register, api.Stack, api.Fixed, api.Reuse
	for _, c := range []struct {
		name   string
		x      api.Instr
		places []api.Place
		fault  int
		want   api.Errno
	}{
		{"anywhere, in a register", instr(use(0)), at(reg(3)), 0, api.OK},
		{"anywhere, in a slot", instr(use(2)), at(slot(2)), 0, api.OK},
		{"anywhere, in a register of the other class", instr(use(0)), at(other(1)), 0, api.ErrClass},
		{"of class 1, in a register", instr(lateUse(2)), at(other(3)), 0, api.OK},
		{"of class 1, in a register of class 0", instr(lateUse(2)), at(reg(1)), 0, api.ErrClass},
		{"a def, in a register of the other class", instr(use(0), lateDef(5)), at(reg(0), reg(1)), 1, api.ErrClass},
		{"an early def, in a register of the other class", instr(def(4)), at(other(1)), 0, api.ErrClass},

		{"a register", instr(limited(use(0), register, 0)), at(reg(3)), 0, api.OK},
		{"a register, in a slot", instr(limited(use(0), register, 0)), at(slot(0)), 0, api.ErrLimit},
		{"a register, in one of the other class", instr(limited(use(0), register, 0)), at(other(0)), 0, api.ErrClass},
		{"a register, made in a slot", instr(limited(lateDef(4), register, 0)), at(slot(0)), 0, api.ErrLimit},
		{"a register, made in one", instr(limited(def(4), register, 0)), at(reg(4)), 0, api.OK},
		{"a slot", instr(limited(use(0), stack, 0)), at(slot(1)), 0, api.OK},
		{"a slot, in a register", instr(limited(use(0), stack, 0)), at(reg(0)), 0, api.ErrLimit},
		{"a slot, in a register of the other class", instr(limited(use(0), stack, 0)), at(other(0)), 0, api.ErrClass},
		{"a slot, made in a register", instr(limited(def(5), stack, 0)), at(other(0)), 0, api.ErrLimit},
		{"a slot, made in one", instr(limited(def(5), stack, 0)), at(slot(0)), 0, api.OK},
		{"fixed", instr(limited(use(0), fixed, 2)), at(reg(2)), 0, api.OK},
		{"fixed, in another register", instr(limited(use(0), fixed, 2)), at(reg(1)), 0, api.ErrLimit},
		{"fixed, in the slot of that number", instr(limited(use(0), fixed, 0)), at(slot(0)), 0, api.ErrLimit},
		{"fixed, in the register of that number of the other class", instr(limited(use(0), fixed, 2)), at(other(2)), 0, api.ErrClass},
		{"fixed, of class 1", instr(limited(use(3), fixed, 1)), at(other(1)), 0, api.OK},
		{"fixed, made elsewhere", instr(limited(lateDef(4), fixed, 0)), at(reg(1)), 0, api.ErrLimit},
		{"fixed, made there", instr(limited(lateDef(4), fixed, 0)), at(reg(0)), 0, api.OK},
		{"a reuse", instr(use(0), limited(lateDef(4), reuse, 0)), at(reg(1), reg(1)), 0, api.OK},
		{"a reuse, in a slot", instr(use(0), limited(lateDef(4), reuse, 0)), at(slot(1), slot(1)), 0, api.OK},
		{"a reuse, ahead of what it names", instr(limited(lateDef(4), reuse, 1), use(0)), at(reg(1), reg(1)), 0, api.OK},
		{"a reuse, elsewhere", instr(use(0), limited(lateDef(4), reuse, 0)), at(reg(1), reg(2)), 1, api.ErrLimit},
		{"a reuse, in the slot of that number", instr(use(0), limited(lateDef(4), reuse, 0)), at(reg(1), slot(1)), 1, api.ErrLimit},
		{"a reuse, where another operand is", instr(use(0), use(0), limited(lateDef(4), reuse, 1)), at(reg(1), reg(2), reg(1)), 2, api.ErrLimit},
		{"a reuse, elsewhere, ahead of what it names", instr(limited(lateDef(4), reuse, 1), use(0)), at(reg(1), reg(2)), 0, api.ErrLimit},
		{"a reuse, in the register of that number of the other class", instr(use(0), limited(lateDef(4), reuse, 0)), at(reg(1), other(1)), 1, api.ErrClass},
		{"a reuse, where both are of the other class", instr(use(2), limited(lateDef(5), reuse, 0)), at(slot(2), reg(1)), 1, api.ErrClass},

		{"an early use where it is spoilt", spoiling(instr(use(0)), 1), at(reg(1)), 0, api.OK},
		{"a late use where it is spoilt", spoiling(instr(lateUse(0)), 1), at(reg(1)), 0, api.ErrClash},
		{"an early def where it is spoilt", spoiling(instr(def(4)), 1), at(reg(1)), 0, api.ErrClash},
		{"a late def where it is spoilt", spoiling(instr(lateDef(4)), 0, 1), at(reg(1)), 0, api.ErrClash},
		{"a reuse where it is spoilt", spoiling(instr(use(0), limited(lateDef(4), reuse, 0)), 1, 2), at(reg(1), reg(1)), 1, api.ErrClash},
		{"a late use where another one is spoilt", spoiling(instr(lateUse(0)), 0, 2), at(reg(1)), 0, api.OK},
		{"a late use in the slot of a number that is spoilt", spoiling(instr(lateUse(0)), 1), at(slot(1)), 0, api.OK},
		{"a late use where the other class is spoilt", spoiling(instr(lateUse(2)), 1), at(other(1)), 0, api.OK},
		{"a late use where it is spoilt, of class 1", api.Instr{Operands: []api.Operand{lateUse(2)}, Spoils: []api.Reg{{N: 2}, {Class: 1}, {Class: 1, N: 1}}}, at(other(1)), 0, api.ErrClash},
		{"a late use as a slot, where it is spoilt", spoiling(instr(limited(lateUse(0), stack, 0)), 1), at(reg(1)), 0, api.ErrLimit},
		{"a late use of the other class, where it is spoilt", spoiling(instr(limited(lateUse(2), stack, 0)), 1), at(reg(1)), 0, api.ErrClass},

		{"two uses of one value at one place", instr(use(0), lateUse(0)), at(reg(1), reg(1)), 0, api.OK},
		{"two uses of two values at one place, though they are the same", instr(use(0), use(1)), at(reg(1), reg(1)), 1, api.ErrClash},
		{"two uses of two values at one slot", instr(use(1), lateUse(0)), at(slot(1), slot(1)), 1, api.ErrClash},
		{"two uses of two values at two places", instr(use(0), use(1)), at(reg(1), reg(2)), 0, api.OK},
		{"two uses of two values at two slots", instr(use(0), use(1)), at(slot(1), slot(0)), 0, api.OK},
		{"a register, a slot and one of the other class, of one number", instr(use(0), use(1), use(2)), at(reg(1), slot(1), other(1)), 0, api.OK},
		{"an early use and a late def at one place", instr(use(0), lateDef(4)), at(reg(1), reg(1)), 0, api.OK},
		{"an early use and a late def at one place, the other way round", instr(lateDef(4), use(0)), at(reg(1), reg(1)), 0, api.OK},
		{"an early use and an early def at one place", instr(use(0), def(4)), at(reg(1), reg(1)), 1, api.ErrClash},
		{"an early use and an early def at one place, the other way round", instr(def(4), use(0)), at(reg(1), reg(1)), 1, api.ErrClash},
		{"a late use and a late def at one place", instr(lateUse(0), lateDef(4)), at(reg(1), reg(1)), 1, api.ErrClash},
		{"a late use and a late def at one place, the other way round", instr(lateDef(4), lateUse(0)), at(reg(1), reg(1)), 1, api.ErrClash},
		{"a late use and an early def at one place", instr(lateUse(0), def(4)), at(slot(1), slot(1)), 1, api.ErrClash},
		{"two defs at one place", instr(lateDef(4), lateDef(5)), at(slot(1), slot(1)), 1, api.ErrClash},
		{"an early def and a late one at one place", instr(def(4), lateDef(5)), at(slot(1), slot(1)), 1, api.ErrClash},
		{"two of three, the first and the last", instr(use(0), use(2), use(1)), at(reg(1), other(1), reg(1)), 2, api.ErrClash},
		{"two of three, the last ones", instr(use(2), use(0), use(1)), at(other(1), reg(1), reg(1)), 2, api.ErrClash},
		{"a reuse where another operand is, which is late", instr(use(0), lateUse(0), limited(lateDef(4), reuse, 0)), at(reg(1), reg(1), reg(1)), 2, api.ErrClash},
		{"at one place, and not where it may be", instr(use(0), limited(use(1), stack, 0)), at(reg(1), reg(1)), 1, api.ErrLimit},
		{"at one place, and of the other class", instr(use(0), limited(use(2), stack, 0)), at(reg(1), reg(1)), 1, api.ErrClass},
	} {
		f := same(c.x)
		o := output(row(at(reg(0), other(0))), row(c.places, at(slot(0), slot(1))[:len(f.Blocks[1].Instrs[1].Operands)]))
		o.Edits = edits(spread)
		want := fault(1, 0, c.fault, c.want)
		if c.want == api.OK {
			want = right
		}
		if got, e := judge.Judge(f, machine(), o); e != api.OK || got != want {
			t.Errorf("%s: %v %d, want %v", c.name, got, e, want)
		}
	}
}

// P6.1: which fault is told first.
func TestFirst(t *testing.T) {
	// Each of two blocks has two instructions, each of these two operands.
	f := fun(5,
		api.Block{Instrs: instrs(instr(lateDef(0), limited(lateDef(1), api.Register, 0)), instr(use(0), limited(use(1), api.Register, 0))), Edges: to(1)},
		api.Block{Instrs: instrs(instr(use(0), limited(use(1), api.Register, 0)), instr(use(0), lateDef(2), lateDef(3), lateDef(4)))})
	f.Values[4] = 1
	places := func(l ...api.Place) api.Output {
		return output(row(l[0:2], l[2:4]), row(l[4:6], append(slices.Clone(l[6:7]), reg(2), reg(3), other(0))))
	}
	for _, c := range []struct {
		name string
		o    api.Output
		want api.Fault
	}{
		{"right", places(reg(0), reg(1), reg(0), reg(1), reg(0), reg(1), reg(0)), api.Fault{}},
		{"a value", places(reg(0), reg(1), reg(0), reg(1), reg(0), reg(1), reg(1)), fault(1, 1, 0, api.ErrValue)},
		{"the first of two values", places(reg(0), reg(1), reg(0), reg(1), reg(4), reg(1), reg(1)), fault(1, 0, 0, api.ErrValue)},
		{"values, by operands", places(reg(0), reg(1), reg(0), reg(1), reg(1), reg(0), reg(0)), fault(1, 0, 0, api.ErrValue)},
		{"values, by instructions", places(reg(0), reg(1), reg(0), reg(2), reg(2), reg(1), reg(1)), fault(0, 1, 1, api.ErrValue)},
		{"places, by operands", places(reg(0), reg(1), other(0), slot(0), reg(0), reg(1), reg(0)), fault(0, 1, 0, api.ErrClass)},
		{"places, by instructions", places(reg(0), slot(1), other(0), reg(1), reg(0), reg(1), reg(0)), fault(0, 0, 1, api.ErrLimit)},
		{"places, by blocks", places(reg(0), reg(1), reg(0), reg(0), other(0), reg(1), reg(0)), fault(0, 1, 1, api.ErrClash)},
		{"places, in the last block", places(reg(0), reg(1), reg(0), reg(1), reg(0), reg(1), other(0)), fault(1, 1, 0, api.ErrClass)},
		{"a place of the last instruction ahead of a value of the first one", places(reg(0), reg(1), reg(2), reg(3), reg(2), reg(3), other(0)), fault(1, 1, 0, api.ErrClass)},
		{"a place ahead of the same operand's value", places(reg(0), reg(1), reg(0), reg(1), reg(0), slot(0), reg(0)), fault(1, 0, 1, api.ErrLimit)},
		{"a place ahead of a value of the operand ahead", places(reg(0), reg(1), reg(0), reg(1), reg(3), slot(0), reg(0)), fault(1, 0, 1, api.ErrLimit)},
	} {
		if got, e := judge.Judge(f, machine(), c.o); e != api.OK || got != c.want {
			t.Errorf("%s: %v %d, want %v", c.name, got, e, c.want)
		}
	}
}

// The document's example of the whole.
func TestWhole(t *testing.T) {
	f := line(1, instr(lateDef(0)), spoiling(instr(), 0, 1, 2), instr(limited(use(0), api.Fixed, 1)))
	places := func(p api.Place) api.Output { return output(row(at(p), at(), at(reg(1)))) }
	for _, c := range []struct {
		name string
		o    api.Output
		want api.Fault
	}{
		{"moved", edited(places(reg(3)), edit(0, 2, reg(3), reg(1))), api.Fault{}},
		{"in a slot", edited(places(slot(0)), edit(0, 2, slot(0), reg(1))), api.Fault{}},
		{"left where it was", places(reg(1)), fault(0, 2, 0, api.ErrValue)},
		{"moved too early", edited(places(reg(3)), edit(0, 1, reg(3), reg(1))), fault(0, 2, 0, api.ErrValue)},
		{"elsewhere", output(row(at(reg(3)), at(), at(reg(3)))), fault(0, 2, 0, api.ErrLimit)},
	} {
		if got, e := judge.Judge(f, machine(), c.o); e != api.OK || got != c.want {
			t.Errorf("%s: %v %d, want %v", c.name, got, e, c.want)
		}
	}
}

// P6.1, P6.5: what mach's Check refuses, with nothing else.
func TestRefused(t *testing.T) {
	f := line(1, instr(lateDef(0)), instr(limited(use(0), api.Stack, 0)))
	good := output(row(at(reg(0)), at(reg(0))))
	wide, narrow := good, good
	wide.Frame, narrow.Frame = api.MaxFrame+1, math.MinInt
	for _, c := range []struct {
		name string
		f    api.Func
		m    api.Machine
		o    api.Output
		want api.Errno
	}{
		{"no machine", f, api.Machine{}, good, api.ErrRange},
		{"no blocks", api.Func{}, machine(), api.Output{}, api.ErrSize},
		{"no such value", line(1, instr(lateDef(0)), instr(use(math.MaxInt))), machine(), good, api.ErrRange},
		{"a block to which nothing comes", fun(0, api.Block{}, api.Block{}), machine(), output(nil, nil), api.ErrDead},
		{"an edge from many to many", fun(0, api.Block{Instrs: instrs(instr()), Edges: to(1, 2)}, api.Block{Edges: to(2)}, api.Block{}), machine(), output(row(nil), nil, nil), api.ErrEdge},
		{"used ahead of where it is made", line(1, instr(use(0)), instr(def(0))), machine(), good, api.ErrUse},
		{"too many slots", f, machine(), wide, api.ErrSize},
		{"a frame below 0", f, machine(), narrow, api.ErrSize},
		{"nothing", f, machine(), api.Output{}, api.ErrForm},
		{"no place", f, machine(), output(row(at(reg(0)), at())), api.ErrForm},
		{"in a scratch", f, machine(), output(row(at(reg(0)), at(reg(5)))), api.ErrRange},
		{"in no such slot", f, machine(), output(row(at(slot(4)), at(slot(0)))), api.ErrRange},
		{"a move in no such block", f, machine(), edited(good, edit(1, 0)), api.ErrRange},
		{"edits that stand back", f, machine(), edited(good, edit(0, 1), edit(0, 1)), api.ErrForm},
		{"a move from slot to slot", f, machine(), edited(good, edit(0, 1, slot(0), slot(1))), api.ErrLimit},
		{"a move from class to class", f, machine(), edited(good, edit(0, 1, reg(0), other(1))), api.ErrClass},
		{"a move behind the scratch", f, machine(), edited(good, edit(0, 1, reg(0), reg(6))), api.ErrRange},
		{"too many moves", f, machine(), edited(good, api.Edit{Moves: make([]api.Move, api.MaxMoves+1)}), api.ErrSize},
	} {
		got, e := judge.Judge(c.f, c.m, c.o)
		if e != c.want || got != (api.Fault{}) {
			t.Errorf("%s: Judge: %v %d, want %d", c.name, got, e, c.want)
		}
		known, e := judge.Known(c.f, c.m, c.o)
		if e != c.want || len(known) > 0 {
			t.Errorf("%s: Known: %v %d, want %d", c.name, known, e, c.want)
		}
	}
	// What is wrong by P6.2 and P6.3 is told as a fault: Known tells of it all the same.
	if got, e := judge.Judge(f, machine(), good); e != api.OK || got != fault(0, 1, 0, api.ErrLimit) {
		t.Errorf("%v %d", got, e)
	}
	known{"a fault", f, good, "y y"}.test(t)
}

// As much as may be: values in all slots, handed on from slot to slot by a loop, with as many moves as may be; the last slot has nothing, so that each turn denies one more.
func TestFull(t *testing.T) {
	const last = api.MaxFrame - 1
	var first []api.Instr
	o := api.Output{Frame: api.MaxFrame, Places: make([][][]api.Place, 2)}
	for v := range api.MaxValues / 4 {
		first = append(first, instr(lateDef(4*v), lateDef(4*v+1), lateDef(4*v+2), lateDef(4*v+3)))
		o.Places[0] = append(o.Places[0], at(slot(4*v), slot(4*v+1), slot(4*v+2), slot(4*v+3)))
	}
	f := fun(api.MaxValues, api.Block{Instrs: first, Edges: to(1)}, api.Block{Instrs: instrs(instr(use(159), use(0), use(159), use(159))), Edges: to(1)})
	o.Places[1] = row(at(slot(last), slot(0), slot(159), reg(1)))
	spread := edit(0, len(first), slot(159), reg(0))
	for s := range last {
		spread.Moves = append(spread.Moves, moves(reg(0), slot(s))...)
	}
	turn := edit(1, 1)
	for s := range last {
		turn.Moves = append(turn.Moves, moves(slot(s+1), reg(0), reg(0), slot(s))...)
	}
	stay := slices.Repeat(moves(reg(3), reg(3)), api.MaxMoves-len(spread.Moves)-len(turn.Moves)-1)
	turn.Moves = append(turn.Moves, stay...)
	all := strings.Repeat("yyyy ", len(first)-1) + "yyyy / "
	known{"denied by the last slot", f, edited(o, spread, turn), all + "nnnn"}.test(t)
	spread.Moves = append(spread.Moves, moves(reg(0), slot(last))...)
	known{"denied by none", f, edited(o, spread, turn), all + "ynyn"}.test(t)
}
