package order_test

import (
	"fmt"
	"math"
	"slices"
	"testing"

	"ostler/api"
	"ostler/mach"
	"ostler/order"
)

func machine() api.Machine { return api.Machine{Regs: [api.Classes]int{5, 4}} }

// reg of class 0.
func reg(n int) api.Place { return api.Place{Kind: api.InReg, N: n} }

// other: a register of class 1.
func other(n int) api.Place { return api.Place{Kind: api.InReg, Class: 1, N: n} }

func slot(n int) api.Place { return api.Place{Kind: api.InSlot, N: n} }

// moves from a place to another one, from the next one to another one, ..
func moves(l ...api.Place) []api.Move {
	var all []api.Move
	for i := 0; i < len(l); i += 2 {
		all = append(all, api.Move{From: l[i], To: l[i+1]})
	}
	return all
}

// line: from the first place to the second one, from that to the third one, ..
func line(l ...api.Place) []api.Move {
	var all []api.Move
	for i := range l[1:] {
		all = append(all, api.Move{From: l[i], To: l[i+1]})
	}
	return all
}

// ring: a line, whose last place goes to the first one.
func ring(l ...api.Place) []api.Move { return line(append(slices.Clone(l), l[0])...) }

func classes(l ...int) []int { return l }

// zeros: so many values of class 0.
func zeros(n int) []int { return make([]int, n) }

func ones(n int) []int { return slices.Repeat(classes(1), n) }

// backwards: the same, the last one first.
func backwards[T any](l []T) []T {
	l = slices.Clone(l)
	slices.Reverse(l)
	return l
}

// wrong: what an answer lacks, by the words of P7.2; nothing: an empty text.
func wrong(m api.Machine, l []api.Move, frame int, got []api.Move) string {
	if len(got) > 4*len(l) {
		return fmt.Sprint(len(got), " moves of ", len(l))
	}
	f := api.Func{Blocks: make([]api.Block, 1)}
	o := api.Output{Places: make([][][]api.Place, 1), Edits: []api.Edit{{Moves: got}}, Frame: frame + 1}
	if e := mach.Check(f, m, o); e != api.OK {
		return fmt.Sprint("not the moves of an edit: ", e)
	}
	// At the beginning each place has itself.
	has := map[api.Place]api.Place{}
	at := func(p api.Place) api.Place {
		if was, changed := has[p]; changed {
			return was
		}
		return p
	}
	for _, move := range got {
		has[move.To] = at(move.From)
	}
	want := map[api.Place]api.Place{}
	for class, n := range m.Regs {
		for r := range n {
			p := api.Place{Kind: api.InReg, Class: class, N: r}
			want[p] = p
		}
	}
	for s := range frame {
		want[slot(s)] = slot(s)
	}
	for _, move := range l {
		want[move.To] = move.From
	}
	for p, source := range want {
		if at(p) != source {
			return fmt.Sprint(p, " has what ", at(p), " had, not what ", source, " had")
		}
	}
	return ""
}

// ordered: the answer, which must be right.
func ordered(t *testing.T, name string, m api.Machine, l []api.Move, classes []int, frame int) []api.Move {
	t.Helper()
	got, e := order.Order(m, l, classes, frame)
	if e != api.OK {
		t.Fatalf("%s: %v %v %d: refused %d", name, l, classes, frame, e)
	}
	if lack := wrong(m, l, frame, got); lack != "" {
		t.Fatalf("%s: %v %v %d: %v: %s", name, l, classes, frame, got, lack)
	}
	return got
}

// P7.2: what moves do. The answer may have up to four times as many; fewer, as they are told here, do it, too.
func TestMoves(t *testing.T) {
	for _, c := range []struct {
		name    string
		moves   []api.Move
		classes []int
		most    int
	}{
		{"no moves", nil, nil, 0},
		{"one", moves(reg(0), reg(4)), zeros(1), 1},
		{"of class 1", moves(other(3), other(0)), ones(1), 1},
		{"to a slot", moves(reg(0), slot(0)), zeros(1), 1},
		{"from a slot", moves(slot(3), other(2)), ones(1), 1},
		{"from slot to slot", moves(slot(0), slot(3)), zeros(1), 2},
		{"from slot to slot, of class 1", moves(slot(0), slot(3)), ones(1), 2},
		{"of two classes, of the same number", moves(reg(0), reg(1), other(1), other(0)), classes(0, 1), 2},

		{"stays where it is", moves(reg(2), reg(2)), zeros(1), 0},
		{"a slot stays where it is", moves(slot(2), slot(2)), ones(1), 0},
		{"stays, and goes elsewhere too", moves(reg(2), reg(2), reg(2), reg(0)), zeros(2), 1},
		{"goes elsewhere, and stays too", moves(slot(0), reg(0), slot(0), slot(0)), classes(0, 1), 1},
		{"stays beside a line", append(line(reg(0), reg(1), reg(2)), moves(slot(0), slot(0))...), zeros(3), 2},
		{"stays beside a ring", append(ring(reg(0), reg(1)), moves(reg(3), reg(3))...), zeros(3), 3},

		{"a line", line(reg(0), reg(1), reg(2), reg(3)), zeros(3), 3},
		{"a line backwards", backwards(line(reg(0), reg(1), reg(2), reg(3))), zeros(3), 3},
		{"a line by slots", line(reg(0), slot(1), reg(2), slot(3), reg(4)), zeros(4), 4},
		{"a line of slots", line(slot(0), slot(1), slot(2), slot(3)), zeros(3), 6},
		{"a line of two classes", line(reg(0), slot(0), other(0), slot(1), reg(1)), classes(0, 1, 1, 0), 4},

		{"a fan", moves(reg(0), reg(1), reg(0), slot(2), reg(0), reg(3)), zeros(3), 3},
		{"a fan from a slot to both classes", moves(slot(0), reg(1), slot(0), slot(2), slot(0), other(1)), classes(0, 0, 1), 4},
		{"a fan at the end of a line", append(line(reg(0), reg(1)), moves(reg(1), reg(2), reg(1), reg(3))...), zeros(3), 3},
		{"fans of a fan", moves(reg(0), reg(1), reg(0), reg(2), reg(1), reg(3), reg(1), slot(0), reg(2), reg(4), reg(2), slot(1)), zeros(6), 6},

		{"two registers change places", ring(reg(0), reg(1)), zeros(2), 3},
		{"a ring of three", ring(reg(0), reg(1), reg(2)), zeros(3), 4},
		{"a ring of three backwards", backwards(ring(reg(0), reg(1), reg(2))), zeros(3), 4},
		{"a ring of all of class 1", ring(other(0), other(3), other(1), other(2)), ones(4), 5},
		{"two rings", append(ring(reg(0), reg(1), reg(2)), ring(reg(3), reg(4))...), zeros(5), 7},
		{"two rings of two classes", append(ring(reg(0), reg(1)), ring(other(0), other(1))...), classes(0, 0, 1, 1), 6},
		{"a ring with a fan", append(ring(reg(0), reg(1), reg(2)), moves(reg(1), reg(3), reg(1), slot(0), reg(2), reg(4))...), zeros(6), 7},
		{"a ring with a line", append(moves(reg(3), reg(4), reg(0), reg(3)), ring(reg(0), reg(1))...), zeros(4), 5},

		{"a register and a slot change places", ring(reg(0), slot(0)), zeros(2), 3},
		{"two slots change places", ring(slot(0), slot(1)), zeros(2), 6},
		{"two slots of class 1 change places", ring(slot(0), slot(1)), ones(2), 6},
		{"two slots of two classes change places", ring(slot(0), slot(1)), classes(0, 1), 4},
		{"two slots of two classes change places, the other way", ring(slot(0), slot(1)), classes(1, 0), 4},
		{"a ring of slots", ring(slot(0), slot(2), slot(1), slot(3)), zeros(4), 10},
		{"a ring of slots of two classes", ring(slot(0), slot(1), slot(2), slot(3)), classes(0, 1, 1, 0), 10},
		{"two rings of slots", append(ring(slot(0), slot(1)), ring(slot(2), slot(3))...), classes(0, 0, 1, 1), 12},
		{"a ring of slots and registers", ring(reg(0), slot(0), reg(1), slot(1)), zeros(4), 5},
		{"one from slot to slot in a ring", ring(reg(0), slot(0), slot(1)), zeros(3), 4},
		{"one from slot to slot in a ring, at first", ring(slot(0), slot(1), reg(0)), zeros(3), 4},
		{"two from slot to slot in a ring", ring(reg(0), slot(0), slot(1), slot(2)), zeros(4), 8},
		{"a ring of two classes", ring(reg(0), slot(0), other(0), slot(1)), classes(0, 1, 1, 0), 5},
		{"from slot to slot of class 1 in a ring of class 0", ring(reg(0), slot(0), slot(1)), classes(0, 1, 0), 5},
	} {
		if got := ordered(t, c.name, machine(), c.moves, c.classes, 4); len(got) > c.most {
			t.Errorf("%s: %v: %d moves, %d do it", c.name, got, len(got), c.most)
		}
	}
}

// P7.2: without slots, too: then there is just the slot 0, and with as many as there may be.
func TestFrames(t *testing.T) {
	for _, frame := range []int{0, 1, api.MaxFrame - 1} {
		ordered(t, "a ring of registers", machine(), ring(reg(0), reg(1), reg(2)), zeros(3), frame)
	}
	last := api.MaxFrame - 2
	ordered(t, "the last slots change places", machine(), ring(slot(last), slot(last-1)), zeros(2), api.MaxFrame-1)
	ordered(t, "a line of the last slots", machine(), line(reg(0), slot(last), slot(last-1)), zeros(2), api.MaxFrame-1)
}

// P7.2: machines of other sizes have their scratches elsewhere.
func TestMachines(t *testing.T) {
	for _, regs := range [][api.Classes]int{{2, 2}, {2, api.MaxRegs}, {api.MaxRegs, 2}, {api.MaxRegs, api.MaxRegs}} {
		m := api.Machine{Regs: regs}
		for class, n := range regs {
			var all []api.Place
			for r := range n {
				all = append(all, api.Place{Kind: api.InReg, Class: class, N: r})
			}
			of := slices.Repeat(classes(class), n)
			ordered(t, "a ring of all", m, ring(all...), of, 0)
			ordered(t, "a line of all", m, line(append(all, slot(0))...), of, 1)
		}
		ordered(t, "slots change places", m, ring(slot(0), slot(1), slot(2)), classes(1, 0, 0), 3)
		ordered(t, "slots of one class change places", m, ring(slot(0), slot(1)), classes(1, 1), 2)
	}
}

// P7.1: what CheckMachine refuses, and sizes.
func TestSizes(t *testing.T) {
	good := moves(reg(0), reg(1))
	many := func(n int) []api.Move { return slices.Repeat(good, n) }
	for _, c := range []struct {
		name          string
		first, second int
		moves         []api.Move
		classes       []int
		frame         int
		want          api.Errno
	}{
		{"good", 5, 4, good, zeros(1), 0, api.OK},
		{"too few registers", 1, 4, good, zeros(1), 0, api.ErrRange},
		{"too few registers of class 1", 5, 1, good, zeros(1), 0, api.ErrRange},
		{"too many registers", 5, api.MaxRegs + 1, good, zeros(1), 0, api.ErrRange},
		{"no such machine, without moves", math.MinInt, math.MaxInt, nil, nil, 0, api.ErrRange},
		{"the frame 0", 5, 4, nil, nil, 0, api.OK},
		{"the greatest frame", 5, 4, good, zeros(1), api.MaxFrame - 1, api.OK},
		{"no room for one more slot", 5, 4, good, zeros(1), api.MaxFrame, api.ErrSize},
		{"no room, without moves", 5, 4, nil, nil, api.MaxFrame, api.ErrSize},
		{"a frame by far too great", 5, 4, good, zeros(1), math.MaxInt, api.ErrSize},
		{"a frame below 0", 5, 4, good, zeros(1), -1, api.ErrSize},
		{"a frame far below 0", 5, 4, nil, nil, math.MinInt, api.ErrSize},
		{"as many moves as may be", 5, 4, many(api.MaxMoves / 4), zeros(api.MaxMoves / 4), 0, api.ErrTwice},
		{"one move too many", 5, 4, many(api.MaxMoves/4 + 1), zeros(api.MaxMoves/4 + 1), 0, api.ErrSize},
		{"by far too many moves", 5, 4, many(1 << 20), nil, 0, api.ErrSize},
		{"no classes", 5, 4, good, nil, 0, api.ErrForm},
		{"too few classes", 5, 4, line(reg(0), reg(1), reg(2)), zeros(1), 0, api.ErrForm},
		{"too many classes", 5, 4, good, zeros(2), 0, api.ErrForm},
		{"classes without moves", 5, 4, nil, zeros(1), 0, api.ErrForm},
		{"by far too many classes", 5, 4, good, zeros(1 << 20), 0, api.ErrForm},

		{"the machine tells ahead of the frame", 1, 4, good, zeros(1), -1, api.ErrRange},
		{"the machine tells ahead of how many", 5, 11, many(api.MaxMoves), nil, 0, api.ErrRange},
		{"the frame tells ahead of the form", 5, 4, good, nil, api.MaxFrame, api.ErrSize},
		{"how many tells ahead of the form", 5, 4, many(api.MaxMoves/4 + 1), nil, 0, api.ErrSize},
		{"as many as may be, of no form", 5, 4, many(api.MaxMoves / 4), nil, 0, api.ErrForm},
		{"the form tells ahead of moves", 5, 4, moves(reg(0), reg(9)), classes(9, 9), 0, api.ErrForm},
	} {
		m := api.Machine{Regs: [api.Classes]int{c.first, c.second}}
		got, e := order.Order(m, c.moves, c.classes, c.frame)
		if e != c.want || e != api.OK && len(got) > 0 {
			t.Errorf("%s: %v %d, want %d", c.name, got, e, c.want)
		}
	}
}

type refusal struct {
	name  string
	from  api.Place
	to    api.Place
	class int
	want  api.Errno
}

func (c refusal) test(t *testing.T, frame int) {
	got, e := order.Order(machine(), moves(c.from, c.to), classes(c.class), frame)
	if e != c.want || e != api.OK && len(got) > 0 {
		t.Errorf("%s: %v %d, want %d", c.name, got, e, c.want)
	}
	// Behind a move that may be, and ahead of one that may not.
	l := slices.Concat(moves(reg(4), reg(4)), moves(c.from, c.to), moves(reg(9), reg(9)))
	want := c.want
	if want == api.OK {
		want = api.ErrRange
	}
	if got, e := order.Order(machine(), l, classes(0, c.class, 0), frame); e != want || len(got) > 0 {
		t.Errorf("%s, among others: %v %d, want %d", c.name, got, e, want)
	}
}

// P7.1: what a move may be.
func TestRefusedMoves(t *testing.T) {
	inSlot := func(class, n int) api.Place { return api.Place{Kind: api.InSlot, Class: class, N: n} }
	for _, c := range []refusal{
		{"the last registers", reg(4), reg(3), 0, api.OK},
		{"the last registers of class 1", other(3), other(0), 1, api.OK},
		{"the last slot", slot(2), slot(0), 1, api.OK},
		{"a class behind the last one", reg(0), reg(1), 2, api.ErrClass},
		{"a class below 0", reg(0), reg(1), -1, api.ErrClass},
		{"no such class, of slots", slot(0), slot(1), math.MaxInt, api.ErrClass},
		{"no such class, of slots, far below 0", slot(0), slot(1), math.MinInt, api.ErrClass},
		{"from a scratch", reg(5), reg(0), 0, api.ErrRange},
		{"to a scratch", reg(0), reg(5), 0, api.ErrRange},
		{"from the scratch of class 1", other(4), other(0), 1, api.ErrRange},
		{"to the scratch of class 1", slot(0), other(4), 1, api.ErrRange},
		{"from behind the scratch", reg(6), reg(0), 0, api.ErrRange},
		{"to below 0", reg(0), reg(-1), 0, api.ErrRange},
		{"from far behind", reg(math.MaxInt), reg(0), 0, api.ErrRange},
		{"from a class that is none", api.Place{Kind: api.InReg, Class: 2}, reg(0), 0, api.ErrRange},
		{"to a class that is none", reg(0), api.Place{Kind: api.InReg, Class: -1}, 0, api.ErrRange},
		{"from the slot frame", slot(3), reg(0), 0, api.ErrRange},
		{"to the slot frame", reg(0), slot(3), 0, api.ErrRange},
		{"from a slot below 0", slot(-1), reg(0), 0, api.ErrRange},
		{"to a slot far behind", reg(0), slot(math.MaxInt), 0, api.ErrRange},
		{"from a slot with a class", inSlot(1, 0), other(0), 1, api.ErrRange},
		{"to a slot with a class", other(0), inSlot(1, 0), 1, api.ErrRange},
		{"to a slot with a class below 0", reg(0), inSlot(-1, 0), 0, api.ErrRange},
		{"from no kind", api.Place{}, reg(0), 0, api.ErrRange},
		{"to a kind that is none", reg(0), api.Place{Kind: 3}, 0, api.ErrRange},
		{"a place that is none stays where it is", api.Place{}, api.Place{}, 0, api.ErrRange},
		{"a scratch stays where it is", reg(5), reg(5), 0, api.ErrRange},
		{"from another class", other(0), reg(0), 0, api.ErrClass},
		{"to another class", reg(0), other(0), 0, api.ErrClass},
		{"both are of another class", reg(0), reg(1), 1, api.ErrClass},
		{"both are of another class, of class 1", other(0), other(1), 0, api.ErrClass},
		{"a slot to another class", slot(0), other(0), 0, api.ErrClass},
		{"another class to a slot", reg(0), slot(0), 1, api.ErrClass},
		{"another class stays where it is", reg(0), reg(0), 1, api.ErrClass},

		{"the class tells ahead of places", reg(9), reg(9), 2, api.ErrClass},
		{"To tells ahead of From's class", other(0), reg(5), 0, api.ErrRange},
		{"From tells ahead of To's class", slot(3), other(0), 0, api.ErrRange},
	} {
		c.test(t, 3)
	}
	refusal{"a slot, where there are none", slot(0), reg(0), 0, api.ErrRange}.test(t, 0)
	refusal{"to a slot, where there are none", reg(0), slot(0), 0, api.ErrRange}.test(t, 0)
}

// P7.1: what moves may be beside each other, move by move.
func TestTwice(t *testing.T) {
	for _, c := range []struct {
		name    string
		moves   []api.Move
		classes []int
		want    api.Errno
	}{
		{"from the same register", moves(reg(0), reg(1), reg(0), reg(2)), zeros(2), api.OK},
		{"to the same register", moves(reg(0), reg(2), reg(1), reg(2)), zeros(2), api.ErrTwice},
		{"the same move", moves(reg(0), reg(2), reg(0), reg(2)), zeros(2), api.ErrTwice},
		{"the same that stays where it is", moves(reg(0), reg(0), reg(0), reg(0)), zeros(2), api.ErrTwice},
		{"to one that stays where it is", moves(reg(0), reg(0), reg(1), reg(0)), zeros(2), api.ErrTwice},
		{"to the same slot", moves(reg(0), slot(2), slot(0), reg(1), slot(1), slot(2)), zeros(3), api.ErrTwice},
		{"to the same slot, of two classes", moves(reg(0), slot(2), other(0), slot(2)), classes(0, 1), api.ErrTwice},
		{"to the same number of two classes", moves(reg(0), reg(1), other(0), other(1)), classes(0, 1), api.OK},
		{"to a slot and a register of the same number", moves(reg(0), reg(1), reg(0), slot(1)), zeros(2), api.OK},

		{"its class tells ahead", moves(reg(0), reg(2), reg(1), reg(2)), classes(0, 2), api.ErrClass},
		{"its places tell ahead", moves(reg(0), reg(2), reg(5), reg(2)), zeros(2), api.ErrRange},
		{"their classes tell ahead", moves(reg(0), reg(2), other(1), reg(2)), zeros(2), api.ErrClass},
		{"twice tells ahead of the next move", moves(reg(0), reg(2), reg(1), reg(2), reg(5), reg(5)), zeros(3), api.ErrTwice},
		{"twice tells ahead of the next class", moves(reg(0), reg(2), reg(1), reg(2), reg(0), reg(1)), classes(0, 0, 7), api.ErrTwice},
		{"move by move: a place, ahead of a class", moves(reg(5), reg(2), reg(1), reg(2)), classes(0, 7), api.ErrRange},
		{"move by move: a class, ahead of a place", moves(reg(0), reg(2), reg(5), reg(1)), classes(1, 0), api.ErrClass},
		{"what is twice far behind", append(line(reg(0), reg(1), reg(2), reg(3)), moves(slot(0), reg(1))...), zeros(4), api.ErrTwice},
	} {
		got, e := order.Order(machine(), c.moves, c.classes, 3)
		if e != c.want || e != api.OK && len(got) > 0 {
			t.Errorf("%s: %v %d, want %d", c.name, got, e, c.want)
		}
	}
}
