package mach_test

import (
	"cmp"
	"fmt"
	"math"
	"slices"
	"testing"

	"ostler/api"
	"ostler/flow"
	"ostler/mach"
	"ostler/run"
)

// draw: numbers that look drawn, the same each time.
type draw uint64

func (d *draw) below(n int) int {
	*d = *d*6364136223846793005 + 1442695040888963407
	return int(uint64(*d>>33) % uint64(n))
}

// number: small, below 0, or by far.
func (d *draw) number() int {
	switch n := d.below(1 << 31); d.below(4) {
	case 0:
		return n<<32 ^ d.below(1<<31)<<11 ^ d.below(1<<31)
	case 1:
		return -n
	case 2:
		return n % 10
	default:
		return n
	}
}

// list of fewer than so many numbers.
func (d *draw) list(n int) []int {
	var l []int
	for range d.below(n) {
		l = append(l, d.number())
	}
	return l
}

// leads: for each block where its edges go; one can come to each, and where many lead to many there is a block between.
func (d *draw) leads() [][]int {
	n := 1 + d.below(5)
	l := make([][]int, n)
	for b := 1; b < n; b++ {
		from := d.below(b)
		for len(l[from]) == api.MaxSuccs {
			from++
		}
		l[from] = append(l[from], b)
	}
	for range d.below(n) {
		if from := d.below(n); n > 1 && len(l[from]) < api.MaxSuccs {
			l[from] = append(l[from], 1+d.below(n-1))
		}
	}
	for from := range n {
		for i, b := range l[from] {
			if len(l[from]) > 1 && len(l) < api.MaxBlocks {
				l[from][i] = len(l)
				l = append(l, []int{b})
			}
		}
	}
	return l
}

// fun that may be: the value 0 is made ahead of all, so that it is an arg for all params at first.
func (d *draw) fun() api.Func {
	f := fun(1)
	for b, l := range d.leads() {
		block := api.Block{Edges: to(l...), Instrs: instrs(instr(d.below(20)))}
		if b == 0 {
			block.Instrs = instrs(instr(d.below(20), lateDef(0)), instr(d.below(20)))
		} else if len(l) == 1 && d.below(3) == 0 {
			block.Instrs = nil
		}
		f.Blocks = append(f.Blocks, block)
	}
	for b := range f.Blocks {
		for range d.below(3) {
			if b > 0 {
				f.Blocks[b].Params = append(f.Blocks[b].Params, len(f.Values))
				f.Values = append(f.Values, 0)
			}
		}
	}
	for _, block := range f.Blocks {
		for i, edge := range block.Edges {
			block.Edges[i].Args = make([]int, len(f.Blocks[edge.Block].Params))
		}
	}
	for range 4 + d.below(24) {
		d.grow(&f)
	}
	return f
}

// grow a function by what is spoilt, a def, a use or another arg; if it may not be so, it stays as it was.
func (d *draw) grow(f *api.Func) {
	block := &f.Blocks[d.below(len(f.Blocks))]
	i := len(block.Instrs)
	switch kind := d.below(5); {
	case kind == 0 && len(block.Edges) > 0:
		edge := block.Edges[d.below(len(block.Edges))]
		if len(edge.Args) == 0 {
			return
		}
		arg := &edge.Args[d.below(len(edge.Args))]
		was := *arg
		*arg = d.below(len(f.Values))
		if flow.Check(*f, machine()) != api.OK {
			*arg = was
		}
	case kind == 1 && i > 0:
		x := &block.Instrs[d.below(i)]
		was := x.Spoils
		x.Spoils = append(slices.Clone(was), api.Reg{Class: d.below(2), N: d.below(4)})
		if flow.Check(*f, machine()) != api.OK {
			x.Spoils = was
		}
	case kind == 2 && i < 5:
		block.Instrs = slices.Insert(block.Instrs, d.below(i+1), instr(d.below(20)))
	case i > 0:
		d.growInstr(f, &block.Instrs[d.below(i)])
	}
}

// growInstr: an instruction by a def or a use.
func (d *draw) growInstr(f *api.Func, x *api.Instr) {
	was, values := x.Operands, len(f.Values)
	o := api.Operand{Kind: api.Use, Late: d.below(2) == 0, Limit: api.Anywhere, Value: d.below(values)}
	if d.below(3) == 0 {
		o.Kind, o.Value = api.Def, values
		f.Values = append(f.Values, d.below(2))
	}
	x.Operands = slices.Insert(slices.Clone(was), d.below(len(was)+1), o)
	if flow.Check(*f, machine()) != api.OK {
		x.Operands, f.Values = was, f.Values[:values]
	}
}

// place that an operand may have, or, if scratches too, a move.
func (d *draw) place(m api.Machine, frame, scratches int) api.Place {
	if d.below(3) == 0 && frame > 0 {
		return slot(d.below(frame))
	}
	class := d.below(api.Classes)
	return api.Place{Kind: api.InReg, Class: class, N: d.below(m.Regs[class] + scratches)}
}

// move that may be.
func (d *draw) move(m api.Machine, frame int) api.Move {
	for {
		from, to := d.place(m, frame, 1), d.place(m, frame, 1)
		if from.Kind != to.Kind || from.Kind == api.InReg && from.Class == to.Class {
			return api.Move{From: from, To: to}
		}
	}
}

// output that may be; what it does is nothing that the function does.
func (d *draw) output(f api.Func, m api.Machine) api.Output {
	o := api.Output{Frame: d.below(5)}
	for b, block := range f.Blocks {
		rows := make([][]api.Place, len(block.Instrs))
		for i, x := range block.Instrs {
			for range x.Operands {
				rows[i] = append(rows[i], d.place(m, o.Frame, 0))
			}
		}
		o.Places = append(o.Places, rows)
		for i := range len(block.Instrs) + 1 {
			if d.below(3) > 0 {
				continue
			}
			edit := api.Edit{Block: b, At: i}
			for range d.below(4) {
				edit.Moves = append(edit.Moves, d.move(m, o.Frame))
			}
			o.Edits = append(o.Edits, edit)
		}
	}
	return o
}

// laid: what lies in the places, by the words of the chapter.
type laid struct {
	has  map[api.Place]int
	junk []int
	next int
}

func (l *laid) spoil(p api.Place) {
	l.has[p] = 0
	if len(l.junk) > 0 {
		l.has[p] = l.junk[l.next%len(l.junk)]
	}
	l.next++
}

// does: P5.4, sentence by sentence; what was read, in the order of the operands.
func (l *laid) does(seed int, x api.Instr, places []api.Place) []int {
	was := map[int]int{}
	for i, o := range x.Operands {
		if o.Kind == api.Use && !o.Late {
			was[i] = l.has[places[i]]
		}
	}
	for i, o := range x.Operands {
		if o.Kind == api.Def && !o.Late {
			l.spoil(places[i])
		}
	}
	for _, r := range x.Spoils {
		l.spoil(api.Place{Kind: api.InReg, Class: r.Class, N: r.N})
	}
	for i, o := range x.Operands {
		if o.Kind == api.Use && o.Late {
			was[i] = l.has[places[i]]
		}
	}
	var read []int
	for i := range x.Operands {
		if n, ok := was[i]; ok {
			read = append(read, n)
		}
	}
	for i, o := range x.Operands {
		if o.Kind == api.Def {
			l.has[places[i]] = run.Mix(append([]int{seed, x.Op, i}, read...))
		}
	}
	return read
}

// want: what an output does, step by step. The place ahead of the first instruction is -1: to come there is a step.
func want(f api.Func, m api.Machine, o api.Output, seed int, junk []int, steps int) []api.Event {
	l := laid{has: map[api.Place]int{}, junk: junk}
	for class, n := range m.Regs {
		for r := 0; r <= n; r++ {
			l.spoil(api.Place{Kind: api.InReg, Class: class, N: r})
		}
	}
	for s := 0; s < o.Frame; s++ {
		l.spoil(slot(s))
	}
	move := func(block, at int) {
		for _, edit := range o.Edits {
			if edit.Block == block && edit.At == at {
				for _, m := range edit.Moves {
					l.has[m.To] = l.has[m.From]
				}
			}
		}
	}
	var events []api.Event
	block, at := 0, -1
	for range steps {
		b := f.Blocks[block]
		var read []int
		if at >= 0 {
			move(block, at)
			read = l.does(seed, b.Instrs[at], o.Places[block][at])
		}
		edge := -1
		last := at+1 == len(b.Instrs)
		if last && len(b.Edges) > 0 {
			edge = 0
		}
		if edge == 0 && len(b.Edges) > 1 {
			edge = run.Mix(append([]int{seed, b.Instrs[at].Op, -1}, read...)) % len(b.Edges)
		}
		if at >= 0 {
			events = append(events, api.Event{Block: block, At: at, Read: read, Edge: edge})
		}
		at++
		if last {
			move(block, at)
			if edge < 0 {
				return events
			}
			block, at = b.Edges[edge].Block, -1
		}
	}
	return events
}

// P5.3, P5.4: drawn outputs, against what the words say.
func TestDrawn(t *testing.T) {
	d := draw(50)
	forks, reads, spoils, moves := 0, 0, 0, 0
	for i := range 3000 {
		m := api.Machine{Regs: [api.Classes]int{5 + d.below(6), 4 + d.below(7)}}
		f := d.fun()
		o := d.output(f, m)
		seed, junk, steps := d.number(), d.list(api.MaxJunk+1), d.below(80)
		if i%50 == 0 {
			steps = d.below(api.MaxSteps + 1)
		}
		if e := mach.Check(f, m, o); e != api.OK {
			t.Fatalf("case %d: %v %v: refused %d", i, f, o, e)
		}
		got, e := mach.Run(f, m, o, seed, junk, steps)
		if wanted := want(f, m, o, seed, junk, steps); e != api.OK || flat(got) != flat(wanted) {
			t.Fatalf("case %d: %v %v, seed %d, junk %v, %d steps: %v %d, want %v", i, f, o, seed, junk, steps, got, e, wanted)
		}
		for _, event := range got {
			reads += len(event.Read)
			spoils += len(f.Blocks[event.Block].Instrs[event.At].Spoils)
			if event.Edge > 0 {
				forks++
			}
		}
		moves += len(o.Edits)
	}
	if forks < 1000 || reads < 10000 || spoils < 5000 || moves < 5000 {
		t.Errorf("drawn too small, to tell anything: %d %d %d %d", forks, reads, spoils, moves)
	}
}

// inSlots: an output that does what the function does: each value has a slot of its own, and one more, by which it is handed on.
func inSlots(f api.Func) api.Output {
	n := len(f.Values)
	o := api.Output{Frame: 2 * n}
	carry := func(from, to int) []api.Move {
		return []api.Move{{From: slot(from), To: reg(5)}, {From: reg(5), To: slot(to)}}
	}
	for b, block := range f.Blocks {
		rows := make([][]api.Place, len(block.Instrs))
		for i, x := range block.Instrs {
			for _, p := range x.Operands {
				rows[i] = append(rows[i], slot(p.Value))
			}
		}
		o.Places = append(o.Places, rows)
		for _, edge := range block.Edges {
			// Of more edges each leads where no other one does: its moves stand there.
			edit := api.Edit{Block: b, At: len(block.Instrs)}
			if len(block.Edges) > 1 {
				edit = api.Edit{Block: edge.Block}
			}
			params := f.Blocks[edge.Block].Params
			for i, arg := range edge.Args {
				edit.Moves = append(edit.Moves, carry(arg, n+params[i])...)
			}
			for _, p := range params {
				edit.Moves = append(edit.Moves, carry(n+p, p)...)
			}
			o.Edits = append(o.Edits, edit)
		}
	}
	slices.SortStableFunc(o.Edits, func(a, b api.Edit) int {
		return cmp.Or(cmp.Compare(a.Block, b.Block), cmp.Compare(a.At, b.At))
	})
	// In a block without instructions what comes in and what goes out are one edit.
	var joined []api.Edit
	for _, edit := range o.Edits {
		if last := len(joined) - 1; last >= 0 && joined[last].Block == edit.Block && joined[last].At == edit.At {
			joined[last].Moves = append(joined[last].Moves, edit.Moves...)
		} else {
			joined = append(joined, edit)
		}
	}
	o.Edits = joined
	return o
}

// P5.3: as P4.4 says of a function: an output that keeps each value does the same, for any junk and any steps.
func TestAsFunction(t *testing.T) {
	d := draw(51)
	handed := 0
	for i := range 2000 {
		f := d.fun()
		o := inSlots(f)
		seed, junk, steps := d.number(), d.list(9), d.below(120)
		wanted, e := run.Source(f, machine(), seed, steps)
		if e != api.OK {
			t.Fatalf("case %d: %d", i, e)
		}
		got, e := mach.Run(f, machine(), o, seed, junk, steps)
		if e != api.OK || flat(got) != flat(wanted) {
			t.Fatalf("case %d: %v %v: %v %d, want %v", i, f, o, got, e, wanted)
		}
		for _, event := range got {
			if event.Edge >= 0 {
				handed += len(f.Blocks[event.Block].Edges[event.Edge].Args)
			}
		}
	}
	if handed < 5000 {
		t.Errorf("drawn too small, to tell anything: %d", handed)
	}
}

// refusal: what Check answers, by the words of the chapter: all places that may be are listed.
func refusal(f api.Func, m api.Machine, o api.Output) api.Errno {
	if e := flow.Check(f, m); e != api.OK {
		return e
	}
	if o.Frame < 0 || o.Frame > api.MaxFrame {
		return api.ErrSize
	}
	var may, scratch []api.Place
	for class, n := range m.Regs {
		for r := range n {
			may = append(may, api.Place{Kind: api.InReg, Class: class, N: r})
		}
		scratch = append(scratch, api.Place{Kind: api.InReg, Class: class, N: n})
	}
	for s := range o.Frame {
		may = append(may, slot(s))
	}
	if len(o.Places) != len(f.Blocks) {
		return api.ErrForm
	}
	for b, rows := range o.Places {
		if len(rows) != len(f.Blocks[b].Instrs) {
			return api.ErrForm
		}
		for i, l := range rows {
			if len(l) != len(f.Blocks[b].Instrs[i].Operands) {
				return api.ErrForm
			}
			for _, p := range l {
				if !slices.Contains(may, p) {
					return api.ErrRange
				}
			}
		}
	}
	return refusedEdits(f, o.Edits, append(may, scratch...))
}

func refusedEdits(f api.Func, edits []api.Edit, may []api.Place) api.Errno {
	key := func(e api.Edit) int { return e.Block*(api.MaxInstrs+1) + e.At }
	all := 0
	for i, edit := range edits {
		all += len(edit.Moves)
		switch {
		case edit.Block < 0 || edit.Block >= len(f.Blocks):
			return api.ErrRange
		case edit.At < 0 || edit.At > len(f.Blocks[edit.Block].Instrs):
			return api.ErrRange
		case i > 0 && key(edit) <= key(edits[i-1]):
			return api.ErrForm
		case all > api.MaxMoves:
			return api.ErrSize
		}
		for _, m := range edit.Moves {
			switch {
			case !slices.Contains(may, m.From) || !slices.Contains(may, m.To):
				return api.ErrRange
			case m.From.Kind == api.InSlot && m.To.Kind == api.InSlot:
				return api.ErrLimit
			case m.From.Kind == api.InReg && m.To.Kind == api.InReg && m.From.Class != m.To.Class:
				return api.ErrClass
			}
		}
	}
	return api.OK
}

// wild: one number or one list of the output, or one number of the function or the machine, is another one.
func (d *draw) wild(f *api.Func, m *api.Machine, o *api.Output) {
	numbers := []*int{&o.Frame}
	place := func(p *api.Place) { numbers = append(numbers, &p.Kind, &p.Class, &p.N) }
	for b := range o.Places {
		for i := range o.Places[b] {
			for j := range o.Places[b][i] {
				place(&o.Places[b][i][j])
			}
		}
	}
	for i := range o.Edits {
		edit := &o.Edits[i]
		numbers = append(numbers, &edit.Block, &edit.At)
		for j := range edit.Moves {
			place(&edit.Moves[j].From)
			place(&edit.Moves[j].To)
		}
	}
	to := [...]int{-1, 0, 1, 2, 3, 4, 5, 6, 16, 1001, math.MinInt, math.MaxInt, 1 << 32}
	other := to[d.below(len(to))]
	b := d.below(len(f.Blocks))
	switch d.below(14) {
	case 0:
		o.Places = o.Places[:d.below(len(o.Places)+1)]
	case 1:
		o.Places = append(slices.Clone(o.Places), nil)
	case 2:
		if b < len(o.Places) {
			o.Places[b] = o.Places[b][:d.below(len(o.Places[b])+1)]
		}
	case 3:
		if b < len(o.Places) && len(o.Places[b]) > 0 {
			row := &o.Places[b][d.below(len(o.Places[b]))]
			*row = append(slices.Clone(*row), reg(0))
		}
	case 4:
		if len(o.Edits) > 1 {
			i, j := d.below(len(o.Edits)), d.below(len(o.Edits))
			o.Edits[i], o.Edits[j] = o.Edits[j], o.Edits[i]
		}
	case 5:
		m.Regs[d.below(2)] = other
	case 6:
		for _, x := range f.Blocks[b].Instrs {
			for i := range x.Operands {
				x.Operands[i].Kind = other
			}
		}
	case 7, 8:
		for i := range o.Edits {
			for j := range o.Edits[i].Moves {
				if d.below(4) == 0 {
					o.Edits[i].Moves[j].To = d.place(machine(), o.Frame&3, 1)
				}
			}
		}
	default:
		*numbers[d.below(len(numbers))] = other
	}
}

// told: all that was handed in, spare room too.
func told(f api.Func, o api.Output, junk []int) string {
	s := fmt.Sprint(f.Values[:cap(f.Values)], len(f.Values), o.Frame, junk[:cap(junk)], len(junk))
	for _, b := range f.Blocks[:cap(f.Blocks)] {
		s += fmt.Sprint(b.Params[:cap(b.Params)], len(b.Params), len(b.Instrs), len(b.Edges))
		for _, x := range b.Instrs[:cap(b.Instrs)] {
			s += fmt.Sprint(x.Op, x.Operands[:cap(x.Operands)], len(x.Operands), x.Spoils[:cap(x.Spoils)], len(x.Spoils))
		}
		for _, e := range b.Edges[:cap(b.Edges)] {
			s += fmt.Sprint(e.Block, e.Args[:cap(e.Args)], len(e.Args))
		}
	}
	for _, rows := range o.Places[:cap(o.Places)] {
		s += fmt.Sprint(len(rows))
		for _, l := range rows[:cap(rows)] {
			s += fmt.Sprint(l[:cap(l)], len(l))
		}
	}
	for _, e := range o.Edits[:cap(o.Edits)] {
		s += fmt.Sprint(e.Block, e.At, e.Moves[:cap(e.Moves)], len(e.Moves))
	}
	return s
}

// room: the list, with spare room that is filled.
func room[T any](l []T, more ...T) []T { return append(slices.Clone(l), more...)[:len(l)] }

// roomy: a function and an output all of whose lists have spare room that is filled.
func roomy(f api.Func, o api.Output) (api.Func, api.Output) {
	f.Values = room(f.Values, 7, 7)
	f.Blocks = room(f.Blocks, api.Block{Params: []int{7}})
	for i := range f.Blocks {
		b := &f.Blocks[i]
		b.Params, b.Instrs, b.Edges = room(b.Params, 7, 7), room(b.Instrs, instr(7, use(7))), room(b.Edges, with(7, 7)...)
		for j := range b.Instrs {
			x := &b.Instrs[j]
			x.Operands, x.Spoils = room(x.Operands, use(7)), room(x.Spoils, api.Reg{N: 7})
		}
		for j := range b.Edges {
			b.Edges[j].Args = room(b.Edges[j].Args, 7, 7)
		}
	}
	o.Places = room(o.Places, row(at(reg(7))))
	for i := range o.Places {
		o.Places[i] = room(o.Places[i], at(reg(7)))
		for j := range o.Places[i] {
			o.Places[i][j] = room(o.Places[i][j], reg(7))
		}
	}
	o.Edits = room(o.Edits, edit(7, 7, reg(7), reg(7)))
	for i := range o.Edits {
		o.Edits[i].Moves = room(o.Edits[i].Moves, moves(reg(7), reg(7))...)
	}
	return f, o
}

// P5.1, P5.2: what is refused, in which order. What holds everywhere: calls end without a panic, answer the same again, nothing else with an error, and leave what they are given as it is.
func TestWild(t *testing.T) {
	d := draw(52)
	refused := map[api.Errno]int{}
	for i := range 6000 {
		m := machine()
		f := d.fun()
		f, o := roomy(f, d.output(f, m))
		for range d.below(4) {
			d.wild(&f, &m, &o)
		}
		seed, junk, steps := d.number(), room(d.list(api.MaxJunk+3), 7, 7), d.below(100)
		if d.below(8) == 0 {
			steps = d.number()
		}
		before := told(f, o, junk)
		wanted := refusal(f, m, o)
		if e := mach.Check(f, m, o); e != wanted {
			t.Fatalf("case %d: %v %v %v: %d, want %d", i, f, m, o, e, wanted)
		}
		switch {
		case wanted != api.OK:
		case steps < 0 || steps > api.MaxSteps:
			wanted = api.ErrRange
		case len(junk) > api.MaxJunk:
			wanted = api.ErrSize
		}
		got, e := mach.Run(f, m, o, seed, junk, steps)
		if e != wanted || e != api.OK && len(got) > 0 {
			t.Fatalf("case %d: %d, %v, want %d", i, e, got, wanted)
		}
		refused[e]++
		again, _ := mach.Run(f, m, o, seed, junk, steps)
		if flat(got) != flat(again) {
			t.Fatalf("case %d: not the same again", i)
		}
		if told(f, o, junk) != before {
			t.Fatalf("case %d: what was given is changed", i)
		}
	}
	for _, e := range []api.Errno{api.OK, api.ErrSize, api.ErrRange, api.ErrForm, api.ErrLimit, api.ErrClass} {
		if refused[e] < 10 {
			t.Errorf("drawn too small, to tell anything: %v", refused)
		}
	}
}

// What comes out is new memory, spare room too: what is written into one list is seen in no other one.
func TestNewMemory(t *testing.T) {
	f := fun(4,
		api.Block{Instrs: instrs(instr(1, def(0)), instr(2, def(1))), Edges: with(1, 0, 1)},
		api.Block{Params: []int{2, 3}, Instrs: instrs(instr(3, use(2), use(3), lateUse(0))), Edges: with(1, 3, 2)},
	)
	f, o := roomy(f, inSlots(f))
	junk := room([]int{1, 2, 3}, 7)
	before := told(f, o, junk)
	one, _ := mach.Run(f, machine(), o, 1, junk, 40)
	other, _ := mach.Run(f, machine(), o, 1, junk, 40)
	var lists [][]int
	for _, event := range slices.Concat(one, other) {
		lists = append(lists, event.Read)
	}
	for i, l := range lists {
		for j := range l[:cap(l)] {
			l[:cap(l)][j] = -100 - i
		}
	}
	for i, l := range lists {
		for _, n := range l[:cap(l)] {
			if n != -100-i {
				t.Fatalf("the list %d shares memory with another one", i)
			}
		}
	}
	for i := range one[:cap(one)] {
		one[:cap(one)][i] = api.Event{Block: -5}
	}
	if len(other) < 10 || slices.ContainsFunc(other, func(e api.Event) bool { return e.Block == -5 }) {
		t.Error("two answers share memory")
	}
	if told(f, o, junk) != before {
		t.Error("an answer shares memory with what was given")
	}
}

// As much as may be: a loop that has nothing but moves, as many as there may be, for as many steps.
func TestFull(t *testing.T) {
	f := fun(0, api.Block{Edges: to(1)}, api.Block{Edges: to(1)})
	o := output(api.MaxFrame, nil, nil)
	o.Edits = edits(api.Edit{Block: 1, Moves: slices.Repeat(moves(slot(0), reg(5), reg(5), slot(999)), api.MaxMoves/2)})
	if got, e := mach.Run(f, machine(), o, 1, nil, api.MaxSteps); e != api.OK || len(got) > 0 {
		t.Errorf("%v %d", got, e)
	}
}
