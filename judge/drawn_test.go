package judge_test

import (
	"cmp"
	"fmt"
	"reflect"
	"slices"
	"strings"
	"testing"

	"ostler/api"
	"ostler/flow"
	"ostler/judge"
	"ostler/mach"
	"ostler/run"
	"ostler/shape"
)

// draw: numbers that look drawn, the same each time.
type draw uint64

func (d *draw) below(n int) int {
	*d = *d*6364136223846793005 + 1442695040888963407
	return int(uint64(*d>>33) % uint64(n))
}

// leads: for each block where its edges go; one can come to each, and where many lead to many there is a block between.
func (d *draw) leads() [][]int {
	n := 1 + d.below(5)
	l := make([][]int, n)
	for b := 1; b < n; b++ {
		from := d.below(b)
		for len(l[from]) == api.MaxSuccs {
			from++
		}
		l[from] = append(l[from], b)
	}
	for range d.below(n) {
		if from := d.below(n); n > 1 && len(l[from]) < api.MaxSuccs {
			l[from] = append(l[from], 1+d.below(n-1))
		}
	}
	for from := range n {
		for i, b := range l[from] {
			if len(l[from]) > 1 && len(l) < api.MaxBlocks {
				l[from][i] = len(l)
				l = append(l, []int{b})
			}
		}
	}
	return l
}

// fun that may be: the value 0 is made ahead of all, so that it is an arg for all params at first, and so are some more; so many limits of operands are drawn.
func (d *draw) fun(limits, more int) api.Func {
	f := fun(1 + more)
	for b, l := range d.leads() {
		block := api.Block{Edges: to(l...), Instrs: instrs(instr())}
		if b == 0 {
			block.Instrs = instrs(instr(lateDef(0)), instr())
			for v := range more {
				last := &block.Instrs[v/4+1]
				if last.Operands = append(last.Operands, lateDef(1+v)); v%4 == 3 {
					block.Instrs = append(block.Instrs, instr())
				}
			}
		} else if len(l) == 1 && d.below(3) == 0 {
			block.Instrs = nil
		}
		f.Blocks = append(f.Blocks, block)
	}
	for b := range f.Blocks {
		for range d.below(3) {
			if b > 0 {
				f.Blocks[b].Params = append(f.Blocks[b].Params, len(f.Values))
				f.Values = append(f.Values, 0)
			}
		}
	}
	for _, block := range f.Blocks {
		for i, edge := range block.Edges {
			block.Edges[i].Args = make([]int, len(f.Blocks[edge.Block].Params))
		}
	}
	for range 4 + d.below(24) {
		d.grow(&f, limits)
	}
	return f
}

// grow a function by what is spoilt, a def, a use or another arg; if it may not be so, it stays as it was.
func (d *draw) grow(f *api.Func, limits int) {
	block := &f.Blocks[d.below(len(f.Blocks))]
	i := len(block.Instrs)
	switch kind := d.below(5); {
	case kind == 0 && len(block.Edges) > 0:
		edge := block.Edges[d.below(len(block.Edges))]
		if len(edge.Args) == 0 {
			return
		}
		arg := &edge.Args[d.below(len(edge.Args))]
		was := *arg
		*arg = d.below(len(f.Values))
		if flow.Check(*f, machine()) != api.OK {
			*arg = was
		}
	case kind == 1 && i > 0:
		x := &block.Instrs[d.below(i)]
		was := x.Spoils
		x.Spoils = append(slices.Clone(was), api.Reg{Class: d.below(2), N: d.below(4)})
		if flow.Check(*f, machine()) != api.OK {
			x.Spoils = was
		}
	case kind == 2 && i < api.MaxInstrs:
		block.Instrs = slices.Insert(block.Instrs, d.below(i+1), instr())
	case i > 0:
		d.growInstr(f, &block.Instrs[d.below(i)], limits)
	}
}

// growInstr: an instruction by a def or a use.
func (d *draw) growInstr(f *api.Func, x *api.Instr, limits int) {
	was, values := x.Operands, len(f.Values)
	o := api.Operand{Kind: api.Use, Late: d.below(2) == 0, Limit: 1 + d.below(limits), Value: d.below(values)}
	if d.below(3) == 0 {
		o.Kind, o.Value = api.Def, values
		f.Values = append(f.Values, d.below(2))
	}
	if o.Limit >= api.Fixed {
		o.N = d.below(4)
	}
	// Places of operands must stay what Reuses name, so that the new one is the last.
	x.Operands = append(slices.Clone(was), o)
	if flow.Check(*f, machine()) != api.OK {
		x.Operands, f.Values = was, f.Values[:values]
	}
}

// place: a register, mostly of that class, that may be given away (or a scratch, if there is one more), or a slot.
func (d *draw) place(class, frame, more int) api.Place {
	switch d.below(20) {
	case 0:
		class = 1 - class
	case 1, 2, 3, 4, 5, 6:
		if frame > 0 {
			return slot(d.below(frame))
		}
	}
	return api.Place{Kind: api.InReg, Class: class, N: d.below(machine().Regs[class] + more)}
}

// move that may be.
func (d *draw) move(frame int) api.Move {
	for {
		class := d.below(api.Classes)
		from, to := d.place(class, frame, 1), d.place(class, frame, 1)
		if from.Kind != to.Kind || from.Kind == api.InReg && from.Class == to.Class {
			return api.Move{From: from, To: to}
		}
	}
}

// stand: a place of a block where moves may stand.
type stand struct{ block, at int }

// made: an output while it is made.
type made struct {
	frame  int
	places [][][]api.Place
	moves  map[stand][]api.Move
}

func (m *made) output() api.Output {
	o := api.Output{Places: m.places, Frame: m.frame}
	for s, l := range m.moves {
		o.Edits = append(o.Edits, api.Edit{Block: s.block, At: s.at, Moves: l})
	}
	slices.SortFunc(o.Edits, func(a, b api.Edit) int {
		return cmp.Or(cmp.Compare(a.Block, b.Block), cmp.Compare(a.At, b.At))
	})
	return o
}

func (m *made) move(b, at int, l ...api.Place) {
	m.moves[stand{b, at}] = append(m.moves[stand{b, at}], moves(l...)...)
}

// strewn: an output of places and moves that are drawn, few of them right.
func (d *draw) strewn(f api.Func) *made {
	m := &made{frame: d.below(4), moves: map[stand][]api.Move{}}
	for b, block := range f.Blocks {
		rows := make([][]api.Place, len(block.Instrs))
		for i, x := range block.Instrs {
			for _, o := range x.Operands {
				rows[i] = append(rows[i], d.place(f.Values[o.Value], m.frame, 0))
			}
		}
		m.places = append(m.places, rows)
		for i := range len(block.Instrs) + 1 {
			if d.below(3) == 0 {
				n := d.move(m.frame)
				m.move(b, i, n.From, n.To)
			}
		}
	}
	return m
}

// homely: an output that is right, mostly: each value has a slot of its own, and one more, by which it is handed on. Operands are there, or in registers, to which they are moved, and from which they are moved back.
func (d *draw) homely(f api.Func) *made {
	n := len(f.Values)
	m := &made{frame: 2 * n, moves: map[stand][]api.Move{}}
	hand := func(b, at int, edge api.Edge) {
		params := f.Blocks[edge.Block].Params
		for i, arg := range edge.Args {
			m.move(b, at, slot(arg), reg(5), reg(5), slot(n+params[i]))
		}
		for _, p := range params {
			m.move(b, at, slot(n+p), other(4), other(4), slot(p))
		}
	}
	// Of more edges each leads where no other one does: its moves stand there, ahead of all others.
	for _, block := range f.Blocks {
		for _, edge := range block.Edges {
			if len(block.Edges) > 1 {
				hand(edge.Block, 0, edge)
			}
		}
	}
	for b, block := range f.Blocks {
		rows := make([][]api.Place, len(block.Instrs))
		for i, x := range block.Instrs {
			rows[i] = d.settled(f, x)
			for j, o := range x.Operands {
				home, p := slot(o.Value), rows[i][j]
				if p.Kind == api.InReg && o.Kind == api.Use {
					m.move(b, i, home, p)
				} else if p.Kind == api.InReg {
					m.move(b, i+1, p, home)
				} else if p != home {
					// A Reuse in a slot, which is that of the value that it names.
					m.move(b, i+1, p, reg(5), reg(5), home)
				}
			}
		}
		m.places = append(m.places, rows)
		if len(block.Edges) == 1 {
			hand(b, len(block.Instrs), block.Edges[0])
		}
	}
	return m
}

// settled: places of an instruction's operands that are allowed and do not clash, as long as registers last.
func (d *draw) settled(f api.Func, x api.Instr) []api.Place {
	places := make([]api.Place, len(x.Operands))
	used := map[api.Place]bool{}
	for _, r := range x.Spoils {
		used[api.Place{Kind: api.InReg, Class: r.Class, N: r.N}] = true
	}
	reused := map[int]bool{}
	for i, o := range x.Operands {
		switch o.Limit {
		case api.Fixed:
			places[i] = api.Place{Kind: api.InReg, Class: f.Values[o.Value], N: o.N}
			used[places[i]] = true
		case api.Reuse:
			reused[o.N] = true
		}
	}
	for i, o := range x.Operands {
		class := f.Values[o.Value]
		switch {
		case o.Limit == api.Fixed:
		case o.Limit == api.Reuse:
			places[i] = places[o.N]
		case o.Limit == api.Stack || o.Limit == api.Anywhere && !reused[i] && d.below(2) == 0:
			places[i] = slot(o.Value)
		default:
			places[i] = api.Place{Kind: api.InReg, Class: class, N: d.below(machine().Regs[class])}
			for range 30 {
				if used[places[i]] {
					places[i].N = d.below(machine().Regs[class])
				}
			}
			used[places[i]] = true
		}
	}
	return places
}

// harm an output: another place of an operand, another move, or one less.
func (d *draw) harm(f api.Func, m *made) {
	b := d.below(len(f.Blocks))
	i := d.below(len(f.Blocks[b].Instrs) + 1)
	s := stand{b, i}
	switch d.below(3) {
	case 0:
		if i < len(m.places[b]) && len(m.places[b][i]) > 0 {
			j := d.below(len(m.places[b][i]))
			m.places[b][i][j] = d.place(f.Values[f.Blocks[b].Instrs[i].Operands[j].Value], m.frame, 0)
		}
	case 1:
		m.moves[s] = slices.Insert(m.moves[s], d.below(len(m.moves[s])+1), d.move(m.frame))
	default:
		if l := m.moves[s]; len(l) > 0 {
			j := d.below(len(l))
			m.moves[s] = slices.Delete(l, j, j+1)
		}
	}
}

// step: one thing that is done: To has what From has, or (no From) the value, or (below 0) nothing.
type step struct {
	from, to api.Place
	value    int
}

// fact: behind so many steps of a block a place has a value.
type fact struct {
	block, steps int
	place        api.Place
	value        int
}

// trace: a function's steps, block by block, and which facts were looked at.
type trace struct {
	f     api.Func
	steps [][]step
	seen  map[fact]bool
}

// denied: P6.3 and P6.4 backwards: is there a way to come there on which the place has not the value? What was looked at ahead is not looked at again: to come by it twice is no other way.
func (t *trace) denied(x fact) bool {
	if t.seen[x] {
		return false
	}
	t.seen[x] = true
	if x.steps == 0 {
		return x.block == 0 || t.deniedByEdge(x)
	}
	x.steps--
	s := t.steps[x.block][x.steps]
	made := s.from == api.Place{} && s.value >= 0
	switch {
	case made && s.to == x.place:
		return s.value != x.value
	case made && s.value == x.value:
		return true
	case s.to == x.place && s.from == api.Place{}:
		return true
	case s.to == x.place:
		x.place = s.from
	}
	return t.denied(x)
}

func (t *trace) deniedByEdge(x fact) bool {
	for b, block := range t.f.Blocks {
		for _, edge := range block.Edges {
			if edge.Block != x.block {
				continue
			}
			was := fact{b, len(t.steps[b]), x.place, x.value}
			if i := slices.Index(t.f.Blocks[x.block].Params, x.value); i >= 0 {
				was.value = edge.Args[i]
			}
			if t.denied(was) {
				return true
			}
		}
	}
	return false
}

// want: what is known of each operand, by looking back from there.
func want(f api.Func, o api.Output) [][][]bool {
	t := &trace{f: f, steps: make([][]step, len(f.Blocks))}
	known := make([][][]bool, len(f.Blocks))
	var reads []func()
	for b, block := range f.Blocks {
		known[b] = make([][]bool, len(block.Instrs))
		do := func(from, to api.Place, value int) { t.steps[b] = append(t.steps[b], step{from, to, value}) }
		move := func(at int) {
			for _, e := range o.Edits {
				for _, m := range e.Moves {
					if e.Block == b && e.At == at {
						do(m.From, m.To, -1)
					}
				}
			}
		}
		for at, x := range block.Instrs {
			move(at)
			places := o.Places[b][at]
			known[b][at] = make([]bool, len(places))
			// each operand of a kind, when its turn comes.
			each := func(kind int, late bool, do func(i, value int)) {
				for i, p := range x.Operands {
					if p.Kind == kind && p.Late == late {
						do(i, p.Value)
					}
				}
			}
			read := func(i, value int) {
				x := fact{b, len(t.steps[b]), places[i], value}
				reads = append(reads, func() {
					t.seen = map[fact]bool{}
					known[b][at][i] = !t.denied(x)
				})
			}
			each(api.Use, false, read)
			each(api.Def, false, func(i, _ int) { do(api.Place{}, places[i], -1) })
			for _, r := range x.Spoils {
				do(api.Place{}, api.Place{Kind: api.InReg, Class: r.Class, N: r.N}, -1)
			}
			each(api.Use, true, read)
			for i, p := range x.Operands {
				if p.Kind == api.Def {
					do(api.Place{}, places[i], p.Value)
					known[b][at][i] = true
				}
			}
		}
		move(len(block.Instrs))
	}
	for _, read := range reads {
		read()
	}
	return known
}

// byPlace: P6.2, word by word.
func byPlace(f api.Func, x api.Instr, places []api.Place, i int) api.Errno {
	o, p := x.Operands[i], places[i]
	inReg := p.Kind == api.InReg
	fixed := api.Place{Kind: api.InReg, Class: f.Values[o.Value], N: o.N}
	if inReg && p.Class != f.Values[o.Value] {
		return api.ErrClass
	}
	if o.Limit == api.Register && !inReg || o.Limit == api.Stack && inReg || o.Limit == api.Fixed && p != fixed || o.Limit == api.Reuse && p != places[o.N] {
		return api.ErrLimit
	}
	for _, r := range x.Spoils {
		if (o.Late || o.Kind == api.Def) && p == (api.Place{Kind: api.InReg, Class: r.Class, N: r.N}) {
			return api.ErrClash
		}
	}
	for j, a := range x.Operands[:i] {
		reuse := a.Limit == api.Reuse && a.N == i || o.Limit == api.Reuse && o.N == j
		if places[j] == p && shape.Meet(a, o) && !reuse {
			return api.ErrClash
		}
	}
	return api.OK
}

// wantFault: P6.1, by what is known.
func wantFault(f api.Func, o api.Output, known [][][]bool) api.Fault {
	var value api.Fault
	for b, block := range f.Blocks {
		for at, x := range block.Instrs {
			for i := range x.Operands {
				if e := byPlace(f, x, o.Places[b][at], i); e != api.OK {
					return fault(b, at, i, e)
				}
				if !known[b][at][i] && value.Code == api.OK {
					value = fault(b, at, i, api.ErrValue)
				}
			}
		}
	}
	return value
}

// compare what Known and Judge answer with what the words say; the fault is told.
func compare(t *testing.T, f api.Func, o api.Output) api.Fault {
	t.Helper()
	wanted := want(f, o)
	got, e := judge.Known(f, machine(), o)
	if e != api.OK || letters(got) != letters(wanted) {
		t.Fatalf("%v %v: %s %d, want %s", f, o, letters(got), e, letters(wanted))
	}
	found, e := judge.Judge(f, machine(), o)
	if e != api.OK || found != wantFault(f, o, wanted) {
		t.Fatalf("%v %v: %v %d, want %v", f, o, found, e, wantFault(f, o, wanted))
	}
	return found
}

// P6.1 to P6.5: drawn outputs, against what the words say.
func TestDrawn(t *testing.T) {
	d := draw(60)
	codes := map[api.Errno]int{}
	for i := range 3000 {
		f := d.fun(1+4*(i%2), 62*(i%3))
		codes[compare(t, f, d.strewn(f).output()).Code]++
		m := d.homely(f)
		for range d.below(4) {
			d.harm(f, m)
		}
		codes[compare(t, f, m.output()).Code]++
	}
	for _, e := range []api.Errno{api.OK, api.ErrClass, api.ErrLimit, api.ErrClash, api.ErrValue} {
		if codes[e] < 200 {
			t.Errorf("drawn too small, to tell anything: %v", codes)
		}
	}
}

// What is right does what its function does, whatever junk there is; of what has a fault of a value this is not so, often.
func TestRight(t *testing.T) {
	d := draw(61)
	right, wrong, differ := 0, 0, 0
	for i := range 2000 {
		f := d.fun(1+4*(i%2), 62*(i%3))
		for _, block := range f.Blocks {
			for at := range block.Instrs {
				block.Instrs[at].Op = d.below(20)
			}
		}
		m := d.homely(f)
		for range d.below(16) {
			d.harm(f, m)
		}
		found, e := judge.Judge(f, machine(), m.output())
		if e != api.OK {
			t.Fatalf("case %d: %v: refused %d", i, f, e)
		}
		same := true
		for seed := range 4 {
			source, _ := run.Source(f, machine(), seed, 150)
			junk := []int{d.below(100), d.below(100), d.below(100)}
			events, e := mach.Run(f, machine(), m.output(), seed, junk, 150)
			same = same && e == api.OK && fmt.Sprint(events) == fmt.Sprint(source)
		}
		switch {
		case found.Code == api.OK && !same:
			t.Fatalf("case %d: %v %v is right, and does something else", i, f, m.output())
		case found.Code == api.OK:
			right++
		case found.Code == api.ErrValue:
			wrong++
			if !same {
				differ++
			}
		}
	}
	if right < 500 || wrong < 200 || differ < wrong/2 {
		t.Errorf("drawn too small, to tell anything: %d right, %d wrong, of which %d differ", right, wrong, differ)
	}
}

// spare: all that is in something, spare room of its lists too.
func spare(v reflect.Value, see func(v reflect.Value)) {
	see(v)
	switch v.Kind() {
	case reflect.Struct:
		for i := range v.NumField() {
			spare(v.Field(i), see)
		}
	case reflect.Slice:
		whole := v.Slice(0, v.Cap())
		for i := range whole.Len() {
			spare(whole.Index(i), see)
		}
	case reflect.Array:
		for i := range v.Len() {
			spare(v.Index(i), see)
		}
	}
}

// told: all numbers of what was handed in, and how long lists are.
func told(l ...any) string {
	var s strings.Builder
	for _, x := range l {
		spare(reflect.ValueOf(x), func(v reflect.Value) {
			switch v.Kind() {
			case reflect.Slice:
				fmt.Fprint(&s, "[", v.Len(), "]")
			case reflect.Int:
				fmt.Fprint(&s, v.Int(), " ")
			}
		})
	}
	return s.String()
}

// roomy: the same, all of whose lists have spare room that is filled.
func roomy[T any](x T) T {
	var room func(v reflect.Value)
	room = func(v reflect.Value) {
		if v.Kind() != reflect.Slice {
			return
		}
		n := v.Len()
		whole := reflect.MakeSlice(v.Type(), n+2, n+2)
		reflect.Copy(whole, v)
		for i := n; i < n+2; i++ {
			spare(whole.Index(i), func(v reflect.Value) {
				if v.Kind() == reflect.Int {
					v.SetInt(7)
				}
			})
		}
		v.Set(whole.Slice(0, n))
	}
	spare(reflect.ValueOf(&x).Elem(), room)
	return x
}

// wild: one number is another one, or one list has lost its end.
func (d *draw) wild(l ...any) {
	var all []reflect.Value
	for _, x := range l {
		spare(reflect.ValueOf(x).Elem(), func(v reflect.Value) {
			if v.Kind() == reflect.Int || v.Kind() == reflect.Slice && v.Len() > 0 {
				all = append(all, v)
			}
		})
	}
	to := [...]int64{-1, 0, 1, 2, 3, 4, 5, 6, 16, 1001, -1 << 63, 1<<63 - 1, 1 << 32}
	if v := all[d.below(len(all))]; v.Kind() == reflect.Int {
		v.SetInt(to[d.below(len(to))])
	} else {
		v.SetLen(d.below(v.Len()))
	}
}

// What holds everywhere: calls end without a panic, tell what mach's Check refuses, answer the same again, and leave what they are given as it is.
func TestWild(t *testing.T) {
	d := draw(62)
	refused := map[api.Errno]int{}
	for i := range 4000 {
		m, f := machine(), d.fun(5, 0)
		made := d.strewn(f)
		if d.below(2) == 0 {
			made = d.homely(f)
		}
		f, o := roomy(f), roomy(made.output())
		for range d.below(3) {
			// Half of what is wild is in the output.
			if d.below(2) == 0 {
				d.wild(&o)
			} else {
				d.wild(&f, &m, &o)
			}
		}
		before := told(f, m, o)
		wanted := mach.Check(f, m, o)
		known, e := judge.Known(f, m, o)
		if e != wanted || e != api.OK && len(known) > 0 {
			t.Fatalf("case %d: %v %v %v: Known: %v %d, want %d", i, f, m, o, known, e, wanted)
		}
		found, e := judge.Judge(f, m, o)
		if e != wanted || e != api.OK && found != (api.Fault{}) {
			t.Fatalf("case %d: %v %v %v: Judge: %v %d, want %d", i, f, m, o, found, e, wanted)
		}
		if e == api.OK && (letters(known) != letters(want(f, o)) || found != wantFault(f, o, known)) {
			t.Fatalf("case %d: %v %v %v: %s %v", i, f, m, o, letters(known), found)
		}
		again, _ := judge.Known(f, m, o)
		if letters(again) != letters(known) {
			t.Fatalf("case %d: not the same again", i)
		}
		if told(f, m, o) != before {
			t.Fatalf("case %d: what was given is changed", i)
		}
		refused[e]++
	}
	if refused[api.OK] < 500 || refused[api.OK] > 3500 || len(refused) < 8 {
		t.Errorf("drawn too small, to tell anything: %v", refused)
	}
}

// What comes out is new memory, spare room too: what is written into one list is seen in no other one.
func TestNewMemory(t *testing.T) {
	f := fun(2, api.Block{Instrs: instrs(instr(lateDef(0)), instr(use(0), use(0)), instr()), Edges: with(1, 0)},
		api.Block{Params: params(1), Instrs: instrs(instr(use(1), lateUse(0)))})
	o := output(row(at(reg(0)), at(reg(0), reg(1)), at()), row(at(reg(0), reg(1))))
	one, _ := judge.Known(f, machine(), o)
	other, _ := judge.Known(f, machine(), o)
	var lists [][]bool
	for _, block := range slices.Concat(one, other) {
		lists = append(lists, block...)
	}
	for i := range lists {
		for j, l := range lists {
			for k := range l[:cap(l)] {
				l[:cap(l)][k] = i == j
			}
		}
		// Written once more, after all others: none of them may tell of it.
		for k := range lists[i][:cap(lists[i])] {
			lists[i][:cap(lists[i])][k] = true
		}
		for j, l := range lists {
			if i != j && slices.Contains(l[:cap(l)], true) {
				t.Errorf("the lists %d and %d share memory", i, j)
			}
		}
	}
	was := letters(other)
	for _, block := range one {
		for i := range block[:cap(block)] {
			block[:cap(block)][i] = nil
		}
	}
	for i := range one[:cap(one)] {
		one[:cap(one)][i] = nil
	}
	if letters(other) != was {
		t.Errorf("two answers share memory: %s", letters(other))
	}
}
