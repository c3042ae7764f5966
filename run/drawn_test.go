package run_test

import (
	"fmt"
	"maps"
	"math"
	"slices"
	"testing"

	"ostler/api"
	"ostler/flow"
	"ostler/run"
)

// draw: numbers that look drawn, the same each time.
type draw uint64

func (d *draw) below(n int) int {
	*d = *d*6364136223846793005 + 1442695040888963407
	return int(uint64(*d>>33) % uint64(n))
}

// number: small, below 0, or by far.
func (d *draw) number() int {
	switch n := d.below(1 << 31); d.below(4) {
	case 0:
		return n<<32 ^ d.below(1<<31)<<11 ^ d.below(1<<31)
	case 1:
		return -n
	case 2:
		return n % 10
	default:
		return n
	}
}

// list of fewer than so many numbers.
func (d *draw) list(n int) []int {
	var l []int
	for range d.below(n) {
		l = append(l, d.number())
	}
	return l
}

// leads: for each block where its edges go; one can come to each, and where many lead to many there is a block between.
func (d *draw) leads() [][]int {
	n := 1 + d.below(5)
	l := make([][]int, n)
	for b := 1; b < n; b++ {
		from := d.below(b)
		for len(l[from]) == api.MaxSuccs {
			from++
		}
		l[from] = append(l[from], b)
	}
	for range d.below(n) {
		if from := d.below(n); n > 1 && len(l[from]) < api.MaxSuccs {
			l[from] = append(l[from], 1+d.below(n-1))
		}
	}
	for from := range n {
		for i, b := range l[from] {
			if len(l[from]) > 1 && len(l) < api.MaxBlocks {
				l[from][i] = len(l)
				l = append(l, []int{b})
			}
		}
	}
	return l
}

// fun that may be: the value 0 is made ahead of all, so that it is an arg for all params at first.
func (d *draw) fun() api.Func {
	f := fun(1)
	for b, l := range d.leads() {
		block := api.Block{Edges: to(l...), Instrs: instrs(instr(d.below(20)))}
		if b == 0 {
			block.Instrs = instrs(instr(d.below(20), lateDef(0)), instr(d.below(20)))
		} else if len(l) == 1 && d.below(3) == 0 {
			block.Instrs = nil
		}
		f.Blocks = append(f.Blocks, block)
	}
	for b := range f.Blocks {
		for range d.below(3) {
			if b > 0 {
				f.Blocks[b].Params = append(f.Blocks[b].Params, len(f.Values))
				f.Values = append(f.Values, 0)
			}
		}
	}
	for _, block := range f.Blocks {
		for i, edge := range block.Edges {
			block.Edges[i].Args = make([]int, len(f.Blocks[edge.Block].Params))
		}
	}
	for range 4 + d.below(20) {
		d.grow(&f)
	}
	return f
}

// grow a function by a def, a use or another arg; if it may not be so, it stays as it was.
func (d *draw) grow(f *api.Func) {
	block := &f.Blocks[d.below(len(f.Blocks))]
	late := d.below(2) == 0
	switch i := len(block.Instrs); {
	case d.below(4) == 0 && len(block.Edges) > 0:
		edge := block.Edges[d.below(len(block.Edges))]
		if len(edge.Args) == 0 {
			return
		}
		arg := &edge.Args[d.below(len(edge.Args))]
		was := *arg
		*arg = d.below(len(f.Values))
		if flow.Check(*f, machine()) != api.OK {
			*arg = was
		}
	case d.below(3) == 0:
		o := api.Operand{Kind: api.Def, Value: len(f.Values), Late: late, Limit: api.Anywhere}
		block.Instrs = slices.Insert(block.Instrs, d.below(i+1), instr(d.below(20), o))
		f.Values = append(f.Values, 0)
	case i > 0:
		x := &block.Instrs[d.below(i)]
		was := x.Operands
		o := api.Operand{Kind: api.Use, Value: d.below(len(f.Values)), Late: late, Limit: api.Anywhere}
		x.Operands = slices.Insert(slices.Clone(was), d.below(len(was)+1), o)
		if flow.Check(*f, machine()) != api.OK {
			x.Operands = was
		}
	}
}

// want: what a function does, step by step, by the words of the chapter. A step is where one is: the place ahead of the first instruction is -1.
func want(f api.Func, seed, steps int) []api.Event {
	var events []api.Event
	values := map[int]int{}
	block, at := 0, -1
	for range steps {
		b := f.Blocks[block]
		var read []int
		if at >= 0 {
			for _, o := range b.Instrs[at].Operands {
				if o.Kind == api.Use {
					read = append(read, values[o.Value])
				}
			}
			for i, o := range b.Instrs[at].Operands {
				if o.Kind == api.Def {
					values[o.Value] = bigMix(append([]int{seed, b.Instrs[at].Op, i}, read...)...)
				}
			}
		}
		last, edge := at+1 == len(b.Instrs), -1
		if last && len(b.Edges) == 1 {
			edge = 0
		}
		if last && len(b.Edges) > 1 {
			edge = bigMix(append([]int{seed, b.Instrs[at].Op, -1}, read...)...) % len(b.Edges)
		}
		if at >= 0 {
			events = append(events, api.Event{Block: block, At: at, Read: read, Edge: edge})
		}
		switch {
		case !last:
			at++
		case edge < 0:
			return events
		default:
			before := maps.Clone(values)
			next := b.Edges[edge]
			for i, p := range f.Blocks[next.Block].Params {
				values[p] = before[next.Args[i]]
			}
			block, at = next.Block, -1
		}
	}
	return events
}

// P4.2 to P4.4: drawn functions, against what the words say.
func TestDrawn(t *testing.T) {
	d := draw(4)
	forks, reads, handed := 0, 0, 0
	for i := range 3000 {
		f, seed, steps := d.fun(), d.number(), d.below(80)
		if i%50 == 0 {
			steps = d.below(api.MaxSteps + 1)
		}
		got, e := run.Source(f, machine(), seed, steps)
		if wanted := want(f, seed, steps); e != api.OK || flat(got) != flat(wanted) {
			t.Fatalf("case %d: %v, seed %d, %d steps: %v %d, want %v", i, f, seed, steps, got, e, wanted)
		}
		for _, event := range got {
			reads += len(event.Read)
			if event.Edge > 0 {
				forks++
			}
			if event.Edge >= 0 {
				handed += len(f.Blocks[event.Block].Edges[event.Edge].Args)
			}
		}
	}
	if forks < 1000 || reads < 10000 || handed < 5000 {
		t.Errorf("drawn too small, to tell anything: %d %d %d", forks, reads, handed)
	}
}

// told: all that a function has, spare room too.
func told(f api.Func) string {
	s := fmt.Sprint(f.Values[:cap(f.Values)], len(f.Values))
	for _, b := range f.Blocks[:cap(f.Blocks)] {
		s += fmt.Sprint(b.Params[:cap(b.Params)], len(b.Params), len(b.Instrs), len(b.Edges))
		for _, x := range b.Instrs[:cap(b.Instrs)] {
			s += fmt.Sprint(x.Op, x.Operands[:cap(x.Operands)], len(x.Operands), x.Spoils)
		}
		for _, e := range b.Edges[:cap(b.Edges)] {
			s += fmt.Sprint(e.Block, e.Args[:cap(e.Args)], len(e.Args))
		}
	}
	return s
}

// roomy: a function all of whose lists have spare room that is filled.
func roomy(f api.Func) api.Func {
	f.Values = append(slices.Clone(f.Values), 7, 7)[:len(f.Values)]
	f.Blocks = append(slices.Clone(f.Blocks), api.Block{Params: []int{7}})[:len(f.Blocks)]
	for i := range f.Blocks {
		b := &f.Blocks[i]
		b.Params = append(slices.Clone(b.Params), 7, 7)[:len(b.Params)]
		b.Instrs = append(slices.Clone(b.Instrs), instr(7, use(7)))[:len(b.Instrs)]
		b.Edges = append(slices.Clone(b.Edges), with(7, 7)...)[:len(b.Edges)]
		for j := range b.Instrs {
			x := &b.Instrs[j]
			x.Operands = append(slices.Clone(x.Operands), use(7))[:len(x.Operands)]
		}
		for j := range b.Edges {
			e := &b.Edges[j]
			e.Args = append(slices.Clone(e.Args), 7, 7)[:len(e.Args)]
		}
	}
	return f
}

// wild: one number of the function, or of the machine, is another one.
func (d *draw) wild(f api.Func, m *api.Machine) {
	b := &f.Blocks[d.below(len(f.Blocks))]
	numbers := []*int{&m.Regs[0], &m.Regs[1]}
	for i := range f.Values {
		numbers = append(numbers, &f.Values[i])
	}
	for i := range b.Params {
		numbers = append(numbers, &b.Params[i])
	}
	for _, x := range b.Instrs {
		for i := range x.Operands {
			o := &x.Operands[i]
			numbers = append(numbers, &o.Kind, &o.Value, &o.Limit, &o.N)
		}
	}
	for i := range b.Edges {
		numbers = append(numbers, &b.Edges[i].Block)
		for j := range b.Edges[i].Args {
			numbers = append(numbers, &b.Edges[i].Args[j])
		}
	}
	to := [...]int{-1, 0, 1, 2, 3, 5, 16, 159, 160, math.MinInt, math.MaxInt, 1 << 32}
	*numbers[d.below(len(numbers))] = to[d.below(len(to))]
}

// What holds everywhere: calls end without a panic, answer the same again, nothing else with an error, and leave what they are given as it is. P4.4: what flow's Check refuses, then steps.
func TestWild(t *testing.T) {
	d := draw(5)
	refused := 0
	for i := range 4000 {
		f, m := roomy(d.fun()), machine()
		for range d.below(4) {
			d.wild(f, &m)
		}
		seed, steps := d.number(), d.below(100)
		if d.below(8) == 0 {
			steps = d.number()
		}
		before := told(f)
		wanted := flow.Check(f, m)
		if wanted == api.OK && (steps < 0 || steps > api.MaxSteps) {
			wanted = api.ErrRange
		}
		got, e := run.Source(f, m, seed, steps)
		if e != wanted || e != api.OK && len(got) > 0 {
			t.Fatalf("case %d: %d, %v, want %d", i, e, got, wanted)
		}
		if e != api.OK {
			refused++
		}
		again, _ := run.Source(f, m, seed, steps)
		if flat(got) != flat(again) {
			t.Fatalf("case %d: not the same again", i)
		}
		for _, b := range f.Blocks {
			for at := -2; at < len(b.Instrs)+2; at++ {
				if edge := run.Takes(seed, b, at, nil); edge < -1 || edge >= len(b.Edges) {
					t.Fatalf("case %d: takes %d of %d edges", i, edge, len(b.Edges))
				}
			}
		}
		if told(f) != before {
			t.Fatalf("case %d: what was given is changed", i)
		}
	}
	if refused < 1000 || refused > 3000 {
		t.Errorf("%d of 4000 refused: too few or too many, to tell anything", refused)
	}
}

// Lists that are handed in are not changed, their spare room neither.
func TestLeft(t *testing.T) {
	room := []int{1, 2, 7, 7, 7, 7}
	b := api.Block{Instrs: instrs(instr(1)), Edges: to(1, 2)}
	run.Mix(room[:2])
	run.Made(1, b.Instrs[0], 0, room[:2])
	run.Takes(1, b, 0, room[:2])
	if !slices.Equal(room, []int{1, 2, 7, 7, 7, 7}) {
		t.Errorf("changed: %v", room)
	}
}

// What comes out is new memory, spare room too: what is written into one list is seen in no other one.
func TestNewMemory(t *testing.T) {
	f := roomy(fun(4,
		api.Block{Instrs: instrs(instr(1, def(0)), instr(2, def(1))), Edges: with(1, 0, 1)},
		api.Block{Params: params(2, 3), Instrs: instrs(instr(3, use(2), use(3), use(0))), Edges: with(1, 3, 2)},
	))
	before := told(f)
	var lists [][]int
	one, _ := run.Source(f, machine(), 1, 40)
	other, _ := run.Source(f, machine(), 1, 40)
	for _, event := range slices.Concat(one, other) {
		lists = append(lists, event.Read)
	}
	for i, l := range lists {
		for j := range l[:cap(l)] {
			l[:cap(l)][j] = -100 - i
		}
	}
	for i, l := range lists {
		for _, n := range l[:cap(l)] {
			if n != -100-i {
				t.Fatalf("the list %d shares memory with another one", i)
			}
		}
	}
	for i := range one[:cap(one)] {
		one[:cap(one)][i] = api.Event{Block: -5}
	}
	if len(other) < 10 || slices.ContainsFunc(other, func(e api.Event) bool { return e.Block == -5 }) {
		t.Error("two answers share memory")
	}
	if told(f) != before {
		t.Error("an answer shares memory with what was given")
	}
}
