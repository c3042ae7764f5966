package live_test

import (
	"fmt"
	"math"
	"slices"
	"testing"

	"ostler/api"
	"ostler/flow"
	"ostler/live"
)

// draw: numbers that look drawn, the same each time.
type draw uint64

func (d *draw) below(n int) int {
	*d = *d*6364136223846793005 + 1442695040888963407
	return int(uint64(*d>>33) % uint64(n))
}

// leads: for each block where its edges go; one can come to each, and where many lead to many there is a block between.
func (d *draw) leads() [][]int {
	n := 1 + d.below(5)
	l := make([][]int, n)
	for b := 1; b < n; b++ {
		from := d.below(b)
		for len(l[from]) == api.MaxSuccs {
			from++
		}
		l[from] = append(l[from], b)
	}
	for range d.below(n) {
		if from := d.below(n); n > 1 && len(l[from]) < api.MaxSuccs {
			l[from] = append(l[from], 1+d.below(n-1))
		}
	}
	for from := range n {
		for i, b := range l[from] {
			if len(l[from]) > 1 && len(l) < api.MaxBlocks {
				l[from][i] = len(l)
				l = append(l, []int{b})
			}
		}
	}
	return l
}

// fun that may be: the value 0 is made ahead of all, so that it is an arg for all params at first.
func (d *draw) fun() api.Func {
	f := fun(1)
	for b, l := range d.leads() {
		block := api.Block{Edges: to(l...), Instrs: instrs(instr())}
		if b == 0 {
			block.Instrs = instrs(instr(lateDef(0)), instr())
		} else if len(l) == 1 && d.below(3) == 0 {
			block.Instrs = nil
		}
		f.Blocks = append(f.Blocks, block)
	}
	for b := range f.Blocks {
		for range d.below(3) {
			if b > 0 {
				f.Blocks[b].Params = append(f.Blocks[b].Params, len(f.Values))
				f.Values = append(f.Values, 0)
			}
		}
	}
	for _, block := range f.Blocks {
		for i, edge := range block.Edges {
			block.Edges[i].Args = make([]int, len(f.Blocks[edge.Block].Params))
		}
	}
	for range 4 + d.below(20) {
		d.grow(&f)
	}
	return f
}

// grow a function by a def, a use or another arg; if it may not be so, it stays as it was.
func (d *draw) grow(f *api.Func) {
	block := &f.Blocks[d.below(len(f.Blocks))]
	late := d.below(2) == 0
	switch i := len(block.Instrs); {
	case d.below(4) == 0 && len(block.Edges) > 0:
		edge := block.Edges[d.below(len(block.Edges))]
		if len(edge.Args) == 0 {
			return
		}
		arg := &edge.Args[d.below(len(edge.Args))]
		was := *arg
		*arg = d.below(len(f.Values))
		if flow.Check(*f, machine()) != api.OK {
			*arg = was
		}
	case d.below(3) == 0:
		o := api.Operand{Kind: api.Def, Value: len(f.Values), Late: late, Limit: api.Anywhere}
		block.Instrs = slices.Insert(block.Instrs, d.below(i+1), instr(o))
		f.Values = append(f.Values, 0)
	case i > 0:
		x := &block.Instrs[d.below(i)]
		was := x.Operands
		o := api.Operand{Kind: api.Use, Value: d.below(len(f.Values)), Late: late, Limit: api.Anywhere}
		x.Operands = slices.Insert(slices.Clone(was), d.below(len(was)+1), o)
		if flow.Check(*f, machine()) != api.OK {
			x.Operands = was
		}
	}
}

// makes a block the value?
func makes(b api.Block, v int) bool {
	return slices.Contains(b.Params, v) || operand(b, func(o api.Operand) bool { return o.Kind == api.Def && o.Value == v })
}

// operand: has a block such a one?
func operand(b api.Block, is func(api.Operand) bool) bool {
	return slices.ContainsFunc(b.Instrs, func(x api.Instr) bool { return slices.ContainsFunc(x.Operands, is) })
}

// neededAt the end of a block: is there a way from there to where the value is asked for, that comes by none who makes it?
func neededAt(f api.Func, end, v int) bool {
	seen := make([]bool, len(f.Blocks))
	ends := []int{end}
	for ; len(ends) > 0; ends = ends[1:] {
		for _, edge := range f.Blocks[ends[0]].Edges {
			next := f.Blocks[edge.Block]
			switch {
			case slices.Contains(edge.Args, v):
				return true
			case seen[edge.Block] || makes(next, v):
				continue
			case operand(next, func(o api.Operand) bool { return o.Kind == api.Use && o.Value == v }):
				return true
			}
			seen[edge.Block] = true
			ends = append(ends, edge.Block)
		}
	}
	return false
}

// wantSets by ways through the function, one by one.
func wantSets(f api.Func) api.Sets {
	s := api.Sets{In: make([][]int, len(f.Blocks)), Out: make([][]int, len(f.Blocks))}
	for b, block := range f.Blocks {
		for v := range f.Values {
			out := neededAt(f, b, v)
			used := operand(block, func(o api.Operand) bool { return o.Kind == api.Use && o.Value == v })
			if !makes(block, v) && (used || out) {
				s.In[b] = append(s.In[b], v)
			}
			if out {
				s.Out[b] = append(s.Out[b], v)
			}
		}
	}
	return s
}

// wantSpans by marks on points, one by one.
func wantSpans(f api.Func, sets api.Sets) [][]api.Span {
	spans := make([][]api.Span, len(f.Values))
	for v := range f.Values {
		marks := []bool{}
		for b, block := range f.Blocks {
			in := slices.Contains(sets.In[b], v) || slices.Contains(block.Params, v)
			marks = append(marks, marksIn(block, v, in, slices.Contains(sets.Out[b], v))...)
		}
		for p, on := range marks {
			l := spans[v]
			switch {
			case on && (p == 0 || !marks[p-1]):
				spans[v] = append(l, api.Span{From: p, To: p + 1})
			case on:
				l[len(l)-1].To++
			}
		}
	}
	return spans
}

// marksIn a block: at which of its points is the value needed?
func marksIn(block api.Block, v int, in, out bool) []bool {
	marks := make([]bool, 2+2*len(block.Instrs))
	var points []int
	if in {
		points = append(points, 0)
	}
	for i, x := range block.Instrs {
		for _, o := range x.Operands {
			if o.Value != v {
				continue
			}
			if o.Late {
				points = append(points, 2+2*i)
			} else {
				points = append(points, 1+2*i)
			}
			if o.Kind == api.Def {
				points = append(points, 2+2*i)
			}
		}
	}
	if out {
		points = append(points, len(marks)-1)
	}
	if len(points) > 0 {
		for p := slices.Min(points); p <= slices.Max(points); p++ {
			marks[p] = true
		}
	}
	return marks
}

// P3.1 to P3.3: drawn functions, against what the words say.
func TestDrawn(t *testing.T) {
	d := draw(3)
	apart, through, blocks := 0, 0, 0
	for i := range 6000 {
		f := d.fun()
		sets, code := live.Sets(f, machine())
		want := wantSets(f)
		if code != api.OK || flat(sets) != flat(want) {
			t.Fatalf("case %d: %v: %v %d, want %v", i, f, sets, code, want)
		}
		spans, code := live.Spans(f, machine())
		wanted := wantSpans(f, want)
		if code != api.OK || flat(spans) != flat(wanted) {
			t.Fatalf("case %d: %v: %v %d, want %v", i, f, spans, code, wanted)
		}
		starts := live.Starts(f)
		for b, block := range f.Blocks {
			if starts[b+1] != starts[b]+2+2*len(block.Instrs) {
				t.Fatalf("case %d: %v: %v", i, f, starts)
			}
			for _, v := range want.In[b] {
				if slices.Contains(want.Out[b], v) {
					through++
				}
			}
		}
		for _, l := range spans {
			if len(l) > 1 {
				apart++
			}
		}
		blocks = max(blocks, len(f.Blocks))
	}
	if apart < 1000 || through < 5000 || blocks < 9 {
		t.Errorf("drawn too small, to tell anything: %d %d %d", apart, through, blocks)
	}
}

// told: all that a function has, spare room too.
func told(f api.Func) string {
	s := fmt.Sprint(f.Values[:cap(f.Values)], len(f.Values))
	for _, b := range f.Blocks[:cap(f.Blocks)] {
		s += fmt.Sprint(b.Params[:cap(b.Params)], len(b.Params), len(b.Instrs), len(b.Edges))
		for _, x := range b.Instrs[:cap(b.Instrs)] {
			s += fmt.Sprint(x.Op, x.Operands[:cap(x.Operands)], len(x.Operands), x.Spoils)
		}
		for _, e := range b.Edges[:cap(b.Edges)] {
			s += fmt.Sprint(e.Block, e.Args[:cap(e.Args)], len(e.Args))
		}
	}
	return s
}

// roomy: a function all of whose lists have spare room that is filled.
func roomy(f api.Func) api.Func {
	f.Values = append(slices.Clone(f.Values), 7, 7)[:len(f.Values)]
	f.Blocks = append(slices.Clone(f.Blocks), api.Block{Params: []int{7}})[:len(f.Blocks)]
	for i := range f.Blocks {
		b := &f.Blocks[i]
		b.Params = append(slices.Clone(b.Params), 7, 7)[:len(b.Params)]
		b.Instrs = append(slices.Clone(b.Instrs), instr(use(7)))[:len(b.Instrs)]
		b.Edges = append(slices.Clone(b.Edges), with(7, 7)...)[:len(b.Edges)]
		for j := range b.Instrs {
			x := &b.Instrs[j]
			x.Operands = append(slices.Clone(x.Operands), use(7))[:len(x.Operands)]
		}
		for j := range b.Edges {
			e := &b.Edges[j]
			e.Args = append(slices.Clone(e.Args), 7, 7)[:len(e.Args)]
		}
	}
	return f
}

// wild: one number of the function, or of the machine, is another one.
func (d *draw) wild(f api.Func, m *api.Machine) {
	b := &f.Blocks[d.below(len(f.Blocks))]
	numbers := []*int{&m.Regs[0], &m.Regs[1]}
	for i := range f.Values {
		numbers = append(numbers, &f.Values[i])
	}
	for i := range b.Params {
		numbers = append(numbers, &b.Params[i])
	}
	for _, x := range b.Instrs {
		for i := range x.Operands {
			o := &x.Operands[i]
			numbers = append(numbers, &o.Kind, &o.Value, &o.Limit, &o.N)
		}
	}
	for i := range b.Edges {
		numbers = append(numbers, &b.Edges[i].Block)
		for j := range b.Edges[i].Args {
			numbers = append(numbers, &b.Edges[i].Args[j])
		}
	}
	to := [...]int{-1, 0, 1, 2, 3, 5, 16, 159, 160, math.MinInt, math.MaxInt, 1 << 32}
	*numbers[d.below(len(numbers))] = to[d.below(len(to))]
}

// What holds everywhere: calls end without a panic, answer the same again, nothing else with an error, and leave what they are given as it is. P3.1, P3.3: what flow's Check refuses.
func TestWild(t *testing.T) {
	d := draw(5)
	refused := 0
	for i := range 4000 {
		f := roomy(d.fun())
		m := machine()
		for range d.below(4) {
			d.wild(f, &m)
		}
		before := told(f)
		e := flow.Check(f, m)
		sets, one := live.Sets(f, m)
		spans, other := live.Spans(f, m)
		if one != e || other != e {
			t.Fatalf("case %d: refused with %d and %d, want %d", i, one, other, e)
		}
		if e != api.OK {
			refused++
			if len(sets.In)+len(sets.Out)+len(spans) > 0 {
				t.Fatalf("case %d: refused with %d, and %v %v", i, e, sets, spans)
			}
		}
		sets2, _ := live.Sets(f, m)
		spans2, _ := live.Spans(f, m)
		if flat(sets, spans, live.Starts(f)) != flat(sets2, spans2, live.Starts(f)) {
			t.Fatalf("case %d: not the same again", i)
		}
		if told(f) != before {
			t.Fatalf("case %d: what was given is changed", i)
		}
	}
	if refused < 1000 || refused > 3000 {
		t.Errorf("%d of 4000 refused: too few or too many, to tell anything", refused)
	}
}

// What comes out is new memory, spare room too: what is written into one list is seen in no other one.
func TestNewMemory(t *testing.T) {
	f := roomy(ring())
	before := told(f)
	var lists [][]int
	var outer [][][]int
	var spans [][]api.Span
	for range 2 {
		sets, _ := live.Sets(f, machine())
		lists = append(lists, live.Starts(f))
		outer = append(outer, sets.In, sets.Out)
		lists = append(append(lists, sets.In...), sets.Out...)
		l, _ := live.Spans(f, machine())
		spans = append(spans, l...)
	}
	for i, l := range lists {
		for j := range l[:cap(l)] {
			l[:cap(l)][j] = 100 + i
		}
	}
	for i, l := range spans {
		for j := range l[:cap(l)] {
			l[:cap(l)][j] = api.Span{From: 100 + i}
		}
	}
	for i, l := range lists {
		for _, n := range l[:cap(l)] {
			if n != 100+i {
				t.Fatalf("the list %d shares memory with another one", i)
			}
		}
	}
	for i, l := range spans {
		for _, s := range l[:cap(l)] {
			if s.From != 100+i {
				t.Fatalf("the spans %d share memory with other ones", i)
			}
		}
	}
	for i, l := range outer {
		for b := range l {
			l[b] = []int{i}
		}
	}
	for i, l := range outer {
		for _, told := range l {
			if told[0] != i {
				t.Fatalf("the sets %d share memory with other ones", i)
			}
		}
	}
	if told(f) != before {
		t.Error("an answer shares memory with what was given")
	}
}
