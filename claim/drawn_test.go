package claim_test

import (
	"fmt"
	"reflect"
	"slices"
	"strings"
	"testing"

	"ostler/api"
	"ostler/claim"
	"ostler/flow"
)

// draw: numbers that look drawn, the same each time.
type draw uint64

func (d *draw) below(n int) int {
	*d = *d*6364136223846793005 + 1442695040888963407
	return int(uint64(*d>>33) % uint64(n))
}

// web: for each block where its edges lead; lines, forks, loops and loops within loops.
func (d *draw) web() [][]int {
	webs := [][][]int{
		{{}},
		{{2}, {}, {1}},
		{{1, 2}, {3}, {3}, {}},
		{{3, 2}, {}, {1}, {1}},
		{{1}, {1}},
		{{2}, {2}, {1, 3}, {}},
		{{3}, {3}, {3}, {1, 2}},
		{{1, 2}, {3}, {4}, {4}, {3}},
		{{1}, {2, 6}, {3}, {4, 5}, {3}, {1}, {}},
		{{1}, {2}, {3}, {4}, {5}, {6, 7, 8}, {5}, {4}, {9, 10}, {3}, {11, 12}, {2}, {1}},
	}
	return webs[d.below(len(webs))]
}

// fun that may be: the first values, one of each class, are made ahead of all, so that they are args for all params at first.
func (d *draw) fun() api.Func {
	web := d.web()
	f := api.Func{Values: []int{0, 1}, Blocks: make([]api.Block, len(web))}
	for b := range f.Blocks {
		f.Blocks[b].Instrs = slices.Repeat(instrs(instr()), 2+d.below(4))
		for range d.below(3) {
			if b > 0 {
				f.Blocks[b].Params = append(f.Blocks[b].Params, len(f.Values))
				f.Values = append(f.Values, d.below(api.Classes))
			}
		}
	}
	f.Blocks[0].Instrs[0] = instr(lateDef(0), lateDef(1))
	for b, l := range web {
		for _, next := range l {
			var args []int
			for _, p := range f.Blocks[next].Params {
				args = append(args, f.Values[p])
			}
			f.Blocks[b].Edges = append(f.Blocks[b].Edges, to(next, args...))
		}
	}
	for range 20 + d.below(80) {
		d.grow(&f)
	}
	return f
}

// grow a function by another arg, or by operands or a spoil of one instruction; if it may not be so, it stays as it was.
func (d *draw) grow(f *api.Func) {
	b := &f.Blocks[d.below(len(f.Blocks))]
	if d.below(8) == 0 {
		for _, edge := range b.Edges {
			for i, was := range edge.Args {
				edge.Args[i] = d.below(len(f.Values))
				if flow.Check(*f, machine()) != api.OK {
					edge.Args[i] = was
				}
			}
		}
		return
	}
	x := &b.Instrs[d.below(len(b.Instrs))]
	was, n := *x, len(f.Values)
	if d.below(4) == 0 {
		x.Spoils = append(slices.Clone(x.Spoils), d.reg())
	} else {
		f.Values = append(f.Values, d.operands(f, x)...)
	}
	if flow.Check(*f, machine()) != api.OK {
		*x, f.Values = was, f.Values[:n]
	}
}

func (d *draw) reg() api.Reg { return reg(d.below(api.Classes), d.below(5)) }

// operands for an instruction: one more, or one that there is once more, or a use and its reuse, in either order; and the classes of the values that they make.
func (d *draw) operands(f *api.Func, x *api.Instr) []int {
	end, n, v := len(x.Operands), len(f.Values), d.below(len(f.Values))
	var l []api.Operand
	var made []int
	switch kind := d.below(6); {
	case kind == 0 && end > 0:
		l = []api.Operand{x.Operands[d.below(end)]}
	case kind == 1:
		l, made = []api.Operand{d.limited(use(v)), reuse(n, end)}, []int{f.Values[v]}
	case kind == 2:
		l, made = []api.Operand{reuse(n, end+1), d.limited(use(v))}, []int{f.Values[v]}
	case kind == 3:
		l, made = []api.Operand{d.limited(def(n))}, []int{d.below(api.Classes)}
	default:
		l = []api.Operand{d.limited(use(v))}
	}
	x.Operands = slices.Concat(x.Operands, l)
	return made
}

// limited: an operand of some limit, Late or not.
func (d *draw) limited(o api.Operand) api.Operand {
	o.Late = d.below(2) == 0
	if o.Limit = 1 + d.below(api.Fixed+3); o.Limit >= api.Fixed {
		return fixed(o, d.below(5))
	}
	return o
}

// asks an instruction, at its early point, for just that claim? The function may be.
func asks(f api.Func, x api.Instr, early int, c api.Claim) bool {
	if c.Value == -1 {
		return c.Span == api.Span{From: early + 1, To: early + 2} && slices.Contains(x.Spoils, c.Reg)
	}
	return slices.ContainsFunc(x.Operands, func(o api.Operand) bool {
		names := o
		if o.Limit == api.Reuse {
			names = x.Operands[o.N]
		}
		var points []int
		if o.Kind == api.Use || !o.Late {
			points = append(points, early)
		}
		if o.Kind == api.Def || o.Late {
			points = append(points, early+1)
		}
		return names.Limit == api.Fixed && names.N == c.Reg.N && f.Values[names.Value] == c.Reg.Class &&
			c.Span.From == points[0] && c.Span.To == points[len(points)-1]+1 && o.Value == c.Value
	})
}

// wantClaims: of all that there may be, in their order, those for which an instruction asks.
func wantClaims(f api.Func, m api.Machine) []api.Claim {
	var l []api.Claim
	for n := range api.Classes * api.MaxRegs {
		r, point := reg(n/api.MaxRegs, n%api.MaxRegs), 0
		if r.N >= m.Regs[r.Class] {
			continue
		}
		for _, b := range f.Blocks {
			for _, x := range b.Instrs {
				l = append(l, wantOf(f, x, point+1, r)...)
				point += 2
			}
			point += 2
		}
	}
	return l
}

// wantOf an instruction, at its early point, on one register.
func wantOf(f api.Func, x api.Instr, early int, r api.Reg) []api.Claim {
	var l []api.Claim
	for _, s := range [...]api.Span{{From: early, To: early + 1}, {From: early, To: early + 2}, {From: early + 1, To: early + 2}} {
		for v := -1; v < len(f.Values); v++ {
			if c := (api.Claim{Reg: r, Span: s, Value: v}); asks(f, x, early, c) {
				l = append(l, c)
			}
		}
	}
	return l
}

// standing: all values that stand in a block, each as often as it does.
func standing(b api.Block) []int {
	l := slices.Clone(b.Params)
	for _, edge := range b.Edges {
		l = slices.Concat(edge.Args, l)
	}
	for _, x := range b.Instrs {
		for _, o := range x.Operands {
			l = append(l, o.Value)
		}
	}
	return l
}

// wantPrices: value by value.
func wantPrices(f api.Func, m api.Machine) []int {
	tree, _ := flow.Dominators(f, m)
	powers := [...]int{1, 8, 64, 512, 4096}
	prices := make([]int, len(f.Values))
	for v := range prices {
		for b, block := range f.Blocks {
			for _, other := range standing(block) {
				if other == v {
					prices[v] += powers[min(tree.Depth[b], len(powers)-1)]
				}
			}
		}
	}
	return prices
}

// seen in drawn functions, so that it is told if they are too small to tell anything.
type seen struct{ spoilt, early, late, both, reused, twice, deep int }

func (s *seen) look(f api.Func, m api.Machine) {
	tree, _ := flow.Dominators(f, m)
	for b, block := range f.Blocks {
		for _, x := range block.Instrs {
			s.spoilt += len(x.Spoils)
			for i, o := range x.Operands {
				if o.Limit == api.Reuse && x.Operands[o.N].Limit == api.Fixed {
					s.reused++
				}
				if o.Limit != api.Fixed {
					continue
				}
				switch {
				case slices.Contains(x.Operands[:i], o):
					s.twice++
				case o.Kind == api.Use && !o.Late:
					s.early++
				case o.Kind == api.Def && o.Late:
					s.late++
				default:
					s.both++
				}
			}
		}
		if tree.Depth[b] > 4 && len(standing(block)) > 0 {
			s.deep++
		}
	}
}

// P9.1, P9.2: drawn functions, against what the words say.
func TestDrawn(t *testing.T) {
	d := draw(90)
	var s seen
	for i := range 1500 {
		f := d.fun()
		got, e := claim.Claims(f, machine())
		if want := wantClaims(f, machine()); e != api.OK || !slices.Equal(got, want) {
			t.Fatalf("case %d: %v: %v %d, want %v", i, f, got, e, want)
		}
		prices, e := claim.Prices(f, machine())
		if want := wantPrices(f, machine()); e != api.OK || !slices.Equal(prices, want) {
			t.Fatalf("case %d: %v: %v %d, want %v", i, f, prices, e, want)
		}
		s.look(f, machine())
	}
	if min(s.spoilt, s.early, s.late, s.both) < 1500 || min(s.reused, s.twice, s.deep) < 200 {
		t.Errorf("drawn too small, to tell anything: %+v", s)
	}
}

// each number and each list of a function or a machine, those in spare room too.
func each(v reflect.Value, see func(v reflect.Value)) {
	see(v)
	switch v.Kind() {
	case reflect.Struct:
		for i := range v.NumField() {
			each(v.Field(i), see)
		}
	case reflect.Array:
		for i := range v.Len() {
			each(v.Index(i), see)
		}
	case reflect.Slice:
		whole := v.Slice(0, v.Cap())
		for i := range whole.Len() {
			each(whole.Index(i), see)
		}
	}
}

// told: all numbers of a function, and how long its lists are.
func told(f api.Func) string {
	var s strings.Builder
	each(reflect.ValueOf(f), func(v reflect.Value) {
		if v.Kind() == reflect.Slice {
			fmt.Fprint(&s, v.Len(), "/", v.Cap(), ":")
		} else if v.Kind() == reflect.Int {
			fmt.Fprint(&s, v.Int(), " ")
		}
	})
	return s.String()
}

// roomy: a function all of whose lists have spare room that is filled.
func roomy(f api.Func) api.Func {
	each(reflect.ValueOf(&f).Elem(), func(v reflect.Value) {
		if v.Kind() != reflect.Slice {
			return
		}
		n := v.Len()
		whole := reflect.MakeSlice(v.Type(), n+2, n+2)
		reflect.Copy(whole, v)
		for i := range 2 {
			each(whole.Index(n+i), func(v reflect.Value) {
				if v.Kind() == reflect.Int {
					v.SetInt(7)
				}
			})
		}
		v.Set(whole.Slice(0, n))
	})
	return f
}

// wild: one number of the function or the machine is another one, or one list has lost its end.
func (d *draw) wild(f *api.Func, m *api.Machine) {
	var all []reflect.Value
	see := func(v reflect.Value) {
		if v.Kind() == reflect.Int || v.Kind() == reflect.Slice && v.Len() > 0 {
			all = append(all, v)
		}
	}
	each(reflect.ValueOf(f).Elem(), see)
	each(reflect.ValueOf(m).Elem(), see)
	numbers := [...]int64{-1, 0, 1, 2, 3, 4, 5, 16, 160, -1 << 63, 1<<63 - 1, 1 << 32}
	if v := all[d.below(len(all))]; v.Kind() == reflect.Int {
		v.SetInt(numbers[d.below(len(numbers))])
	} else {
		v.SetLen(d.below(v.Len()))
	}
}

// What holds everywhere: calls end without a panic, tell what flow's Check refuses and nothing else then, answer the same again, and leave what they are given as it is.
func TestWild(t *testing.T) {
	d := draw(91)
	codes := map[api.Errno]int{}
	for i := range 6000 {
		f, m := roomy(d.fun()), machine()
		for range d.below(3) {
			d.wild(&f, &m)
		}
		before := told(f)
		wanted := flow.Check(f, m)
		claims, e := claim.Claims(f, m)
		prices, code := claim.Prices(f, m)
		if e != wanted || code != wanted {
			t.Fatalf("case %d: %v %v: %d and %d, want %d", i, f, m, e, code, wanted)
		}
		if wanted != api.OK && len(claims)+len(prices) > 0 {
			t.Fatalf("case %d: refused with %d, and %v %v", i, e, claims, prices)
		}
		if wanted == api.OK && !(slices.Equal(claims, wantClaims(f, m)) && slices.Equal(prices, wantPrices(f, m))) {
			t.Fatalf("case %d: %v %v: %v %v", i, f, m, claims, prices)
		}
		again, _ := claim.Claims(f, m)
		other, _ := claim.Prices(f, m)
		if !slices.Equal(claims, again) || !slices.Equal(prices, other) {
			t.Fatalf("case %d: %v %v, then %v %v", i, claims, prices, again, other)
		}
		if told(f) != before {
			t.Fatalf("case %d: what was given is changed", i)
		}
		codes[wanted]++
	}
	if codes[api.OK] < 1000 || codes[api.OK] > 5000 || len(codes) < 9 {
		t.Errorf("drawn too small, to tell anything: %v", codes)
	}
}

// What comes out is new memory, spare room too.
func TestNewMemory(t *testing.T) {
	f := roomy(ring(fixed(use(1), 1), fixed(use(1), 1), reuse(2, 0)))
	before := told(f)
	claims, _ := claim.Claims(f, machine())
	others, _ := claim.Claims(f, machine())
	prices, _ := claim.Prices(f, machine())
	dearer, _ := claim.Prices(f, machine())
	for i := range claims[:cap(claims)] {
		claims[:cap(claims)][i] = on(9, 9, 9, 9, 9)
	}
	for i := range prices[:cap(prices)] {
		prices[:cap(prices)][i] = 9
	}
	if !slices.Equal(others, []api.Claim{on(0, 1, 5, 6, 1), on(0, 1, 6, 7, 2)}) || !slices.Equal(dearer, []int{2, 24, 16}) {
		t.Errorf("two answers share memory: %v %v", others, dearer)
	}
	if told(f) != before {
		t.Error("an answer shares memory with what was given")
	}
}
