package group_test

import (
	"fmt"
	"reflect"
	"slices"
	"strings"
	"testing"

	"ostler/api"
	"ostler/flow"
	"ostler/group"
	"ostler/live"
)

// draw: numbers that look drawn, the same each time.
type draw uint64

func (d *draw) below(n int) int {
	*d = *d*6364136223846793005 + 1442695040888963407
	return int(uint64(*d>>33) % uint64(n))
}

// web: for each block where its edges lead; lines, forks and loops, numbered in many ways.
func (d *draw) web() [][]int {
	webs := [][][]int{
		{{}},
		{{2}, {}, {1}},
		{{1, 2}, {3}, {3}, {}},
		{{3, 2}, {}, {1}, {1}},
		{{1}, {1}},
		{{2}, {2}, {1, 3}, {}},
		{{3}, {3}, {3}, {1, 2}},
		{{4}, {2}, {1, 3}, {4}, {5, 6}, {2}, {}},
		{{1}, {2, 6}, {3}, {4, 5}, {3}, {1}, {}},
	}
	return webs[d.below(len(webs))]
}

// fun that may be: the first values, one of each class, are made ahead of all, so that they are args for all params at first.
func (d *draw) fun() api.Func {
	web := d.web()
	f := api.Func{Values: []int{0, 1}, Blocks: make([]api.Block, len(web))}
	for b := range f.Blocks {
		f.Blocks[b].Instrs = slices.Repeat(instrs(instr()), 2+d.below(5))
		for range d.below(4) {
			if b > 0 {
				f.Blocks[b].Params = append(f.Blocks[b].Params, len(f.Values))
				f.Values = append(f.Values, d.below(api.Classes))
			}
		}
	}
	f.Blocks[0].Instrs[0] = instr(lateDef(0), lateDef(1))
	for b, l := range web {
		for _, next := range l {
			var args []int
			for _, p := range f.Blocks[next].Params {
				args = append(args, f.Values[p])
			}
			f.Blocks[b].Edges = append(f.Blocks[b].Edges, to(next, args...))
		}
	}
	for range 20 + d.below(150) {
		d.grow(&f)
	}
	return f
}

// grow a function by another arg, or by operands of one instruction; if it may not be so, it stays as it was.
func (d *draw) grow(f *api.Func) {
	b := &f.Blocks[d.below(len(f.Blocks))]
	if d.below(2) == 0 {
		d.growOperands(f, &b.Instrs[d.below(len(b.Instrs))])
		return
	}
	for _, edge := range b.Edges {
		for i, was := range edge.Args {
			edge.Args[i] = d.below(len(f.Values))
			if flow.Check(*f, machine()) != api.OK {
				edge.Args[i] = was
			}
		}
	}
}

// growOperands: an instruction by a use, by a def, or by a use and its reuse, which may stand ahead of it.
func (d *draw) growOperands(f *api.Func, x *api.Instr) {
	was, n := x.Operands, len(f.Values)
	// Places of operands must stay what Reuses name, so that new ones are the last.
	end, v, late := len(was), d.below(n), d.below(3) == 0
	l := []api.Operand{{Kind: api.Use, Value: v, Late: late, Limit: api.Anywhere}}
	class := d.below(api.Classes)
	switch d.below(10) {
	case 0:
		// A use alone, as it is; more of these would leave few values that may be in one group.
	case 1:
		l = []api.Operand{{Kind: api.Def, Value: n, Late: !late, Limit: api.Anywhere}}
	case 2, 3:
		l, class = []api.Operand{reuse(n, end+1), use(v)}, f.Values[v]
	default:
		l, class = []api.Operand{use(v), reuse(n, end)}, f.Values[v]
	}
	x.Operands = slices.Concat(was, l)
	if slices.ContainsFunc(l, func(o api.Operand) bool { return o.Kind == api.Def }) {
		f.Values = append(f.Values, class)
	}
	if flow.Check(*f, machine()) != api.OK {
		x.Operands, f.Values = was, f.Values[:n]
	}
}

// pair of values whose groups are to become one.
type pair struct{ v, w int }

// pairs in the order of the words.
func pairs(f api.Func) []pair {
	var l []pair
	for _, b := range f.Blocks {
		for _, x := range b.Instrs {
			for _, o := range x.Operands {
				if o.Kind == api.Def && o.Limit == api.Reuse {
					l = append(l, pair{o.Value, x.Operands[o.N].Value})
				}
			}
		}
		for _, edge := range b.Edges {
			for i, p := range f.Blocks[edge.Block].Params {
				l = append(l, pair{p, edge.Args[i]})
			}
		}
	}
	return l
}

// needed: for each value at which points it is, in a function that may be for some machine.
func needed(f api.Func) []map[int]bool {
	spans, _ := live.Spans(f, api.Machine{Regs: [api.Classes]int{api.MaxRegs, api.MaxRegs}})
	all := make([]map[int]bool, len(spans))
	for v, l := range spans {
		all[v] = map[int]bool{}
		for _, s := range l {
			for p := s.From; p < s.To; p++ {
				all[v][p] = true
			}
		}
	}
	return all
}

// atOnce: is a value of the one list needed where one of the other list is?
func atOnce(points []map[int]bool, a, b []int) bool {
	for _, v := range a {
		for _, w := range b {
			for p := range points[v] {
				if points[w][p] {
					return true
				}
			}
		}
	}
	return false
}

// want: groups as lists of values, pair by pair; and how many pairs are kept apart by other values of their groups alone.
func want(f api.Func) ([]int, int) {
	groups := make([][]int, len(f.Values))
	for v := range groups {
		groups[v] = []int{v}
	}
	points, byOthers := needed(f), 0
	for _, p := range pairs(f) {
		a, b := groups[p.v], groups[p.w]
		switch {
		case slices.Contains(a, p.w):
		case !atOnce(points, a, b):
			both := slices.Concat(a, b)
			for _, v := range both {
				groups[v] = both
			}
		case !atOnce(points, []int{p.v}, []int{p.w}):
			byOthers++
		}
	}
	least := make([]int, len(groups))
	for v, l := range groups {
		least[v] = slices.Min(l)
	}
	return least, byOthers
}

// P8.1: drawn functions, against what the words say.
func TestDrawn(t *testing.T) {
	d := draw(80)
	joined, apart, byOthers, most := 0, 0, 0, 0
	for i := range 3000 {
		f := d.fun()
		got, e := group.Groups(f, machine())
		wanted, n := want(f)
		if e != api.OK || !slices.Equal(got, wanted) {
			t.Fatalf("case %d: %v: %v %d, want %v", i, f, got, e, wanted)
		}
		for _, p := range pairs(f) {
			if got[p.v] == got[p.w] {
				joined++
			} else {
				apart++
			}
		}
		byOthers += n
		sizes := map[int]int{}
		for _, least := range got {
			sizes[least]++
			most = max(most, sizes[least])
		}
	}
	if joined < 5000 || apart < 5000 || byOthers < 1000 || most < 6 {
		t.Errorf("drawn too small, to tell anything: %d %d %d %d", joined, apart, byOthers, most)
	}
}

// What comes of P8.1: two values of a group are never needed at once, and are of one class; and what could be one group more is none, since the values of both are needed at once.
func TestApart(t *testing.T) {
	d := draw(81)
	for i := range 1000 {
		f := d.fun()
		got, _ := group.Groups(f, machine())
		points := needed(f)
		members := make([][]int, len(got))
		for v, least := range got {
			if f.Values[v] != f.Values[least] || atOnce(points, members[least], []int{v}) {
				t.Fatalf("case %d: %v: %v: the value %d may not be in its group", i, f, got, v)
			}
			members[least] = append(members[least], v)
		}
		for _, p := range pairs(f) {
			a, b := got[p.v], got[p.w]
			if a != b && !atOnce(points, members[a], members[b]) {
				t.Fatalf("case %d: %v: %v: the groups of %v could be one", i, f, got, p)
			}
		}
	}
}

// each number and each list of a function or a machine, those in spare room too.
func each(v reflect.Value, see func(v reflect.Value)) {
	see(v)
	switch v.Kind() {
	case reflect.Struct:
		for i := range v.NumField() {
			each(v.Field(i), see)
		}
	case reflect.Array:
		for i := range v.Len() {
			each(v.Index(i), see)
		}
	case reflect.Slice:
		whole := v.Slice(0, v.Cap())
		for i := range whole.Len() {
			each(whole.Index(i), see)
		}
	}
}

// told: all numbers of a function, and how long its lists are.
func told(f api.Func) string {
	var s strings.Builder
	each(reflect.ValueOf(f), func(v reflect.Value) {
		if v.Kind() == reflect.Slice {
			fmt.Fprint(&s, v.Len(), "/", v.Cap(), ":")
		} else if v.Kind() == reflect.Int {
			fmt.Fprint(&s, v.Int(), " ")
		}
	})
	return s.String()
}

// roomy: a function all of whose lists have spare room that is filled.
func roomy(f api.Func) api.Func {
	each(reflect.ValueOf(&f).Elem(), func(v reflect.Value) {
		if v.Kind() != reflect.Slice {
			return
		}
		n := v.Len()
		whole := reflect.MakeSlice(v.Type(), n+2, n+2)
		reflect.Copy(whole, v)
		for i := range 2 {
			each(whole.Index(n+i), func(v reflect.Value) {
				if v.Kind() == reflect.Int {
					v.SetInt(7)
				}
			})
		}
		v.Set(whole.Slice(0, n))
	})
	return f
}

// wild: one number of a function or a machine is another one, or one list has lost its end.
func (d *draw) wild(f *api.Func, m *api.Machine) {
	var all []reflect.Value
	see := func(v reflect.Value) {
		if v.Kind() == reflect.Int || v.Kind() == reflect.Slice && v.Len() > 0 {
			all = append(all, v)
		}
	}
	each(reflect.ValueOf(f).Elem(), see)
	each(reflect.ValueOf(m).Elem(), see)
	numbers := [...]int64{-1, 0, 1, 2, 3, 4, 5, 16, 160, -1 << 63, 1<<63 - 1, 1 << 32}
	if v := all[d.below(len(all))]; v.Kind() == reflect.Int {
		v.SetInt(numbers[d.below(len(numbers))])
	} else {
		v.SetLen(d.below(v.Len()))
	}
}

// What holds everywhere: calls end without a panic, tell what flow's Check refuses and nothing else then, answer the same again, and leave what they are given as it is.
func TestWild(t *testing.T) {
	d := draw(82)
	codes := map[api.Errno]int{}
	for i := range 6000 {
		f, m := roomy(d.fun()), machine()
		for range d.below(3) {
			d.wild(&f, &m)
		}
		before := told(f)
		wanted := flow.Check(f, m)
		got, e := group.Groups(f, m)
		if e != wanted || e != api.OK && len(got) > 0 {
			t.Fatalf("case %d: %v %v: %v %d, want %d", i, f, m, got, e, wanted)
		}
		if e == api.OK {
			if least, _ := want(f); !slices.Equal(got, least) {
				t.Fatalf("case %d: %v: %v, want %v", i, f, got, least)
			}
		}
		if again, _ := group.Groups(f, m); !slices.Equal(got, again) {
			t.Fatalf("case %d: %v, and %v", i, got, again)
		}
		if told(f) != before {
			t.Fatalf("case %d: what was given is changed", i)
		}
		codes[e]++
	}
	if codes[api.OK] < 1000 || codes[api.OK] > 5000 || len(codes) < 9 {
		t.Errorf("drawn too small, to tell anything: %v", codes)
	}
}

// What comes out is new memory, spare room too.
func TestNewMemory(t *testing.T) {
	f := roomy(ring(instr(use(1), reuse(2, 0))))
	before := told(f)
	one, _ := group.Groups(f, machine())
	other, _ := group.Groups(f, machine())
	for i := range one[:cap(one)] {
		one[:cap(one)][i] = 9
	}
	if !slices.Equal(other, []int{0, 0, 0}) {
		t.Errorf("two answers share memory: %v", other)
	}
	if told(f) != before {
		t.Error("an answer shares memory with what was given")
	}
}
