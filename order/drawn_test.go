package order_test

import (
	"fmt"
	"math"
	"slices"
	"testing"

	"ostler/api"
	"ostler/order"
)

// draw: numbers that look drawn, the same each time.
type draw uint64

func (d *draw) below(n int) int {
	*d = *d*6364136223846793005 + 1442695040888963407
	return int(uint64(*d>>33) % uint64(n))
}

// mix a list.
func mix[T any](d *draw, l []T) {
	for i := range l {
		j := i + d.below(len(l)-i)
		l[i], l[j] = l[j], l[i]
	}
}

// source of what a goal is to have, and the class of that.
type source struct {
	from  api.Place
	class int
}

// sources that a goal may have, of these places.
func sources(to api.Place, all []api.Place) []source {
	var l []source
	for class := range api.Classes {
		for _, from := range all {
			suits := func(p api.Place) bool { return p.Kind == api.InSlot || p.Class == class }
			if suits(from) && suits(to) {
				l = append(l, source{from, class})
			}
		}
	}
	return l
}

// each way of moving between these places is tried: each of them has nothing to get, or something from one of them.
func each(all []api.Place, try func(l []api.Move, classes []int)) {
	var l []api.Move
	var classes []int
	var next func(i int)
	next = func(i int) {
		if i == len(all) {
			try(l, classes)
			return
		}
		next(i + 1)
		for _, s := range sources(all[i], all) {
			l, classes = append(l, api.Move{From: s.from, To: all[i]}), append(classes, s.class)
			next(i + 1)
			l, classes = l[:len(l)-1], classes[:len(classes)-1]
		}
	}
	next(0)
}

// P7.2: all moves that there may be between a few places.
func TestEach(t *testing.T) {
	for _, c := range []struct {
		places []api.Place
		want   int
	}{
		{[]api.Place{reg(0), reg(1), other(0), other(1), slot(0), slot(1)}, 5 * 5 * 5 * 5 * 9 * 9},
		{[]api.Place{reg(0), reg(1), slot(0), slot(1), slot(2)}, 6 * 6 * 9 * 9 * 9},
		{[]api.Place{slot(0), slot(1), slot(2), slot(3)}, 9 * 9 * 9 * 9},
		{[]api.Place{reg(0), reg(1), reg(2), reg(3), reg(4)}, 6 * 6 * 6 * 6 * 6},
	} {
		tried := 0
		each(c.places, func(l []api.Move, classes []int) {
			tried++
			ordered(t, "each", machine(), l, classes, 4)
			if tried%7 == 0 {
				ordered(t, "each backwards", machine(), backwards(l), backwards(classes), 4)
			}
		})
		if tried != c.want {
			t.Errorf("%v: %d tried, not %d", c.places, tried, c.want)
		}
	}
}

// places of a machine with so many slots.
func places(m api.Machine, frame int) []api.Place {
	var all []api.Place
	for class, n := range m.Regs {
		for r := range n {
			all = append(all, api.Place{Kind: api.InReg, Class: class, N: r})
		}
	}
	for s := range frame {
		all = append(all, slot(s))
	}
	return all
}

func (d *draw) machine() api.Machine {
	most := api.MaxRegs - 1
	return api.Machine{Regs: [api.Classes]int{2 + d.below(most), 2 + d.below(most)}}
}

// moves to so many of the places (or to fewer), from any of them.
func (d *draw) moves(all []api.Place, n int) ([]api.Move, []int) {
	var l []api.Move
	var classes []int
	goals := slices.Clone(all)
	mix(d, goals)
	for _, to := range goals[:min(n, len(goals))] {
		from, class := all[d.below(len(all))], d.below(api.Classes)
		for _, p := range []api.Place{from, to} {
			if p.Kind == api.InReg {
				class = p.Class
			}
		}
		if from.Kind == api.InSlot || to.Kind == api.InSlot || from.Class == to.Class {
			l, classes = append(l, api.Move{From: from, To: to}), append(classes, class)
		}
	}
	return l, classes
}

// rings of these places, where no class is in the way; the moves stand in any order.
func (d *draw) rings(all []api.Place) ([]api.Move, []int) {
	var l []api.Move
	var classes []int
	all = slices.Clone(all)
	mix(d, all)
	for len(all) > 0 {
		n := 1 + d.below(min(len(all), 6))
		for i, from := range all[:n] {
			to, class := all[(i+1)%n], d.below(api.Classes)
			switch {
			case from.Kind == api.InReg && to.Kind == api.InReg && from.Class != to.Class:
				continue
			case from.Kind == api.InReg:
				class = from.Class
			case to.Kind == api.InReg:
				class = to.Class
			}
			l, classes = append(l, api.Move{From: from, To: to}), append(classes, class)
		}
		all = all[n:]
	}
	order := make([]int, len(l))
	for i := range order {
		order[i] = i
	}
	mix(d, order)
	mixed, of := make([]api.Move, len(l)), make([]int, len(l))
	for i, from := range order {
		mixed[i], of[i] = l[from], classes[from]
	}
	return mixed, of
}

// P7.2: drawn moves.
func TestDrawn(t *testing.T) {
	d := draw(70)
	moved := 0
	for range 6000 {
		m, frame := d.machine(), d.below(8)
		all := places(m, frame)
		l, classes := d.moves(all, d.below(len(all)+1))
		moved += len(ordered(t, "drawn", m, l, classes, frame))
		l, classes = d.rings(all)
		moved += len(ordered(t, "rings", m, l, classes, frame))
	}
	if moved < 100000 {
		t.Errorf("drawn too small, to tell anything: %d", moved)
	}
}

// P7.2: to all places that there may be, one by one from the next, the end first, and in rings.
func TestFull(t *testing.T) {
	d := draw(71)
	const frame = api.MaxFrame - 1
	m := api.Machine{Regs: [api.Classes]int{api.MaxRegs, api.MaxRegs}}
	all := places(m, frame)
	slots := all[api.Classes*api.MaxRegs:]
	for _, l := range [][]api.Move{line(slots...), backwards(line(slots...)), ring(slots...), backwards(ring(slots...))} {
		ordered(t, "all slots", m, l, zeros(len(l)), frame)
		ordered(t, "all slots, of class 1", m, l, ones(len(l)), frame)
	}
	for range 20 {
		l, classes := d.moves(all, len(all))
		ordered(t, "all places", m, l, classes, frame)
		l, classes = d.rings(all)
		ordered(t, "rings of all places", m, l, classes, frame)
	}
}

// refused: what Order answers, by the words of P7.1: all places that may be are listed.
func refused(m api.Machine, l []api.Move, classes []int, frame int) api.Errno {
	for _, n := range m.Regs {
		if n < 2 || n > api.MaxRegs {
			return api.ErrRange
		}
	}
	if frame < 0 || frame > api.MaxFrame-1 || len(l) > api.MaxMoves/4 {
		return api.ErrSize
	}
	if len(classes) != len(l) {
		return api.ErrForm
	}
	may := places(m, frame)
	for i, move := range l {
		of := func(p api.Place) bool { return p.Kind == api.InReg && p.Class != classes[i] }
		switch {
		case classes[i] != 0 && classes[i] != 1:
			return api.ErrClass
		case !slices.Contains(may, move.From) || !slices.Contains(may, move.To):
			return api.ErrRange
		case of(move.From) || of(move.To):
			return api.ErrClass
		case slices.ContainsFunc(l[:i], func(ahead api.Move) bool { return ahead.To == move.To }):
			return api.ErrTwice
		}
	}
	return api.OK
}

// wild: one number is another one, or one list has lost its end, or one move goes to where another one does.
func (d *draw) wild(m *api.Machine, l *[]api.Move, classes *[]int, frame *int) {
	numbers := []*int{&m.Regs[0], &m.Regs[1], frame}
	for i := range *classes {
		numbers = append(numbers, &(*classes)[i])
	}
	for range 2 { // Places come twice: most of what may be wrong is there.
		for i := range *l {
			move := &(*l)[i]
			for _, p := range []*api.Place{&move.From, &move.To} {
				numbers = append(numbers, &p.Kind, &p.Class, &p.N)
			}
		}
	}
	to := [...]int{-1, 0, 1, 2, 3, 4, 5, 10, 11, 999, 1000, math.MinInt, math.MaxInt, 1 << 32}
	switch d.below(12) {
	case 0:
		*l = (*l)[:d.below(len(*l)+1)]
	case 1:
		*classes = (*classes)[:d.below(len(*classes)+1)]
	case 2:
		if n := len(*l); n > 0 {
			(*l)[d.below(n)].To = (*l)[d.below(n)].To
		}
	default:
		*numbers[d.below(len(numbers))] = to[d.below(len(to))]
	}
}

// told: all that is handed in, spare room too.
func told(l []api.Move, classes []int) string {
	return fmt.Sprint(len(l), l[:cap(l)], len(classes), classes[:cap(classes)])
}

// room: the same, with spare room that is filled.
func room[T any](l []T, more ...T) []T { return append(slices.Clone(l), more...)[:len(l)] }

// What holds everywhere: calls end without a panic, refuse what the chapter says, answer the same again, and leave what they are given as it is.
func TestWild(t *testing.T) {
	d := draw(72)
	found := map[api.Errno]int{}
	for i := range 20000 {
		m, frame := d.machine(), d.below(6)
		l, classes := d.moves(places(m, frame), d.below(9))
		l = room(l, moves(reg(1), reg(0), reg(0), reg(1))...)
		classes = room(classes, 1, 0, 7)
		for range d.below(3) {
			d.wild(&m, &l, &classes, &frame)
		}
		before := told(l, classes)
		want := refused(m, l, classes, frame)
		got, e := order.Order(m, l, classes, frame)
		if e != want || e != api.OK && len(got) > 0 {
			t.Fatalf("case %d: %v %v %v %d: %v %d, want %d", i, m, l, classes, frame, got, e, want)
		}
		if e == api.OK {
			if lack := wrong(m, l, frame, got); lack != "" {
				t.Fatalf("case %d: %v %v %v %d: %v: %s", i, m, l, classes, frame, got, lack)
			}
		}
		if again, _ := order.Order(m, l, classes, frame); !slices.Equal(again, got) {
			t.Fatalf("case %d: %v, then %v", i, got, again)
		}
		if told(l, classes) != before {
			t.Fatalf("case %d: what was given is changed", i)
		}
		found[e]++
	}
	for _, e := range []api.Errno{api.OK, api.ErrSize, api.ErrRange, api.ErrForm, api.ErrTwice, api.ErrClass} {
		if found[e] < 100 {
			t.Errorf("drawn too small, to tell anything: %v", found)
			break
		}
	}
}

// What comes out is new memory, spare room too: what is written there is seen nowhere else, and what is handed in is not kept.
func TestNewMemory(t *testing.T) {
	for _, handed := range [][]api.Move{moves(reg(0), reg(1)), line(reg(0), reg(1), reg(2)), ring(reg(0), reg(1)), ring(slot(0), slot(1))} {
		l, classes := room(handed, handed...), zeros(len(handed))
		first, _ := order.Order(machine(), l, classes, 2)
		second, _ := order.Order(machine(), l, classes, 2)
		want := slices.Clone(first)
		clear(l[:cap(l)])
		clear(classes)
		clear(second[:cap(second)])
		if !slices.Equal(first, want) {
			t.Errorf("%v: the answer shares memory", handed)
		}
		l = room(handed, handed...)
		third, _ := order.Order(machine(), l, classes, 2)
		clear(third[:cap(third)])
		if !slices.Equal(l, handed) || !slices.Equal(l[len(l):cap(l)][:len(l)], handed) {
			t.Errorf("%v: what was handed in shares memory with the answer", handed)
		}
	}
}
