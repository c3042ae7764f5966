package place_test

import (
	"math"
	"testing"

	"ostler/api"
	"ostler/place"
)

// Each place is a register that may be given away, or a scratch, or a slot, or none of these.
func TestKinds(t *testing.T) {
	m := api.Machine{Regs: [api.Classes]int{5, 4}}
	reg := func(class, n int) api.Place { return api.Place{Kind: api.InReg, Class: class, N: n} }
	for _, c := range []struct {
		p    api.Place
		want string
	}{
		{reg(0, 0), "register"},
		{reg(0, 4), "register"},
		{reg(0, 5), "scratch"},
		{reg(0, 6), ""},
		{reg(1, 0), "register"},
		{reg(1, 3), "register"},
		{reg(1, 4), "scratch"},
		{reg(1, 5), ""},
		{reg(0, -1), ""},
		{reg(0, math.MinInt), ""},
		{reg(1, math.MaxInt), ""},
		{reg(-1, 0), ""},
		{reg(2, 0), ""},
		{reg(math.MaxInt, 0), ""},
		{reg(math.MinInt, 0), ""},
		{place.Scratch(0, m), "scratch"},
		{place.Scratch(1, m), "scratch"},
		{place.Slot(0), "slot"},
		{place.Slot(2), "slot"},
		{place.Slot(3), ""},
		{place.Slot(-1), ""},
		{place.Slot(math.MaxInt), ""},
		{api.Place{Kind: api.InSlot, Class: 1}, ""},
		{api.Place{Kind: api.InSlot, Class: -1}, ""},
		{api.Place{}, ""},
		{api.Place{Kind: 3}, ""},
		{api.Place{Kind: -1}, ""},
	} {
		is := map[string]bool{"register": place.IsReg(c.p, m), "scratch": place.IsScratch(c.p, m), "slot": place.IsSlot(c.p, 3)}
		for kind, got := range is {
			if got != (kind == c.want) {
				t.Errorf("%v: %s: %v", c.p, kind, got)
			}
		}
	}
	if place.IsSlot(place.Slot(0), 0) {
		t.Error("a slot, where there are none")
	}
}

// A Fixed operand has a fixed register, and a Reuse of it; no other one has.
func TestFixed(t *testing.T) {
	all := []api.Operand{
		{Kind: api.Use, Value: 0, Limit: api.Fixed, N: 3},
		{Kind: api.Use, Value: 1, Limit: api.Fixed, N: 0},
		{Kind: api.Use, Value: 0, Limit: api.Anywhere},
		{Kind: api.Def, Value: 2, Late: true, Limit: api.Reuse, N: 1},
		{Kind: api.Def, Value: 3, Late: true, Limit: api.Reuse, N: 2},
		{Kind: api.Use, Value: 1, Limit: api.Register},
		{Kind: api.Def, Value: 3, Limit: api.Stack},
	}
	classes := []int{1, 0, 0, 1}
	for i, want := range []struct {
		r     api.Reg
		fixed bool
	}{
		{api.Reg{Class: 1, N: 3}, true},
		{api.Reg{Class: 0, N: 0}, true},
		{},
		{api.Reg{Class: 0, N: 0}, true},
		{},
		{},
		{},
	} {
		if r, fixed := place.Fixed(all[i], all, classes); r != want.r || fixed != want.fixed {
			t.Errorf("the operand %d: %v %v", i, r, fixed)
		}
	}
}
