package mach

import "ostler/api"

// store: what each place of a machine has, and the junk that is next.
type store struct {
	// regs of each class: behind those that may be given away stands its scratch.
	regs  [api.Classes][api.MaxRegs + 1]int
	slots []int
	junk  []int
	next  int
}

// filled with junk: all registers that there are, then all slots.
func filled(m api.Machine, frame int, junk []int) store {
	s := store{slots: make([]int, frame), junk: junk}
	for class, n := range m.Regs {
		for r := range n + 1 {
			s.regs[class][r] = s.nextJunk()
		}
	}
	for i := range s.slots {
		s.slots[i] = s.nextJunk()
	}
	return s
}

func (s *store) nextJunk() int {
	if len(s.junk) == 0 {
		return 0
	}
	n := s.junk[s.next]
	s.next = (s.next + 1) % len(s.junk)
	return n
}

// at: what a place has, to be read or written.
func (s *store) at(p api.Place) *int {
	if p.Kind == api.InReg {
		return &s.regs[p.Class][p.N]
	}
	return &s.slots[p.N]
}
