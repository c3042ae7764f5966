package order

import (
	"slices"

	"ostler/api"
	"ostler/place"
)

// work of doing moves one by one.
type work struct {
	m       api.Machine
	frame   int
	classes map[api.Place]int       // of the values, by the goals of their moves
	left    map[api.Place]api.Place // of the moves that are not done yet: by their goals, from where
	readers map[api.Place]int       // how many of these are from a place
	done    []api.Move
}

func workOf(m api.Machine, l []api.Move, classes map[api.Place]int, frame int) work {
	w := work{m: m, frame: frame, classes: classes, left: map[api.Place]api.Place{}, readers: map[api.Place]int{}}
	for _, move := range l {
		// What stays where it is needs no move, and is in nobody's way.
		if move.From != move.To {
			w.left[move.To] = move.From
			w.readers[move.From]++
		}
	}
	return w
}

// free moves are done: those to where nothing is that is still to be moved.
func (w *work) free(l []api.Move) {
	isFree := func(to api.Place) bool {
		_, isLeft := w.left[to]
		return isLeft && w.readers[to] == 0
	}
	for _, move := range l {
		// A move that is done may free the one to where it was from.
		for to := move.To; isFree(to); {
			from := w.left[to]
			w.move(from, to, w.classes[to])
			w.readers[from]--
			delete(w.left, to)
			to = from
		}
	}
}

// rings are what is left without free moves: each goal is where just one other move is from.
func (w *work) rings(l []api.Move) {
	for _, move := range l {
		if _, isLeft := w.left[move.To]; isLeft {
			w.turn(w.ring(move.To))
		}
	}
}

// ring of moves that are left, each to where the one ahead of it is from; the first one is to this place.
func (w *work) ring(first api.Place) []api.Move {
	var l []api.Move
	for to := first; ; {
		from, isLeft := w.left[to]
		if !isLeft {
			return l
		}
		l = append(l, api.Move{From: from, To: to})
		delete(w.left, to)
		to = from
	}
}

// turn a ring: what one move takes is laid aside, so that all others may be done, one by one; then it is brought.
func (w *work) turn(ring []api.Move) {
	i, aside := w.parting(ring)
	first := ring[i]
	class := w.classes[first.To]
	w.move(first.From, aside, class)
	for _, move := range slices.Concat(ring[i+1:], ring[:i]) {
		w.move(move.From, move.To, w.classes[move.To])
	}
	w.move(aside, first.To, class)
}

// parting: at which move a ring is opened, and where what that one takes is laid aside.
func (w *work) parting(ring []api.Move) (int, api.Place) {
	var hops [api.Classes]int
	for _, move := range ring {
		if isHop(move) {
			hops[w.classes[move.To]]++
		}
	}
	// The scratch of a class can keep what is laid aside if no other move of the ring goes by way of it.
	keeps := func(move api.Move) bool {
		n := hops[w.classes[move.To]]
		return n == 0 || n == 1 && isHop(move)
	}
	if i := slices.IndexFunc(ring, keeps); i >= 0 {
		return i, place.Scratch(w.classes[ring[i].To], w.m)
	}
	return 0, place.Slot(w.frame)
}

// isHop: is it from slot to slot? Then it goes by way of a scratch.
func isHop(move api.Move) bool {
	return move.From.Kind == api.InSlot && move.To.Kind == api.InSlot
}

// move a value of this class: one move, or two by way of the scratch.
func (w *work) move(from, to api.Place, class int) {
	move := api.Move{From: from, To: to}
	if !isHop(move) {
		w.done = append(w.done, move)
		return
	}
	scratch := place.Scratch(class, w.m)
	w.done = append(w.done, api.Move{From: from, To: scratch}, api.Move{From: scratch, To: to})
}
