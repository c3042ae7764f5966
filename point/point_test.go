package point_test

import (
	"testing"

	"ostler/api"
	"ostler/point"
)

// A block has its beginning, two points for each instruction, and its end.
func TestPoints(t *testing.T) {
	for _, c := range []struct{ first, at, want int }{{0, 0, 1}, {0, 1, 3}, {0, 39, 79}, {6, 0, 7}, {6, 2, 11}} {
		if got := point.Early(c.first, c.at); got != c.want {
			t.Errorf("the early point of the instruction %d behind %d: %d, want %d", c.at, c.first, got, c.want)
		}
	}
	for _, c := range []struct{ first, instrs, want int }{{0, 0, 1}, {0, 1, 3}, {7, 0, 8}, {7, 2, 12}} {
		if got := point.End(api.Block{Instrs: make([]api.Instr, c.instrs)}, c.first); got != c.want {
			t.Errorf("the end of %d instructions behind %d: %d, want %d", c.instrs, c.first, got, c.want)
		}
	}
}
