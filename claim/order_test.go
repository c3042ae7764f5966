package claim

import (
	"slices"
	"testing"

	"ostler/api"
)

// numbers of a claim, in the order in which they tell where it stands.
func numbers(c api.Claim) []int {
	return []int{c.Reg.Class, c.Reg.N, c.Span.From, c.Span.To, c.Value}
}

// P9.1: by classes, numbers, From, To, and Value. In a function that may be, the last ones of these never decide, so the order is asked for by itself.
func TestCompare(t *testing.T) {
	var all []api.Claim
	for i := range 32 {
		bit := func(place int) int { return i >> place & 1 }
		all = append(all, api.Claim{Reg: api.Reg{Class: bit(0), N: bit(1)}, Span: api.Span{From: bit(2), To: bit(3)}, Value: bit(4) - 1})
	}
	for _, a := range all {
		for _, b := range all {
			if got, want := compare(a, b), slices.Compare(numbers(a), numbers(b)); got != want {
				t.Errorf("%v and %v: %d, want %d", a, b, got, want)
			}
		}
	}
}
