package claim

import "ostler/api"

const (
	// turns that each loop is taken to make.
	turns = 8
	// deepest loop that counts: one within it makes nothing dearer.
	deepest = 4
)

// priceAt a depth: what it costs to stand there once.
func priceAt(depth int) int {
	price := 1
	for range min(depth, deepest) {
		price *= turns
	}
	return price
}

// each value that stands in a block, as often as it does.
func each(b api.Block, see func(v int)) {
	for _, v := range b.Params {
		see(v)
	}
	for _, x := range b.Instrs {
		for _, o := range x.Operands {
			see(o.Value)
		}
	}
	for _, edge := range b.Edges {
		for _, v := range edge.Args {
			see(v)
		}
	}
}
