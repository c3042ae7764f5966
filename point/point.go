// Package point: where the points of a block are, by its first one.
package point

import "ostler/api"

// Early point of the instruction at a place of its block; its late one is the next.
func Early(first, at int) int { return first + 1 + 2*at }

// End of a block: its last point.
func End(b api.Block, first int) int { return Early(first, len(b.Instrs)) }
