package flow

import "ostler/api"

// asParam: the place of what no instruction makes, ahead of all instructions.
const asParam = -1

// spot in a block: the place of an instruction, or behind all of them.
type spot struct{ block, at int }

// madeAhead: is each value made ahead of where it is used, whichever way one comes?
func (g graph) madeAhead(f api.Func) bool {
	made := makers(f)
	for b, block := range f.Blocks {
		for i, x := range block.Instrs {
			for _, o := range x.Operands {
				if o.Kind == api.Use && !g.ahead(made[o.Value], spot{b, i}) {
					return false
				}
			}
		}
		for _, edge := range block.Edges {
			for _, v := range edge.Args {
				if !g.ahead(made[v], spot{b, len(block.Instrs)}) {
					return false
				}
			}
		}
	}
	return true
}

// makers: for each value where it is made; each is made once, which shape's Check has asked.
func makers(f api.Func) []spot {
	made := make([]spot, len(f.Values))
	for b, block := range f.Blocks {
		for _, v := range block.Params {
			made[v] = spot{b, asParam}
		}
		for i, x := range block.Instrs {
			for _, o := range x.Operands {
				if o.Kind == api.Def {
					made[o.Value] = spot{b, i}
				}
			}
		}
	}
	return made
}

// ahead: does one come to the spot where it is used by way of the spot where it is made only?
func (g graph) ahead(made, used spot) bool {
	if made.block == used.block {
		return made.at < used.at
	}
	return g.dominates(made.block, used.block)
}
