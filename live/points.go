package live

import "ostler/api"

// endOf a block: its last point, by its first one.
func endOf(b api.Block, first int) int { return earlyOf(first, len(b.Instrs)) }

// earlyOf an instruction: the first one of its two points, by the first one of its block.
func earlyOf(first, at int) int { return first + 1 + 2*at }

// stays of the values in a block, by its first point; empty, where it has nothing to do with a value.
func (n needs) stays(f api.Func, b, first int) []api.Span {
	block := f.Blocks[b]
	stays := make([]api.Span, len(f.Values))
	for v := range stays {
		if n.in[b][v] {
			stays[v] = only(first)
		}
	}
	for _, v := range block.Params {
		stays[v] = only(first)
	}
	for i, x := range block.Instrs {
		early := earlyOf(first, i)
		for _, o := range x.Operands {
			at := early
			if o.Late {
				at++
			}
			if o.Kind == api.Def {
				// What nobody reads has its place while its instruction writes it, all the same.
				stays[o.Value] = api.Span{From: at, To: early + 2}
			} else {
				stays[o.Value] = upTo(stays[o.Value], at)
			}
		}
	}
	for v := range stays {
		if n.out[b][v] {
			stays[v] = upTo(stays[v], endOf(block, first))
		}
	}
	return stays
}

// only this point.
func only(point int) api.Span { return api.Span{From: point, To: point + 1} }

// upTo a point, that too; what goes on beyond it stays as it is.
func upTo(s api.Span, point int) api.Span {
	s.To = max(s.To, point+1)
	return s
}

// joined: spans with one behind them, as one with the last of them if they meet.
func joined(l []api.Span, s api.Span) []api.Span {
	if len(l) > 0 && l[len(l)-1].To == s.From {
		l[len(l)-1].To = s.To
		return l
	}
	return append(l, s)
}
