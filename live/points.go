package live

import (
	"ostler/api"
	"ostler/point"
)

// stays of the values in a block, by its first point; empty, where it has nothing to do with a value.
func (n needs) stays(f api.Func, b, first int) []api.Span {
	block := f.Blocks[b]
	stays := make([]api.Span, len(f.Values))
	for v := range stays {
		if n.in[b][v] {
			stays[v] = only(first)
		}
	}
	for _, v := range block.Params {
		stays[v] = only(first)
	}
	for i, x := range block.Instrs {
		early := point.Early(first, i)
		for _, o := range x.Operands {
			at := early
			if o.Late {
				at++
			}
			if o.Kind == api.Def {
				// What nobody reads has its place while its instruction writes it, all the same.
				stays[o.Value] = api.Span{From: at, To: early + 2}
			} else {
				stays[o.Value] = upTo(stays[o.Value], at)
			}
		}
	}
	for v := range stays {
		if n.out[b][v] {
			stays[v] = upTo(stays[v], point.End(block, first))
		}
	}
	return stays
}

// only this point.
func only(point int) api.Span { return api.Span{From: point, To: point + 1} }

// upTo a point, that too; what goes on beyond it stays as it is.
func upTo(s api.Span, point int) api.Span {
	s.To = max(s.To, point+1)
	return s
}

// joined: spans with one behind them, as one with the last of them if they meet.
func joined(l []api.Span, s api.Span) []api.Span {
	if len(l) > 0 && l[len(l)-1].To == s.From {
		l[len(l)-1].To = s.To
		return l
	}
	return append(l, s)
}
