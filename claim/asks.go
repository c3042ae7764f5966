package claim

import (
	"cmp"

	"ostler/api"
	"ostler/place"
)

// nobody: the value of a claim by what spoils a register.
const nobody = -1

// claimsOf an instruction, by its early point and the classes of all values; one may be told twice.
func claimsOf(x api.Instr, classes []int, early int) []api.Claim {
	late := early + 1
	var l []api.Claim
	for _, r := range x.Spoils {
		l = append(l, api.Claim{Reg: r, Span: api.Span{From: late, To: late + 1}, Value: nobody})
	}
	for _, o := range x.Operands {
		if r, fixed := place.Fixed(o, x.Operands, classes); fixed {
			l = append(l, api.Claim{Reg: r, Span: held(o, early, late), Value: o.Value})
		}
	}
	return l
}

// held: at which points of its instruction an operand has its register for itself. A Late Use is there from the early one on, as nothing is moved within an instruction.
func held(o api.Operand, early, late int) api.Span {
	switch {
	case o.Kind == api.Use && !o.Late:
		return api.Span{From: early, To: late}
	case o.Kind == api.Def && o.Late:
		return api.Span{From: late, To: late + 1}
	}
	return api.Span{From: early, To: late + 1}
}

// compare claims, for their order: 0, if they are the same.
func compare(a, b api.Claim) int {
	return cmp.Or(
		cmp.Compare(a.Reg.Class, b.Reg.Class),
		cmp.Compare(a.Reg.N, b.Reg.N),
		cmp.Compare(a.Span.From, b.Span.From),
		cmp.Compare(a.Span.To, b.Span.To),
		cmp.Compare(a.Value, b.Value),
	)
}
