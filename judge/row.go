package judge

// wordBits: how many values a word tells of.
const wordBits = 64

// row: the values that a place surely has, a bit for each.
type row []uint64

// width of a row, in words: one at least, so that each place has its own.
func width(values int) int { return 1 + values/wordBits }

func (r row) has(v int) bool { return r[v/wordBits]>>(v%wordBits)&1 != 0 }

func (r row) add(v int) { r[v/wordBits] |= 1 << (v % wordBits) }

func (r row) drop(v int) { r[v/wordBits] &^= 1 << (v % wordBits) }

// keep what the other row has, too: does that leave less?
func (r row) keep(other row) bool {
	less := false
	for i, word := range other {
		if r[i]&^word != 0 {
			r[i] &= word
			less = true
		}
	}
	return less
}

// rename values to params: all args are looked up in what there was, since a param may be an arg itself.
func (r row) rename(was row, args, params []int) {
	copy(r, was)
	for _, v := range params {
		r.drop(v)
	}
	for i, arg := range args {
		if was.has(arg) {
			r.add(params[i])
		}
	}
}
