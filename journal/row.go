package journal

import (
	"bootjack/api"
	"bootjack/frame"
	"bootjack/part"
)

// row is what stands in a bank: a base, and what was appended to it; without a base there is none.
type row struct {
	base, last uint64
	bodies     [][]byte
}

// rowOf: the longest of a bank.
func rowOf(m *part.Map, bank int) row {
	var r row
	left := sectorsOf(m, bank)
	for {
		kind, seq, body, size := frame.Get(left)
		if size == 0 || !r.takes(kind, seq) {
			return r
		}
		if !r.counts() {
			r.base = seq
		}
		r.last = seq
		r.bodies = append(r.bodies, body)
		left = left[size:]
	}
}

func sectorsOf(m *part.Map, bank int) []api.Sector {
	l := make([]api.Sector, m.Size(bank))
	for at := range l {
		l[at], _ = m.Read(bank, at)
	}
	return l
}

// counts: is there a base?
func (r row) counts() bool { return len(r.bodies) > 0 }

// takes: can a frame come next?
func (r row) takes(kind byte, seq uint64) bool {
	if !r.counts() {
		return kind == kindBase
	}
	// One more than the greatest number would be 0, which comes behind none.
	return kind == kindMore && seq != 0 && seq-1 == r.last
}

// outranks: does this one count, rather than another one?
func (r row) outranks(other row) bool {
	return r.counts() && (!other.counts() || r.base > other.base)
}
