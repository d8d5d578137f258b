package table

import (
	"slices"
	"testing"

	"bootjack/api"
	"bootjack/part"
)

// hopes: what Open may tell: the table behind all that had no error, or what perhaps came of those that had one since.
type hopes struct {
	sure    api.Table
	perhaps []api.Table
}

// did: what may be told behind a Do.
func (h *hopes) did(l []api.Change, e api.Errno) {
	table, fault := plainApply(h.sure, l)
	switch {
	case fault != api.OK || e == api.ErrFull:
	case e == api.OK:
		*h = hopes{sure: table}
	default:
		h.perhaps = append(h.perhaps, table)
	}
}

// check: Open tells one of these.
func (h *hopes) check(t *testing.T, m *part.Map, first api.Table, what ...any) *Store {
	t.Helper()
	s, e := Open(m, 0, 1, first)
	want(t, "Open", e, api.OK)
	if got := s.Table(); got != h.sure && !slices.Contains(h.perhaps, got) {
		t.Errorf("%v: Open tells %v, want %v or one of %v", what, got, h.sure, h.perhaps)
	}
	return s
}

// begun: what the table is, where nothing stands.
var begun = api.Table{Slots: [2]api.Slot{good(1), {}}, Booted: -1}

// play: on a new device all Dos but the last one, and that one with so many steps.
func play(t *testing.T, row [][]api.Change, steps int) (*part.Map, *Store, *hopes, api.Errno) {
	t.Helper()
	m, h := made(t, 5, 6), &hopes{sure: begun}
	s, _ := Open(m, 0, 1, begun)
	var e api.Errno
	for i, l := range row {
		if i == len(row)-1 {
			m.Device().Budget(steps)
		}
		e = s.Do(l...)
		h.did(l, e)
	}
	return m, s, h, e
}

// ends: for so many things that wait, each choice of how many bytes of each were kept.
func ends(waiting int, choices ...byte) [][]byte {
	all := [][]byte{nil}
	for range waiting {
		var more [][]byte
		for _, kept := range all {
			for _, n := range choices {
				more = append(more, append(slices.Clone(kept), n))
			}
		}
		all = more
	}
	return all
}

// rows: each row of so many transactions of one, two and four sectors, and of none.
func rows(count int) [][][]api.Change {
	all := [][][]api.Change{nil}
	for k := range count {
		var more [][][]api.Change
		for _, row := range all {
			for _, l := range append(sized(k)[:3], nil) {
				more = append(more, append(slices.Clone(row), l))
			}
		}
		all = more
	}
	return all
}

// P11.5: rows of up to four Dos, with the power ending behind each number of steps of the last one, and each choice of what was kept of each sector.
func TestPowerEndsAtEachStep(t *testing.T) {
	old, new := 0, 0
	for count := 1; count <= 4; count++ {
		for _, row := range rows(count) {
			for steps, e := 0, api.ErrPower; e == api.ErrPower; steps++ {
				var m *part.Map
				m, _, _, e = play(t, row, steps)
				for _, kept := range ends(m.Device().Waiting(), 0, 20, 64) {
					m, s, h, e := play(t, row, steps)
					was := s.Table()
					m.Device().Restart(kept)
					told := h.check(t, m, begun, row, steps, kept).Table()
					if e != api.OK && was != h.sure {
						t.Errorf("%v, %d: the table is %v behind an error, want %v", row, steps, was, h.sure)
					}
					if e != api.OK && told == h.sure {
						old++
					} else if e != api.OK {
						new++
					}
				}
			}
		}
	}
	if old < 1000 || new < 100 {
		t.Error("too few to tell anything: the old table is told, and the new one:", old, new)
	}
}

// P11.5: behind the power's end one more Do, of a new Store or of the old one, at each of whose steps it ends once more.
func TestPowerEndsTwice(t *testing.T) {
	for count := 1; count <= 3; count++ {
		for _, row := range rows(count) {
			for steps, e := 0, api.ErrPower; e == api.ErrPower; steps++ {
				var m *part.Map
				m, _, _, e = play(t, row, steps)
				for _, kept := range ends(m.Device().Waiting(), 0, 64) {
					endTwice(t, row, steps, kept, false)
					endTwice(t, row, steps, kept, true)
				}
			}
		}
	}
}

// endTwice: one of these, with the second end at each step; and then one Do more.
func endTwice(t *testing.T, row [][]api.Change, steps int, kept []byte, anew bool) {
	t.Helper()
	again := sized(20)[1]
	for second, e := 0, api.ErrPower; e == api.ErrPower; second++ {
		// None of what waits, all, a part of each, or of every second one all.
		for _, end := range [][]byte{nil, {64, 64, 64, 64, 64, 64}, {33, 33, 33, 33, 33, 33}, {0, 64, 0, 64, 0, 64}, {64, 0, 64, 0, 64, 0}} {
			m, s, h, _ := play(t, row, steps)
			m.Device().Restart(kept)
			if anew {
				s = h.check(t, m, begun, row, steps, kept)
				h = &hopes{sure: s.Table()}
			}
			m.Device().Budget(second)
			e = s.Do(again...)
			h.did(again, e)
			m.Device().Restart(end)
			s = h.check(t, m, begun, row, steps, kept, anew, second, end)
			h = &hopes{sure: s.Table()}
			want(t, "the last one", s.Do(setFloor(40)), api.OK)
			h.did([]api.Change{setFloor(40)}, api.OK)
			h.check(t, m, api.Table{}, row, steps, kept, anew, second, end, "behind all")
		}
	}
}

// P11.5: each sector's end lost, byte by byte, of a table and of a transaction of four sectors: the old table is told, up to the last byte.
func TestEachEndIsLost(t *testing.T) {
	for _, row := range [][][]api.Change{{nil, sized(3)[2]}, {nil, sized(1)[2], sized(3)[2]}} {
		// Of the first row the last one doesn't fit into the smaller bank any more, so there is a Sync ahead of the table; of the other one it comes behind the table, in the greater bank.
		size, ahead := 2, 1
		if len(row) == 3 {
			size, ahead = 4, 0
		}
		for at := range size {
			for n := range byte(65) {
				kept := []byte{64, 64, 64, 64}
				kept[at] = n
				m, _, h, e := play(t, row, ahead+size)
				want(t, "the last one", e, api.ErrPower)
				if m.Device().Waiting() != size {
					t.Fatalf("%d wait", m.Device().Waiting())
				}
				m.Device().Restart(kept)
				if told := h.check(t, m, begun, len(row), kept).Table(); (told == h.sure) != (n < 64) {
					t.Errorf("%d: %v: %v", len(row), kept, told)
				}
			}
		}
	}
}

// P11.5: what is there behind whatever is lost is told once more by each Open, until something is done.
func TestOpenAgainAndAgain(t *testing.T) {
	for steps := range 4 {
		for _, kept := range [][]byte{nil, {64}, {64, 64}, {64, 30}} {
			m, _, h, _ := play(t, [][]api.Change{nil, sized(1)[1]}, steps)
			m.Device().Restart(kept)
			table := h.check(t, m, begun, steps, kept).Table()
			for _, first := range fewTables() {
				opened(t, "once more", m, 0, 1, first, table)
			}
			m.Device().Restart(nil)
			opened(t, "behind another Restart", m, 0, 1, api.Table{}, table)
		}
	}
}

// P11.5: long rows, with the power ending now and then, and sectors that wear; the same ones each time.
func TestLongRowsWithoutPower(t *testing.T) {
	opens, errors := 0, 0
	for seed := range uint64(400) {
		r := seeded(100 + seed)
		m, h := worn(t, 5+r.IntN(60), 2+r.IntN(9), 2+r.IntN(9)), &hopes{sure: begun}
		s, _ := Open(m, 0, 1, begun)
		for turn := range 120 {
			l := anyChanges(r, h.sure.Floor)
			if r.IntN(5) == 0 {
				m.Device().Budget(r.IntN(9))
			}
			e := s.Do(l...)
			h.did(l, e)
			if e != api.OK {
				errors++
			}
			if s.Table() != h.sure {
				t.Fatalf("%d, %d: the table is %v, want %v", seed, turn, s.Table(), h.sure)
			}
			if !m.Device().Down() && r.IntN(15) > 0 {
				continue
			}
			kept := make([]byte, r.IntN(12))
			for i := range kept {
				kept[i] = byte(r.IntN(5) * 16)
			}
			m.Device().Restart(kept)
			again := h.check(t, m, begun, seed, turn)
			opens++
			if r.IntN(2) == 0 {
				s, h = again, &hopes{sure: again.Table()}
			}
		}
	}
	if opens < 1000 || errors < 1000 {
		t.Error("too few to tell anything:", opens, errors)
	}
}
