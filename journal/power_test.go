package journal

import (
	"fmt"
	"math/rand/v2"
	"slices"
	"strings"
	"testing"

	"bootjack/api"
	"bootjack/part"
)

// call: a Begin or an Append, and its body.
type call struct {
	begin bool
	body  string
}

func (c call) of(j *Journal) api.Errno {
	if c.begin {
		return j.Begin([]byte(c.body))
	}
	return j.Append([]byte(c.body))
}

// hopes: what Open may tell: what was done without an error, or what perhaps was.
type hopes struct {
	sure    []string
	perhaps [][]string
}

// did: what may be told behind a call.
func (h *hopes) did(c call, e api.Errno) {
	if e == api.ErrFull || e == api.ErrJournal {
		return
	}
	row := []string{c.body}
	if !c.begin {
		row = append(slices.Clone(h.sure), c.body)
	}
	if e == api.OK {
		*h = hopes{sure: row}
	} else {
		h.perhaps = append(h.perhaps, row)
	}
}

// check: Open tells one of these.
func (h *hopes) check(t *testing.T, m *part.Map, what ...any) (*Journal, []string) {
	t.Helper()
	j, l := Open(m, 0, 1)
	told := texts(l)
	if slices.Equal(told, h.sure) {
		return j, told
	}
	for _, row := range h.perhaps {
		if slices.Equal(told, row) {
			return j, told
		}
	}
	t.Errorf("%v: Open tells %q, want %q or one of %d others", what, short(told), short(h.sure), len(h.perhaps))
	return j, told
}

// play: on a new device all calls but the last one, and that one with so many steps; the power has ended then, if it did.
func play(t *testing.T, row []call, steps int) (*part.Map, *Journal, *hopes, api.Errno) {
	t.Helper()
	m, h := made(t, 5, 6), &hopes{}
	j, _ := Open(m, 0, 1)
	for i, c := range row {
		if i == len(row)-1 {
			m.Device().Budget(steps)
		}
		e := c.of(j)
		h.did(c, e)
		if i == len(row)-1 {
			return m, j, h, e
		}
	}
	return m, j, h, api.OK
}

// ends: for so many things that wait, each choice of how many bytes of each were kept.
func ends(waiting int, choices ...byte) [][]byte {
	all := [][]byte{nil}
	for range waiting {
		var more [][]byte
		for _, kept := range all {
			for _, n := range choices {
				more = append(more, append(slices.Clone(kept), n))
			}
		}
		all = more
	}
	return all
}

// rows: each row of so many calls of an alphabet.
func rows(alphabet []call, count int) [][]call {
	all := [][]call{nil}
	for range count {
		var more [][]call
		for _, row := range all {
			for _, c := range alphabet {
				c.body += fmt.Sprint(" ", len(row))
				more = append(more, append(slices.Clone(row), c))
			}
		}
		all = more
	}
	return all
}

// alphabet: of one sector, and of two.
var alphabet = []call{{true, "b"}, {true, strings.Repeat("B", 60)}, {false, "a"}, {false, strings.Repeat("A", 60)}}

// P9.4: rows of up to four calls, with the power ending behind each number of steps of the last one, and each choice of what was kept of each sector.
func TestPowerEndsAtEachStep(t *testing.T) {
	for count := 1; count <= 4; count++ {
		for _, row := range rows(alphabet, count) {
			for steps, e := 0, api.ErrPower; e == api.ErrPower; steps++ {
				var m *part.Map
				m, _, _, e = play(t, row, steps)
				for _, kept := range ends(m.Device().Waiting(), 0, 20, 63, 64) {
					m, _, h, _ := play(t, row, steps)
					m.Device().Restart(kept)
					h.check(t, m, row, steps, kept)
				}
			}
		}
	}
}

// P9.4: behind the power's end a Begin, of a new Journal or of the old one, at each of whose steps it ends once more.
func TestPowerEndsTwice(t *testing.T) {
	for count := 1; count <= 3; count++ {
		for _, row := range rows(alphabet, count) {
			for steps, e := 0, api.ErrPower; e == api.ErrPower; steps++ {
				var m *part.Map
				m, _, _, e = play(t, row, steps)
				for _, kept := range ends(m.Device().Waiting(), 0, 40, 64) {
					endTwice(t, row, steps, kept, false)
					endTwice(t, row, steps, kept, true)
				}
			}
		}
	}
}

// endTwice: one of these, with the second end at each step.
func endTwice(t *testing.T, row []call, steps int, kept []byte, anew bool) {
	t.Helper()
	again := call{true, strings.Repeat("C", 60)}
	for second, e := 0, api.ErrPower; e == api.ErrPower; second++ {
		// None of what waits, all, a part of each, or of every second one all.
		for _, end := range [][]byte{nil, {64, 64, 64, 64, 64, 64}, {33, 33, 33, 33, 33, 33}, {0, 64, 0, 64, 0, 64}, {64, 0, 64, 0, 64, 0}} {
			m, j, h, _ := play(t, row, steps)
			m.Device().Restart(kept)
			if anew {
				k, told := h.check(t, m, row, steps, kept)
				j, h = k, &hopes{sure: told}
			}
			m.Device().Budget(second)
			e = again.of(j)
			h.did(again, e)
			m.Device().Restart(end)
			h.check(t, m, row, steps, kept, anew, second, end)
		}
	}
}

// P9.4: each sector's end lost, byte by byte, of a base and of a record of three sectors.
func TestEachEndIsLost(t *testing.T) {
	for _, c := range []call{{true, fill(3)}, {false, fill(3)}} {
		// Up to the last Sync; of a Begin there is one ahead of all.
		steps := 3
		if c.begin {
			steps++
		}
		for at := range 3 {
			for n := range byte(64) {
				kept := []byte{64, 64, 64}
				kept[at] = n
				m, _, h, e := play(t, []call{{true, "old"}, c}, steps)
				want(t, "the last one", e, api.ErrPower)
				m.Device().Restart(kept)
				if _, told := h.check(t, m, c, kept); !slices.Equal(told, []string{"old"}) {
					t.Errorf("%v: %q", kept, short(told))
				}
			}
		}
	}
}

// P9.4: nothing lost at all: what had an error is told all the same, if all of it was written; of a Begin that base alone.
func TestNothingIsLost(t *testing.T) {
	for _, c := range []call{{true, fill(2)}, {false, fill(2)}} {
		for steps := range 4 {
			m, _, h, e := play(t, []call{{true, "base"}, {false, "one"}, c}, steps)
			m.Device().Restart(whole(m))
			_, told := h.check(t, m, c, steps)
			there := []string{"base", "one"}
			switch {
			case c.begin && steps == 3:
				there = []string{fill(2)}
			case !c.begin && steps >= 2:
				there = append(there, fill(2))
			}
			if !slices.Equal(told, there) || (e == api.OK) != (!c.begin && steps == 3) {
				t.Errorf("%d steps, %d: %q, want %q", steps, e, short(told), short(there))
			}
		}
	}
}

// P9.4: long rows, with the power ending now and then, and sectors that wear; the same ones each time.
func TestLongRowsWithoutPower(t *testing.T) {
	told := 0
	for seed := range uint64(300) {
		r := rand.New(rand.NewPCG(seed, 94))
		m, h := worn(t, 5+r.IntN(40), 3+r.IntN(6), 3+r.IntN(6)), &hopes{}
		j, _ := Open(m, 0, 1)
		for turn := range 120 {
			c := call{r.IntN(4) == 0 || !j.Ready(), fmt.Sprint(turn, bodyOf(r.IntN(150)))}
			if r.IntN(5) == 0 {
				m.Device().Budget(r.IntN(9))
			}
			h.did(c, c.of(j))
			if !m.Device().Down() && r.IntN(15) > 0 {
				continue
			}
			kept := make([]byte, r.IntN(12))
			for i := range kept {
				kept[i] = byte(r.IntN(5) * 16)
			}
			m.Device().Restart(kept)
			k, row := h.check(t, m, seed, turn)
			if r.IntN(2) == 0 {
				j, h = k, &hopes{sure: row}
			}
			told += len(row)
		}
	}
	if told < 1000 {
		t.Errorf("only %d bodies were told: too few to tell anything", told)
	}
}
