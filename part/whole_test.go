package part

import (
	"bytes"
	"testing"

	"bootjack/api"
	"bootjack/flash"
)

// erases: those of a part's sectors, in order.
func erases(part, by int, places ...int) []api.Op {
	var ops []api.Op
	for _, at := range places {
		ops = append(ops, api.Op{Kind: api.OpErase, Part: part, At: at, By: by})
	}
	return ops
}

// P7.2: Wipe of no such part does nothing, down or not.
func TestWipeOfNoPart(t *testing.T) {
	for _, down := range []bool{false, true} {
		m := filled(t, 3, 2, 1, 3)
		if down {
			dropped(t, m)
		}
		for _, part := range outside(3) {
			wantStays(t, "Wipe of no part", m, func() {
				want(t, "Wipe", m.Wipe(part), api.ErrPart)
			})
		}
	}
}

// P7.2: of a part that is blank nothing is erased: no step is taken, whether there is one or not.
func TestWipeOfBlank(t *testing.T) {
	m := made(t, flash.New(6, 0), 1, 4, 1)
	want(t, "Program", m.Program(0, 0, rising(1)), api.OK)
	want(t, "Program", m.Program(2, 0, rising(2)), api.OK)
	want(t, "Program", m.Program(1, 2, flash.Blank()), api.OK)
	m.Ops()
	wantStays(t, "Wipe of a blank part", m, func() {
		want(t, "Wipe", m.Wipe(1), api.OK)
	})
	m.Device().Budget(0)
	wantStays(t, "Wipe of a blank part without a step left", m, func() {
		want(t, "Wipe", m.Wipe(1), api.OK)
	})
	dropped(t, m)
	wantStays(t, "Wipe of a blank part while it is down", m, func() {
		want(t, "Wipe", m.Wipe(1), api.OK)
	})
}

// P7.2: just those sectors are erased that aren't blank, in order, of that part alone; each of the ways in which four can be written.
func TestWipeOfSome(t *testing.T) {
	for written := range 16 {
		m := made(t, flash.New(8, 2), 2, 4, 2)
		for _, part := range []int{0, 2} {
			for at := range 2 {
				want(t, "Program", m.Program(part, at, mark(part, at)), api.OK)
			}
		}
		var places []int
		for at := range 4 {
			if written>>at&1 == 1 {
				want(t, "Program", m.Program(1, at, mark(1, at)), api.OK)
				places = append(places, at)
			}
		}
		m.Ops()
		m.As(6)
		waiting := m.Device().Waiting()
		want(t, "Wipe", m.Wipe(1), api.OK)
		wantOps(t, m, erases(1, 6, places...)...)
		if m.Device().Waiting() != waiting+len(places) {
			t.Errorf("Waiting %d", m.Device().Waiting())
		}
		for at := range 4 {
			wantSector(t, m, 1, at, flash.Blank())
			if m.Device().Wear(2+at) != written>>at&1 {
				t.Errorf("Wear of %d is %d", at, m.Device().Wear(2+at))
			}
		}
		for _, part := range []int{0, 2} {
			for at := range 2 {
				wantSector(t, m, part, at, mark(part, at))
			}
		}
	}
}

// P7.2: one byte that isn't 255, at whichever place, is enough to be wiped.
func TestWipeOfOneByte(t *testing.T) {
	for i := range api.SectorSize {
		m := made(t, flash.New(2, 1), 2)
		s := flash.Blank()
		s[i] = 254
		want(t, "Program", m.Program(0, 1, s), api.OK)
		m.Ops()
		want(t, "Wipe", m.Wipe(0), api.OK)
		wantSector(t, m, 0, 1, flash.Blank())
		wantOps(t, m, erases(0, 0, 1)...)
	}
}

// P7.2: Wipe isn't synced: without that it is lost.
func TestWipeIsNotKept(t *testing.T) {
	m := filled(t, 1, 1, 2)
	want(t, "Sync", m.Sync(), api.OK)
	want(t, "Wipe", m.Wipe(1), api.OK)
	m.Device().Restart(nil)
	for at := range 2 {
		wantSector(t, m, 1, at, mark(1, at))
	}
	wantOps(t, m, erases(1, 0, 0, 1)...)
}

// P7.2: a worn sector, at whichever place, ends it: what was wiped ahead of it is, what lies behind it isn't.
func TestWipeOfWorn(t *testing.T) {
	for worn := range 4 {
		m := made(t, flash.New(6, 1), 1, 4, 1)
		want(t, "Erase", m.Erase(1, worn), api.OK)
		for at := range 4 {
			want(t, "Program", m.Program(1, at, mark(1, at)), api.OK)
		}
		m.Ops()
		want(t, "Wipe", m.Wipe(1), api.ErrWorn)
		wantWipedTo(t, m, worn)
		wantStays(t, "a second Wipe", m, func() { want(t, "Wipe", m.Wipe(1), api.ErrWorn) })
	}
}

// wantWipedTo: of part 1 the sectors ahead of one are blank, and were erased; the others are as they were.
func wantWipedTo(t *testing.T, m *Map, end int) {
	t.Helper()
	var places []int
	for at := range m.Size(1) {
		s := mark(1, at)
		if at < end {
			s = flash.Blank()
			places = append(places, at)
		}
		wantSector(t, m, 1, at, s)
	}
	wantOps(t, m, erases(1, 0, places...)...)
}

// P7.2: a worn sector that is blank ends nothing.
func TestWipeOfWornAndBlank(t *testing.T) {
	m := made(t, flash.New(3, 1), 3)
	want(t, "Erase", m.Erase(0, 1), api.OK)
	want(t, "Program", m.Program(0, 0, rising(1)), api.OK)
	want(t, "Program", m.Program(0, 2, rising(2)), api.OK)
	m.Ops()
	want(t, "Wipe", m.Wipe(0), api.OK)
	wantOps(t, m, erases(0, 0, 0, 2)...)
}

// P7.2: the power ends in the midst; behind a Restart the rest can be wiped.
func TestWipeWithoutPower(t *testing.T) {
	for steps := range 6 {
		m := filled(t, 5, 1, 4, 1)
		want(t, "Sync", m.Sync(), api.OK)
		m.Device().Budget(steps)
		e := m.Wipe(1)
		if steps < 4 {
			want(t, "Wipe", e, api.ErrPower)
		} else {
			want(t, "Wipe", e, api.OK)
		}
		if m.Device().Down() != (steps < 4) {
			t.Errorf("%d steps: Down %v", steps, m.Device().Down())
		}
		wantWipedTo(t, m, steps)
		m.Device().Restart(bytes.Repeat([]byte{64}, steps))
		want(t, "Wipe", m.Wipe(1), api.OK)
		for at := range 4 {
			wantSector(t, m, 1, at, flash.Blank())
		}
		wantSector(t, m, 0, 0, mark(0, 0))
		wantSector(t, m, 2, 0, mark(2, 0))
	}
}

// P7.2: no bytes of a part that there isn't.
func TestAllOfNoPart(t *testing.T) {
	m := filled(t, 3, 2, 1, 3)
	for _, part := range outside(3) {
		wantStays(t, "All of no part", m, func() {
			if all := m.All(part); len(all) != 0 {
				t.Errorf("All(%d): %d bytes", part, len(all))
			}
		})
	}
}

// wantAll: what All should tell, sector by sector.
func wantAll(t *testing.T, m *Map, part int, sectors ...api.Sector) {
	t.Helper()
	var all []byte
	for _, s := range sectors {
		all = append(all, s[:]...)
	}
	if got := m.All(part); !bytes.Equal(got, all) || len(got) != m.Size(part)*64 {
		t.Errorf("All(%d) = %v, want %v", part, got, all)
	}
}

// P7.2: the bytes of each part, blank, written, erased, and while it is down.
func TestAll(t *testing.T) {
	blank := flash.Blank()
	m := made(t, flash.New(7, 3), 2, 1, 3)
	wantAll(t, m, 0, blank, blank)
	wantAll(t, m, 1, blank)
	wantAll(t, m, 2, blank, blank, blank)
	want(t, "Program", m.Program(0, 1, rising(1)), api.OK)
	want(t, "Program", m.Program(1, 0, rising(2)), api.OK)
	want(t, "Program", m.Program(2, 0, rising(3)), api.OK)
	want(t, "Program", m.Program(2, 2, rising(4)), api.OK)
	m.Ops()
	wantAll(t, m, 0, blank, rising(1))
	wantAll(t, m, 1, rising(2))
	wantAll(t, m, 2, rising(3), blank, rising(4))
	want(t, "Erase", m.Erase(2, 0), api.OK)
	want(t, "Wipe", m.Wipe(1), api.OK)
	dropped(t, m)
	wantAll(t, m, 0, blank, rising(1))
	wantAll(t, m, 1, blank)
	wantAll(t, m, 2, blank, blank, rising(4))
	wantOps(t, m, append(erases(2, 0, 0), erases(1, 0, 0)...)...)
}

// Rules: what All tells is new memory, which isn't kept: writing into it changes nothing, nor does what is done later.
func TestAllIsItsOwn(t *testing.T) {
	m := filled(t, 3, 2, 2)
	first, second := m.All(0), m.All(0)
	wantStays(t, "writing into what All told", m, func() {
		clear(first[:cap(first)])
	})
	wantAll(t, m, 0, mark(0, 0), mark(0, 1))
	want(t, "Wipe", m.Wipe(0), api.OK)
	s := mark(0, 0)
	if !bytes.Equal(second[:64], s[:]) {
		t.Error("what All told has changed")
	}
}

// Rules: a sector that was handed in, or told, may be written over.
func TestSectorsAreTheirOwn(t *testing.T) {
	m := made(t, flash.New(2, 1), 1, 1)
	s := rising(1)
	want(t, "Program", m.Program(1, 0, s), api.OK)
	s[0] = 99
	told, _ := m.Read(1, 0)
	told[1] = 99
	wantSector(t, m, 1, 0, rising(1))
}

// Rules: what is done to the device itself is seen through the Map, but is none of its operations.
func TestDeviceIsOne(t *testing.T) {
	d := flash.New(5, 2)
	m := made(t, d, 2, 3)
	want(t, "Program", d.Program(3, rising(1)), api.OK)
	wantSector(t, m, 1, 1, rising(1))
	wantAll(t, m, 1, flash.Blank(), rising(1), flash.Blank())
	want(t, "Program", m.Program(1, 1, rising(2)), api.ErrDirty)
	want(t, "Erase", d.Erase(3), api.OK)
	wantSector(t, m, 1, 1, flash.Blank())
	want(t, "Program", d.Program(0, rising(3)), api.OK)
	wantOps(t, m)
	want(t, "Wipe", m.Wipe(0), api.OK)
	wantOps(t, m, erases(0, 0, 0)...)
	d.Budget(0)
	want(t, "Sync", d.Sync(), api.ErrPower)
	want(t, "Erase", m.Erase(0, 0), api.ErrPower)
	d.Restart([]byte{64})
	wantSector(t, m, 1, 1, rising(1))
	want(t, "Erase", m.Erase(0, 0), api.OK)
}

// Rules: two Maps of one device see what the other one does; each has its own operations, and is for whom it is told.
func TestTwoMapsOfOneDevice(t *testing.T) {
	d := flash.New(6, 2)
	a, b := made(t, d, 2, 4), made(t, d, 3, 1, 2)
	a.As(1)
	b.As(2)
	want(t, "Program", a.Program(1, 1, rising(1)), api.OK)
	wantSector(t, b, 1, 0, rising(1))
	want(t, "Program", b.Program(1, 0, rising(2)), api.ErrDirty)
	want(t, "Wipe", b.Wipe(1), api.OK)
	wantSector(t, a, 1, 1, flash.Blank())
	wantOps(t, a, api.Op{Kind: api.OpProgram, Part: 1, At: 1, By: 1})
	wantOps(t, b, erases(1, 2, 0)...)
}
