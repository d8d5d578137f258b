package flash

import (
	"bytes"
	"math"
	"testing"

	"bootjack/api"
)

// full: a sector of one byte all over.
func full(v byte) api.Sector {
	return api.Sector(bytes.Repeat([]byte{v}, api.SectorSize))
}

// rising: a sector in which no two bytes are the same, and none is 255 for small beginnings.
func rising(first byte) api.Sector {
	var s api.Sector
	for i := range s {
		s[i] = first + byte(i)
	}
	return s
}

// laid: the first so many bytes of one sector over another.
func laid(under, over api.Sector, count int) api.Sector {
	for i := range count {
		under[i] = over[i]
	}
	return under
}

// want: the error that a call should have told.
func want(t *testing.T, what string, got, e api.Errno) {
	t.Helper()
	if got != e {
		t.Errorf("%s: %d, want %d", what, got, e)
	}
}

// wantSector: what Read should tell.
func wantSector(t *testing.T, d *Device, at int, s api.Sector) {
	t.Helper()
	if got, e := d.Read(at); got != s || e != api.OK {
		t.Errorf("Read(%d) = %v, %d, want %v", at, got, e, s)
	}
}

// seen: all that can be asked of a Device without a step.
type seen struct {
	size, waiting int
	down          bool
	sectors       []api.Sector
	wear          []int
}

func look(d *Device) seen {
	s := seen{size: d.Size(), waiting: d.Waiting(), down: d.Down()}
	for at := range d.Size() {
		sector, _ := d.Read(at)
		s.sectors = append(s.sectors, sector)
		s.wear = append(s.wear, d.Wear(at))
	}
	return s
}

func (s seen) same(o seen) bool {
	if s.size != o.size || s.waiting != o.waiting || s.down != o.down {
		return false
	}
	for at := range s.sectors {
		if s.sectors[at] != o.sectors[at] || s.wear[at] != o.wear[at] {
			return false
		}
	}
	return true
}

// wantStays: a call that changes nothing of what can be asked.
func wantStays(t *testing.T, what string, d *Device, call func()) {
	t.Helper()
	before := look(d)
	call()
	if after := look(d); !after.same(before) {
		t.Errorf("%s changed the device: %v, before %v", what, after, before)
	}
}

// dropped: a Device that is down, with what was done to it waiting.
func dropped(t *testing.T, d *Device) *Device {
	t.Helper()
	d.Budget(0)
	want(t, "Sync without a step left", d.Sync(), api.ErrPower)
	if !d.Down() {
		t.Fatal("it isn't down")
	}
	return d
}

// outside: places at which a Device of so many sectors has none.
func outside(size int) []int {
	return []int{math.MinInt, math.MinInt32, -size, -2, -1, size, size + 1, size + 64, 4096, 1 << 32, math.MaxInt32, math.MaxInt}
}

// P6.1: a blank sector, all of whose bytes are 255; each time a new one.
func TestBlank(t *testing.T) {
	s := Blank()
	for i, b := range s {
		if b != 255 {
			t.Errorf("byte %d is %d", i, b)
		}
	}
	s[3] = 1
	if Blank() != full(255) {
		t.Error("a Blank that was written to is told again")
	}
}

// P6.1: as many sectors as may be, and the nearer of the bounds for others.
func TestNewSectors(t *testing.T) {
	for sectors, size := range map[int]int{
		math.MinInt: 0, math.MinInt32: 0, -4096: 0, -1: 0, 0: 0, 1: 1, 2: 2, 63: 63, 4095: 4095, 4096: 4096,
		4097: 4096, 8192: 4096, 1 << 32: 4096, 1<<32 + 1: 4096, math.MaxInt: 4096,
	} {
		d := New(sectors, 1)
		if d.Size() != size {
			t.Errorf("New(%d): Size %d, want %d", sectors, d.Size(), size)
		}
		if d.Down() || d.Waiting() != 0 {
			t.Errorf("New(%d): Down %v, Waiting %d", sectors, d.Down(), d.Waiting())
		}
		for at := range size {
			wantSector(t, d, at, full(255))
			if d.Wear(at) != 0 {
				t.Errorf("New(%d): Wear(%d) = %d", sectors, at, d.Wear(at))
			}
		}
		want(t, "Program behind the last", d.Program(size, full(1)), api.ErrPlace)
		if size > 0 {
			want(t, "Program of the last", d.Program(size-1, full(1)), api.OK)
		}
	}
}

// P6.1, P6.2: a sector may be erased just as often as New says, within the bounds, and each of them for itself.
func TestNewWear(t *testing.T) {
	for wear, most := range map[int]int{
		math.MinInt: 0, -1: 0, 0: 0, 1: 1, 2: 2, 3: 3, 255: 255, 256: 256, 99999: 99999, 100000: 100000,
		100001: 100000, 1 << 32: 100000, math.MaxInt: 100000,
	} {
		d := New(2, wear)
		for n := range most {
			if e := d.Erase(1); e != api.OK {
				t.Fatalf("wear %d: the Erase behind %d is %d", wear, n, e)
			}
			if n%1000 == 0 {
				want(t, "Sync", d.Sync(), api.OK)
			}
			if d.Wear(1) != n+1 || d.Wear(0) != 0 {
				t.Fatalf("wear %d: behind %d Wear is %d and %d", wear, n+1, d.Wear(0), d.Wear(1))
			}
		}
		for range 2 {
			wantStays(t, "Erase of a worn one", d, func() {
				want(t, "Erase of a worn one", d.Erase(1), api.ErrWorn)
			})
		}
		if most > 0 {
			want(t, "Erase of the other one", d.Erase(0), api.OK)
		}
		want(t, "Program of a worn one", d.Program(1, full(1)), api.OK)
	}
}

// P6.1: a new Device has no budget.
func TestNewHasNoBudget(t *testing.T) {
	d := New(1, 100000)
	for range 5000 {
		want(t, "Erase", d.Erase(0), api.OK)
		want(t, "Program", d.Program(0, full(1)), api.OK)
		want(t, "Sync", d.Sync(), api.OK)
	}
}

// P6.1, P6.2: the first and the last sector are there, what is about them isn't; such a call changes nothing.
func TestPlaces(t *testing.T) {
	for _, size := range []int{0, 1, 2, 5, 4096} {
		for _, down := range []bool{false, true} {
			d := New(size, 3)
			if size > 0 {
				want(t, "Program", d.Program(0, full(1)), api.OK)
				want(t, "Erase", d.Erase(size-1), api.OK)
			}
			if down {
				dropped(t, d)
			}
			for _, at := range outside(size) {
				wantStays(t, "a call of no sector", d, func() {
					if s, e := d.Read(at); s != (api.Sector{}) || e != api.ErrPlace {
						t.Errorf("%d sectors: Read(%d) = %v, %d", size, at, s, e)
					}
					if w := d.Wear(at); w != 0 {
						t.Errorf("%d sectors: Wear(%d) = %d", size, at, w)
					}
					want(t, "Erase", d.Erase(at), api.ErrPlace)
					want(t, "Program", d.Program(at, full(2)), api.ErrPlace)
				})
			}
		}
	}
}

// P6.1: the first and the last one are their own sectors.
func TestFirstAndLast(t *testing.T) {
	for _, size := range []int{2, 3, 4096} {
		d := New(size, 3)
		want(t, "Program", d.Program(0, rising(1)), api.OK)
		want(t, "Program", d.Program(size-1, rising(2)), api.OK)
		wantSector(t, d, 0, rising(1))
		wantSector(t, d, size-1, rising(2))
		want(t, "Erase", d.Erase(size-1), api.OK)
		wantSector(t, d, 0, rising(1))
		wantSector(t, d, size-1, full(255))
		if d.Wear(0) != 0 || d.Wear(size-1) != 1 {
			t.Errorf("Wear %d and %d", d.Wear(0), d.Wear(size-1))
		}
		for at := 1; at < size-1; at++ {
			wantSector(t, d, at, full(255))
		}
	}
}

// P6.1: Read tells what was done last, synced or not, down or not.
func TestReadBehindAll(t *testing.T) {
	d := New(2, 3)
	for n, s := range []api.Sector{rising(1), rising(100), full(0)} {
		want(t, "Erase", d.Erase(1), api.OK)
		wantSector(t, d, 1, full(255))
		want(t, "Program", d.Program(1, s), api.OK)
		wantSector(t, d, 1, s)
		if n > 0 {
			want(t, "Sync", d.Sync(), api.OK)
			wantSector(t, d, 1, s)
		}
		wantSector(t, d, 0, full(255))
	}
	want(t, "Program", d.Program(0, rising(7)), api.OK)
	dropped(t, d)
	wantSector(t, d, 0, rising(7))
	wantSector(t, d, 1, full(0))
}

// P6.1: a sector that is erased and not synced is told as blank, also while it is down.
func TestReadOfErasedWhileDown(t *testing.T) {
	d := New(1, 3)
	want(t, "Program", d.Program(0, rising(1)), api.OK)
	want(t, "Sync", d.Sync(), api.OK)
	want(t, "Erase", d.Erase(0), api.OK)
	dropped(t, d)
	wantSector(t, d, 0, full(255))
}

// P6.2: the chapter's example; what was there stays.
func TestProgramTwice(t *testing.T) {
	d := New(2, 3)
	want(t, "Program", d.Program(0, rising(1)), api.OK)
	for _, s := range []api.Sector{rising(2), rising(1), full(255), full(0)} {
		wantStays(t, "Program of one that isn't blank", d, func() {
			want(t, "Program", d.Program(0, s), api.ErrDirty)
		})
	}
	want(t, "Sync", d.Sync(), api.OK)
	want(t, "Program behind a Sync", d.Program(0, rising(2)), api.ErrDirty)
	want(t, "Erase", d.Erase(0), api.OK)
	want(t, "Program", d.Program(0, rising(2)), api.OK)
	want(t, "Program", d.Program(0, rising(3)), api.ErrDirty)
}

// P6.2: one byte that isn't 255, at whichever place, is enough; and one bit of it.
func TestDirtyByOneByte(t *testing.T) {
	for i := range api.SectorSize {
		for _, b := range []byte{0, 127, 254} {
			d := New(1, 1)
			s := full(255)
			s[i] = b
			want(t, "Program", d.Program(0, s), api.OK)
			want(t, "Program", d.Program(0, s), api.ErrDirty)
			wantSector(t, d, 0, s)
		}
	}
}

// P6.2: a sector that was written with 255 all over is blank: it can be written again, and each time it was done.
func TestProgramOfBlank(t *testing.T) {
	d := New(1, 0)
	for n := range 3 {
		want(t, "Program", d.Program(0, Blank()), api.OK)
		if d.Waiting() != n+1 {
			t.Errorf("Waiting %d behind %d", d.Waiting(), n+1)
		}
	}
	want(t, "Program", d.Program(0, rising(1)), api.OK)
	want(t, "Program", d.Program(0, Blank()), api.ErrDirty)
	if d.Waiting() != 4 || d.Wear(0) != 0 {
		t.Errorf("Waiting %d, Wear %d", d.Waiting(), d.Wear(0))
	}
}

// P6.2: each Erase is done, and wears, also of a sector that is blank.
func TestEraseOfBlank(t *testing.T) {
	d := New(1, 3)
	for n := range 3 {
		want(t, "Erase", d.Erase(0), api.OK)
		if d.Wear(0) != n+1 || d.Waiting() != n+1 {
			t.Errorf("behind %d: Wear %d, Waiting %d", n+1, d.Wear(0), d.Waiting())
		}
	}
}

// P6.2: no such sector ahead of down.
func TestPlaceAheadOfDown(t *testing.T) {
	d := dropped(t, New(1, 1))
	for _, at := range outside(1) {
		want(t, "Erase", d.Erase(at), api.ErrPlace)
		want(t, "Program", d.Program(at, full(1)), api.ErrPlace)
	}
	want(t, "Erase", d.Erase(0), api.ErrPower)
	want(t, "Program", d.Program(0, full(1)), api.ErrPower)
	want(t, "Sync", d.Sync(), api.ErrPower)
}

// P6.2: down ahead of worn and dirty.
func TestDownAheadOfWornAndDirty(t *testing.T) {
	d := New(1, 0)
	want(t, "Program", d.Program(0, full(1)), api.OK)
	dropped(t, d)
	wantStays(t, "a call while it is down", d, func() {
		want(t, "Erase", d.Erase(0), api.ErrPower)
		want(t, "Program", d.Program(0, full(1)), api.ErrPower)
		want(t, "Sync", d.Sync(), api.ErrPower)
	})
}

// P6.2: no such sector, worn and dirty ahead of a step: such a call doesn't end the power.
func TestErrorsAheadOfAStep(t *testing.T) {
	d := New(1, 0)
	want(t, "Program", d.Program(0, full(1)), api.OK)
	d.Budget(0)
	wantStays(t, "a call that is no step", d, func() {
		want(t, "Erase", d.Erase(0), api.ErrWorn)
		want(t, "Program", d.Program(0, full(2)), api.ErrDirty)
		want(t, "Erase", d.Erase(1), api.ErrPlace)
		want(t, "Program", d.Program(-1, full(2)), api.ErrPlace)
	})
	if d.Down() {
		t.Error("it is down")
	}
	want(t, "Sync", d.Sync(), api.ErrPower)
}

// P6.2: with no step left each of the three ends the power, and does nothing else.
func TestBudgetOfNone(t *testing.T) {
	calls := map[string]func(d *Device) api.Errno{
		"Erase":   func(d *Device) api.Errno { return d.Erase(0) },
		"Program": func(d *Device) api.Errno { return d.Program(1, full(1)) },
		"Sync":    func(d *Device) api.Errno { return d.Sync() },
	}
	for name, call := range calls {
		d := New(2, 5)
		want(t, "Program", d.Program(0, rising(1)), api.OK)
		d.Budget(0)
		if d.Down() {
			t.Error("a budget of 0 alone ends the power")
		}
		before := look(d)
		want(t, name, call(d), api.ErrPower)
		before.down = true
		if after := look(d); !after.same(before) {
			t.Errorf("%s: %v, before %v", name, after, before)
		}
		d.Restart(nil)
		wantSector(t, d, 0, full(255))
		wantSector(t, d, 1, full(255))
	}
}

// P6.2: a budget of so many is just so many steps, of whatever kind; what is no step takes none.
func TestBudgetOfSome(t *testing.T) {
	for budget := range 8 {
		d := New(16, 1)
		want(t, "Program", d.Program(14, full(1)), api.OK)
		want(t, "Erase", d.Erase(15), api.OK)
		d.Budget(budget)
		for n := range budget {
			wantStays(t, "a call that is no step", d, func() {
				want(t, "Erase", d.Erase(16), api.ErrPlace)
				want(t, "Program", d.Program(-1, full(1)), api.ErrPlace)
				want(t, "Erase", d.Erase(15), api.ErrWorn)
				want(t, "Program", d.Program(14, full(1)), api.ErrDirty)
			})
			switch n % 3 {
			case 0:
				want(t, "Program", d.Program(n, full(1)), api.OK)
			case 1:
				want(t, "Sync", d.Sync(), api.OK)
			case 2:
				want(t, "Erase", d.Erase(n), api.OK)
			}
			if d.Down() {
				t.Fatalf("budget %d: it is down behind %d", budget, n+1)
			}
		}
		want(t, "Program", d.Program(13, full(1)), api.ErrPower)
		if !d.Down() {
			t.Errorf("budget %d: it isn't down", budget)
		}
	}
}

// P6.2: a budget that is set anew counts from then on, whatever there was.
func TestBudgetAnew(t *testing.T) {
	for _, first := range []int{math.MinInt, -1, 0, 1, 2, 100, math.MaxInt} {
		for second := range 3 {
			d := New(1, 0)
			d.Budget(first)
			d.Budget(second)
			for range second {
				want(t, "Sync", d.Sync(), api.OK)
			}
			want(t, "Sync", d.Sync(), api.ErrPower)
		}
	}
	d := New(1, 0)
	d.Budget(3)
	want(t, "Sync", d.Sync(), api.OK)
	want(t, "Sync", d.Sync(), api.OK)
	d.Budget(2)
	want(t, "Sync", d.Sync(), api.OK)
	want(t, "Sync", d.Sync(), api.OK)
	want(t, "Sync", d.Sync(), api.ErrPower)
}

// P6.2: below 0 there is none, also where there was one.
func TestBudgetBelowNone(t *testing.T) {
	for _, none := range []int{-1, -2, -3, -100, math.MinInt32, math.MinInt} {
		d := New(1, 0)
		d.Budget(0)
		d.Budget(none)
		for range 500 {
			want(t, "Sync", d.Sync(), api.OK)
		}
	}
	d := New(1, 0)
	d.Budget(math.MaxInt)
	want(t, "Sync", d.Sync(), api.OK)
}

// P6.2: a budget doesn't bring a Device back that is down.
func TestBudgetWhileDown(t *testing.T) {
	d := dropped(t, New(1, 1))
	for _, steps := range []int{5, -1, 0, math.MaxInt} {
		wantStays(t, "Budget", d, func() { d.Budget(steps) })
		want(t, "Erase", d.Erase(0), api.ErrPower)
		want(t, "Program", d.Program(0, full(1)), api.ErrPower)
		want(t, "Sync", d.Sync(), api.ErrPower)
	}
}

// P6.2: Sync with nothing done is a step, and changes nothing else; with some done they are kept.
func TestSync(t *testing.T) {
	d := New(3, 3)
	wantStays(t, "Sync of nothing", d, func() { want(t, "Sync", d.Sync(), api.OK) })
	want(t, "Program", d.Program(0, rising(1)), api.OK)
	want(t, "Erase", d.Erase(1), api.OK)
	want(t, "Program", d.Program(1, rising(2)), api.OK)
	if d.Waiting() != 3 {
		t.Errorf("Waiting %d", d.Waiting())
	}
	want(t, "Sync", d.Sync(), api.OK)
	if d.Waiting() != 0 || d.Wear(1) != 1 {
		t.Errorf("Waiting %d, Wear %d", d.Waiting(), d.Wear(1))
	}
	want(t, "Program", d.Program(2, rising(3)), api.OK)
	d.Restart(nil)
	wantSector(t, d, 0, rising(1))
	wantSector(t, d, 1, rising(2))
	wantSector(t, d, 2, full(255))
}

// P6.2: a Sync that isn't done keeps nothing.
func TestSyncWhileDown(t *testing.T) {
	d := New(1, 3)
	want(t, "Program", d.Program(0, rising(1)), api.OK)
	dropped(t, d)
	wantStays(t, "Sync", d, func() { want(t, "Sync", d.Sync(), api.ErrPower) })
	if d.Waiting() != 1 {
		t.Errorf("Waiting %d", d.Waiting())
	}
	d.Restart(nil)
	wantSector(t, d, 0, full(255))
}

// P6.3: of a write so many bytes are kept, from the beginning on, as the byte says, and at most all.
func TestRestartWithEachByte(t *testing.T) {
	for b := range 256 {
		count := min(b, 64)
		d := New(2, 3)
		want(t, "Program", d.Program(1, rising(1)), api.OK)
		d.Restart([]byte{byte(b)})
		wantSector(t, d, 0, full(255))
		wantSector(t, d, 1, laid(full(255), rising(1), count))
		want(t, "Sync", d.Sync(), api.OK)
		want(t, "Erase", d.Erase(1), api.OK)
		d.Restart([]byte{byte(b)})
		wantSector(t, d, 1, laid(laid(full(255), rising(1), count), full(255), count))
	}
}

// P6.3: an Erase that is lost in part: the beginning is blank, the rest is as it was kept.
func TestRestartOfErase(t *testing.T) {
	for _, count := range []int{0, 1, 2, 31, 63, 64} {
		d := New(1, 3)
		want(t, "Program", d.Program(0, rising(1)), api.OK)
		want(t, "Sync", d.Sync(), api.OK)
		want(t, "Erase", d.Erase(0), api.OK)
		d.Restart([]byte{byte(count)})
		wantSector(t, d, 0, laid(rising(1), full(255), count))
		if d.Wear(0) != 1 {
			t.Errorf("Wear %d", d.Wear(0))
		}
	}
}

// P6.3: bytes for none, for fewer, for as many and for more than were done.
func TestRestartWithFewerAndMore(t *testing.T) {
	for done := range 5 {
		for count := range 8 {
			d := New(5, 0)
			for at := range done {
				want(t, "Program", d.Program(at, rising(byte(at))), api.OK)
			}
			kept := []byte{64, 1, 255, 63, 2, 64, 64, 64}[:count]
			d.Restart(kept)
			if d.Waiting() != 0 || d.Down() {
				t.Errorf("Waiting %d, Down %v", d.Waiting(), d.Down())
			}
			for at := range 5 {
				s := full(255)
				if at < done && at < count {
					s = laid(s, rising(byte(at)), min(int(kept[at]), 64))
				}
				wantSector(t, d, at, s)
			}
		}
	}
}

// P6.3: nil and empty are one, and what stands behind the end is none of it.
func TestRestartWithNone(t *testing.T) {
	for _, kept := range [][]byte{nil, {}, []byte{64, 64, 64}[:0]} {
		d := New(1, 0)
		want(t, "Program", d.Program(0, rising(1)), api.OK)
		d.Restart(kept)
		wantSector(t, d, 0, full(255))
	}
}

// P6.3: several things done to one sector: each is laid over what the one ahead left.
func TestRestartOfOneSector(t *testing.T) {
	counts := []int{0, 1, 20, 63, 64}
	for row := range 125 {
		a, b, c := counts[row/25], counts[row/5%5], counts[row%5]
		d := New(2, 3)
		want(t, "Program", d.Program(0, rising(50)), api.OK)
		want(t, "Sync", d.Sync(), api.OK)
		want(t, "Erase", d.Erase(0), api.OK)
		want(t, "Program", d.Program(0, rising(100)), api.OK)
		want(t, "Erase", d.Erase(0), api.OK)
		d.Restart([]byte{byte(a), byte(b), byte(c)})
		s := laid(rising(50), full(255), a)
		s = laid(s, rising(100), b)
		s = laid(s, full(255), c)
		wantSector(t, d, 0, s)
		wantSector(t, d, 1, full(255))
		if d.Wear(0) != 2 {
			t.Errorf("Wear %d", d.Wear(0))
		}
	}
}

// P6.3: the k-th byte is of the k-th thing done, of whichever sector it was.
func TestRestartInOrder(t *testing.T) {
	d := New(3, 3)
	want(t, "Program", d.Program(2, rising(1)), api.OK)
	want(t, "Program", d.Program(0, rising(2)), api.OK)
	want(t, "Erase", d.Erase(2), api.OK)
	want(t, "Program", d.Program(1, rising(3)), api.OK)
	d.Restart([]byte{40, 3, 10, 64})
	wantSector(t, d, 2, laid(laid(full(255), rising(1), 40), full(255), 10))
	wantSector(t, d, 0, laid(full(255), rising(2), 3))
	wantSector(t, d, 1, rising(3))
}

// P6.3: what was synced stays whatever is handed in; only what was done since is counted.
func TestRestartBehindSync(t *testing.T) {
	d := New(2, 3)
	want(t, "Program", d.Program(0, rising(1)), api.OK)
	want(t, "Sync", d.Sync(), api.OK)
	d.Restart([]byte{0, 0, 0})
	wantSector(t, d, 0, rising(1))
	want(t, "Program", d.Program(1, rising(2)), api.OK)
	d.Restart([]byte{5, 64})
	wantSector(t, d, 0, rising(1))
	wantSector(t, d, 1, laid(full(255), rising(2), 5))
}

// P6.3: what a Restart has left is kept: the next one takes nothing of it.
func TestRestartTwice(t *testing.T) {
	d := New(1, 3)
	want(t, "Program", d.Program(0, rising(1)), api.OK)
	d.Restart([]byte{7})
	wantStays(t, "a second Restart", d, func() { d.Restart([]byte{64, 64}) })
	wantStays(t, "a third Restart", d, func() { d.Restart(nil) })
	want(t, "Program", d.Program(0, rising(1)), api.ErrDirty)
	want(t, "Erase", d.Erase(0), api.OK)
	d.Restart(nil)
	wantSector(t, d, 0, laid(full(255), rising(1), 7))
}

// P6.3: a sector is blank behind a Restart, if what is left of it is 255 all over.
func TestProgramBehindRestart(t *testing.T) {
	d := New(2, 3)
	want(t, "Program", d.Program(0, rising(1)), api.OK)
	d.Restart([]byte{0})
	want(t, "Program of one that was lost", d.Program(0, rising(2)), api.OK)
	want(t, "Sync", d.Sync(), api.OK)
	want(t, "Erase", d.Erase(0), api.OK)
	d.Restart([]byte{63})
	want(t, "Program of one that wasn't erased whole", d.Program(0, rising(3)), api.ErrDirty)
}

// P6.3: behind it the Device isn't down and has no budget, whether it was down or not.
func TestRestartEndsTheBudget(t *testing.T) {
	for _, down := range []bool{false, true} {
		for _, budget := range []int{-1, 0, 1, 3} {
			d := New(2, 100000)
			want(t, "Program", d.Program(0, rising(1)), api.OK)
			if down {
				dropped(t, d)
			}
			d.Budget(budget)
			d.Restart([]byte{9})
			if d.Down() || d.Waiting() != 0 {
				t.Errorf("Down %v, Waiting %d", d.Down(), d.Waiting())
			}
			wantSector(t, d, 0, laid(full(255), rising(1), 9))
			for range 50 {
				want(t, "Erase", d.Erase(1), api.OK)
				want(t, "Program", d.Program(1, full(1)), api.OK)
				want(t, "Sync", d.Sync(), api.OK)
			}
		}
	}
}

// P6.3: the wear stays, also of what was lost: a worn sector is worn behind it.
func TestRestartKeepsTheWear(t *testing.T) {
	d := New(2, 2)
	for n := range 2 {
		want(t, "Erase", d.Erase(0), api.OK)
		d.Restart(nil)
		if d.Wear(0) != n+1 || d.Wear(1) != 0 {
			t.Errorf("Wear %d and %d", d.Wear(0), d.Wear(1))
		}
	}
	want(t, "Erase", d.Erase(0), api.ErrWorn)
	want(t, "Erase", d.Erase(1), api.OK)
}

// Rules: what is handed in to Restart is not changed, spare room included, and not kept.
func TestRestartKeepsNoBytes(t *testing.T) {
	d := New(3, 3)
	whole := []byte{3, 200, 0, 9, 9, 9}
	for at := range 3 {
		want(t, "Program", d.Program(at, rising(byte(at))), api.OK)
	}
	d.Restart(whole[:2])
	if !bytes.Equal(whole, []byte{3, 200, 0, 9, 9, 9}) {
		t.Errorf("what was handed in is %v", whole)
	}
	wantStays(t, "writing over what was handed in", d, func() {
		for i := range whole {
			whole[i] = 64
		}
	})
	want(t, "Program", d.Program(2, rising(9)), api.OK)
	d.Restart(nil)
	wantSector(t, d, 2, full(255))
}

// Rules: a sector that was handed in, or told, may be written over.
func TestSectorsAreTheirOwn(t *testing.T) {
	d := New(1, 3)
	s := rising(1)
	want(t, "Program", d.Program(0, s), api.OK)
	s[0] = 99
	told, _ := d.Read(0)
	told[1] = 99
	wantSector(t, d, 0, rising(1))
	want(t, "Sync", d.Sync(), api.OK)
	d.Restart(nil)
	wantSector(t, d, 0, rising(1))
}

// P2: two Devices don't know of each other.
func TestDevicesAreTheirOwn(t *testing.T) {
	a, b := New(2, 1), New(2, 1)
	wantStays(t, "what is done to another one", b, func() {
		want(t, "Erase", a.Erase(0), api.OK)
		want(t, "Program", a.Program(0, full(1)), api.OK)
		dropped(t, a)
	})
	want(t, "Program", b.Program(0, full(2)), api.OK)
	want(t, "Sync", b.Sync(), api.OK)
	a.Restart([]byte{64, 64})
	wantSector(t, a, 0, full(1))
	wantSector(t, b, 0, full(2))
	wantSector(t, New(2, 1), 0, full(255))
}

// P2: asking changes nothing.
func TestAskingChangesNothing(t *testing.T) {
	d := New(2, 2)
	want(t, "Program", d.Program(0, rising(1)), api.OK)
	d.Budget(1)
	for range 5 {
		wantStays(t, "asking", d, func() { look(d); Blank() })
	}
	want(t, "Sync", d.Sync(), api.OK)
	want(t, "Sync", d.Sync(), api.ErrPower)
}
