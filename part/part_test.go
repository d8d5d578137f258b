package part

import (
	"bytes"
	"math"
	"slices"
	"testing"

	"bootjack/api"
	"bootjack/flash"
)

// rising: a sector in which no two bytes are the same; another one for each beginning.
func rising(first byte) api.Sector {
	var s api.Sector
	for i := range s {
		s[i] = first + byte(i)
	}
	return s
}

// made: a Map that can be.
func made(t *testing.T, d *flash.Device, sizes ...int) *Map {
	t.Helper()
	m, e := New(d, sizes...)
	if m == nil || e != api.OK {
		t.Fatalf("New(%v) = %v, %d", sizes, m, e)
	}
	return m
}

// want: the error that a call should have told.
func want(t *testing.T, what string, got, e api.Errno) {
	t.Helper()
	if got != e {
		t.Errorf("%s: %d, want %d", what, got, e)
	}
}

// wantSector: what Read should tell.
func wantSector(t *testing.T, m *Map, part, at int, s api.Sector) {
	t.Helper()
	if got, e := m.Read(part, at); got != s || e != api.OK {
		t.Errorf("Read(%d, %d) = %v, %d, want %v", part, at, got, e, s)
	}
}

// wantOps: what Ops should tell.
func wantOps(t *testing.T, m *Map, ops ...api.Op) {
	t.Helper()
	if got := m.Ops(); !slices.Equal(got, ops) {
		t.Errorf("Ops() = %v, want %v", got, ops)
	}
}

// content: all sectors of a device, one behind the other.
func content(d *flash.Device) []byte {
	var all []byte
	for at := range d.Size() {
		s, _ := d.Read(at)
		all = append(all, s[:]...)
	}
	return all
}

// wantStays: a call that changes nothing of the device, and does no operation.
func wantStays(t *testing.T, what string, m *Map, call func()) {
	t.Helper()
	d := m.Device()
	before, waiting, down := content(d), d.Waiting(), d.Down()
	ops := m.Ops()
	call()
	if !bytes.Equal(content(d), before) || d.Waiting() != waiting || d.Down() != down {
		t.Errorf("%s changed the device", what)
	}
	wantOps(t, m)
	m.ops = ops
}

// dropped: a Map whose device is down.
func dropped(t *testing.T, m *Map) *Map {
	t.Helper()
	m.Device().Budget(0)
	want(t, "Sync without a step left", m.Sync(), api.ErrPower)
	if !m.Device().Down() {
		t.Fatal("it isn't down")
	}
	return m
}

// outside: numbers of which a row of so many has none.
func outside(count int) []int {
	return []int{
		math.MinInt, math.MinInt + 1, math.MinInt32, -count - 1, -count, -2, -1,
		count, count + 1, count + 16, 4096, 1 << 32, math.MaxInt32, math.MaxInt - 1, math.MaxInt,
	}
}

// filled: a Map of the parts, each sector written by its own bytes, with no operations left.
func filled(t *testing.T, wear int, sizes ...int) *Map {
	t.Helper()
	total := 0
	for _, size := range sizes {
		total += size
	}
	m := made(t, flash.New(total, wear), sizes...)
	for part, size := range sizes {
		for at := range size {
			want(t, "Program", m.Program(part, at, mark(part, at)), api.OK)
		}
	}
	m.Ops()
	return m
}

// mark: a sector's own bytes, none of which stand elsewhere.
func mark(part, at int) api.Sector { return rising(byte(1 + part*16 + at)) }

func times(count, size int) []int {
	return slices.Repeat([]int{size}, count)
}

// P7.1: as many parts as may be, and no others; beside the error there is no Map.
func TestNewParts(t *testing.T) {
	for count := range 40 {
		for _, sectors := range []int{64, 4096} {
			m, e := New(flash.New(sectors, 1), times(count, 1)...)
			if count < 1 || count > 16 {
				if m != nil || e != api.ErrPart {
					t.Errorf("%d parts: %v, %d", count, m, e)
				}
				continue
			}
			if m == nil || e != api.OK || m.Parts() != count {
				t.Errorf("%d parts: %v, %d", count, m, e)
			}
		}
	}
}

// P7.1: none of no sizes, whether nil or empty.
func TestNewOfNone(t *testing.T) {
	for _, sizes := range [][]int{nil, {}, []int{1, 1}[:0]} {
		if m, e := New(flash.New(8, 1), sizes...); m != nil || e != api.ErrPart {
			t.Errorf("New of none: %v, %d", m, e)
		}
	}
}

// P7.1: a size below 1, at whichever place, be there room or not.
func TestNewSizeBelowOne(t *testing.T) {
	for count := 1; count <= 16; count++ {
		for place := range count {
			for _, low := range []int{0, -1, -2, -64, math.MinInt32, math.MinInt + 1, math.MinInt} {
				for _, size := range []int{1, 2, 256, 300} {
					sizes := times(count, size)
					sizes[place] = low
					if m, e := New(flash.New(4096, 1), sizes...); m != nil || e != api.ErrPart {
						t.Errorf("New(%v) = %v, %d", sizes, m, e)
					}
				}
			}
		}
	}
}

// P7.1: as many sectors as the device has, and not one more.
func TestNewRoom(t *testing.T) {
	for _, c := range []struct {
		sectors int
		sizes   []int
		ok      bool
	}{
		{1, []int{1}, true},
		{1, []int{2}, false},
		{1, []int{1, 1}, false},
		{5, []int{5}, true},
		{5, []int{4}, true},
		{5, []int{6}, false},
		{5, []int{2, 3}, true},
		{5, []int{3, 2}, true},
		{5, []int{2, 2}, true},
		{5, []int{3, 3}, false},
		{5, []int{2, 4}, false},
		{5, []int{5, 1}, false},
		{5, []int{1, 5}, false},
		{5, []int{6, 1}, false},
		{16, times(16, 1), true},
		{15, times(16, 1), false},
		{15, times(15, 1), true},
		{4096, times(16, 256), true},
		{4095, times(16, 256), false},
		{4096, []int{4096}, true},
		{4096, []int{4097}, false},
		{4096, []int{1, 4095}, true},
		{4096, []int{1, 4096}, false},
		{5000, []int{4096}, true},
		{5000, []int{5000}, false},
	} {
		m, e := New(flash.New(c.sectors, 1), c.sizes...)
		if c.ok != (m != nil) || c.ok != (e == api.OK) || !c.ok && e != api.ErrPart {
			t.Errorf("%d sectors, New(%v) = %v, %d", c.sectors, c.sizes, m, e)
		}
	}
}

// P7.1: far more than there are, also where adding up would pass the greatest number and come back.
func TestNewFarTooMuch(t *testing.T) {
	for _, sizes := range [][]int{
		{math.MaxInt}, {math.MaxInt - 1}, {1 << 32}, {1<<32 + 1}, {1<<62 + 1},
		{math.MaxInt, 1}, {1, math.MaxInt}, {1, math.MaxInt, 1},
		{math.MaxInt, math.MaxInt}, {math.MaxInt, math.MaxInt, 1}, {math.MaxInt, math.MaxInt, 2}, {math.MaxInt, math.MaxInt, 3}, {math.MaxInt, math.MaxInt, 6},
		{2, math.MaxInt, math.MaxInt}, {3, math.MaxInt, math.MaxInt, 1},
		{1 << 62, 1 << 62}, {1 << 62, 1 << 62, 1 << 62, 1 << 62}, {1 << 62, 1 << 62, 1 << 62, 1 << 62, 1}, {1, 1 << 62, 1 << 62, 1 << 62, 1 << 62},
		times(16, 1<<60), times(16, 1<<32), times(16, math.MaxInt),
		{1 << 31, 1 << 31}, {1 << 31, 1 << 31, 1},
	} {
		for _, sectors := range []int{0, 1, 8, 4096} {
			if m, e := New(flash.New(sectors, 1), sizes...); m != nil || e != api.ErrPart {
				t.Errorf("%d sectors, New(%v) = %v, %d", sectors, sizes, m, e)
			}
		}
	}
}

// P7.1: of a device without sectors there are no parts.
func TestNewWithoutSectors(t *testing.T) {
	for _, sizes := range [][]int{nil, {0}, {1}, {-1}, {0, 0}, times(16, 1), times(17, 1)} {
		for _, sectors := range []int{0, -1} {
			if m, e := New(flash.New(sectors, 1), sizes...); m != nil || e != api.ErrPart {
				t.Errorf("New(%v) = %v, %d", sizes, m, e)
			}
		}
	}
}

// P7.1: a Map is made of a device as it is: nothing is done to it, also while it is down.
func TestNewDoesNothing(t *testing.T) {
	d := flash.New(3, 1)
	want(t, "Program", d.Program(1, rising(1)), api.OK)
	d.Budget(0)
	want(t, "Sync", d.Sync(), api.ErrPower)
	m := made(t, d, 1, 2)
	if !d.Down() || d.Waiting() != 1 || d.Wear(1) != 0 {
		t.Error("New changed the device")
	}
	wantSector(t, m, 1, 0, rising(1))
	wantOps(t, m)
}

// P7.1: how many sectors each part has; none where there is no part.
func TestPartsAndSize(t *testing.T) {
	for _, sizes := range [][]int{{1}, {4}, {1, 1}, {2, 3}, {3, 1, 2}, {1, 2, 3, 4, 5, 6, 7, 8, 9, 10, 11, 12, 13, 14, 15, 16}} {
		m := made(t, flash.New(200, 1), sizes...)
		if m.Parts() != len(sizes) {
			t.Errorf("%v: Parts %d", sizes, m.Parts())
		}
		for part, size := range sizes {
			if m.Size(part) != size {
				t.Errorf("%v: Size(%d) = %d", sizes, part, m.Size(part))
			}
		}
		for _, part := range outside(len(sizes)) {
			if m.Size(part) != 0 {
				t.Errorf("%v: Size(%d) = %d", sizes, part, m.Size(part))
			}
		}
	}
}

// Rules: the sizes aren't changed, spare room included, and not kept.
func TestSizesAreNotKept(t *testing.T) {
	whole := []int{2, 3, 9, 9}
	m := made(t, flash.New(8, 1), whole[:2]...)
	if !slices.Equal(whole, []int{2, 3, 9, 9}) {
		t.Errorf("what was handed in is %v", whole)
	}
	for i := range whole {
		whole[i] = 1
	}
	if m.Parts() != 2 || m.Size(0) != 2 || m.Size(1) != 3 {
		t.Errorf("Parts %d, of %d and %d", m.Parts(), m.Size(0), m.Size(1))
	}
	want(t, "Program", m.Program(1, 2, rising(1)), api.OK)
	if s, _ := m.Device().Read(4); s != rising(1) {
		t.Error("it isn't sector 4")
	}
}

// P7.1: the device is the one that was handed in.
func TestDevice(t *testing.T) {
	a, b := flash.New(4, 1), flash.New(4, 1)
	m, n := made(t, a, 4), made(t, b, 2, 2)
	if m.Device() != a || n.Device() != b {
		t.Error("another device")
	}
	want(t, "Program", m.Program(0, 0, rising(1)), api.OK)
	if m.Device() != a {
		t.Error("another device behind a Program")
	}
}

// P7.1: for whom it was done is told when it changes; 0 the first time.
func TestAs(t *testing.T) {
	m := made(t, flash.New(4, 1), 4)
	was := 0
	for _, by := range []int{7, 7, 0, -1, math.MinInt, math.MaxInt, 1, 0} {
		if got := m.As(by); got != was {
			t.Errorf("As(%d) = %d, want %d", by, got, was)
		}
		was = by
	}
	wantOps(t, m)
}

// P7.1: neither Ops, nor a call with an error, nor a Restart changes for whom it is done.
func TestAsStays(t *testing.T) {
	m := made(t, flash.New(4, 1), 4)
	m.As(9)
	want(t, "Program", m.Program(0, 0, rising(1)), api.OK)
	m.Ops()
	want(t, "Program", m.Program(0, 0, rising(1)), api.ErrDirty)
	want(t, "Sync", m.Sync(), api.OK)
	m.Device().Restart(nil)
	want(t, "Program", m.Program(0, 1, rising(1)), api.OK)
	wantOps(t, m, api.Op{Kind: api.OpProgram, At: 1, By: 9})
	if m.As(0) != 9 {
		t.Error("it was for another one")
	}
}

// P7.1: operations are told once.
func TestOpsAreToldOnce(t *testing.T) {
	m := made(t, flash.New(4, 3), 2, 2)
	wantOps(t, m)
	wantOps(t, m)
	want(t, "Program", m.Program(1, 0, rising(1)), api.OK)
	want(t, "Erase", m.Erase(0, 1), api.OK)
	wantOps(t, m, api.Op{Kind: api.OpProgram, Part: 1}, api.Op{Kind: api.OpErase, At: 1})
	wantOps(t, m)
	want(t, "Erase", m.Erase(1, 1), api.OK)
	wantOps(t, m, api.Op{Kind: api.OpErase, Part: 1, At: 1})
	wantOps(t, m)
}

// P7.1: operations stay till they are told, be they kept or lost.
func TestOpsStay(t *testing.T) {
	m := made(t, flash.New(4, 3), 2, 2)
	want(t, "Program", m.Program(1, 0, rising(1)), api.OK)
	want(t, "Sync", m.Sync(), api.OK)
	want(t, "Program", m.Program(1, 1, rising(2)), api.OK)
	dropped(t, m)
	m.Device().Restart(nil)
	wantSector(t, m, 1, 1, flash.Blank())
	wantOps(t, m, api.Op{Kind: api.OpProgram, Part: 1}, api.Op{Kind: api.OpProgram, Part: 1, At: 1})
}

// P7.1: many operations, all of them, in order.
func TestManyOps(t *testing.T) {
	m := made(t, flash.New(4, 100000), 1, 3)
	var ops []api.Op
	for n := range 5000 {
		m.As(n)
		want(t, "Erase", m.Erase(1, n%3), api.OK)
		ops = append(ops, api.Op{Kind: 1, Part: 1, At: n % 3, By: n})
	}
	wantOps(t, m, ops...)
	wantOps(t, m)
}

// Rules: operations that were told are new memory, spare room too: what is done later doesn't come into it, nor is it told what was written there.
func TestOpsAreTheirOwn(t *testing.T) {
	m := made(t, flash.New(4, 100), 2, 2)
	for range 5 {
		want(t, "Erase", m.Erase(0, 0), api.OK)
	}
	told := m.Ops()
	before := slices.Clone(told[:cap(told)])
	for range 8 {
		want(t, "Erase", m.Erase(1, 1), api.OK)
	}
	if !slices.Equal(told[:cap(told)], before) {
		t.Error("what was told has changed")
	}
	for i := range told[:cap(told)] {
		told[:cap(told)][i] = api.Op{Kind: 9}
	}
	wantOps(t, m, slices.Repeat([]api.Op{{Kind: api.OpErase, Part: 1, At: 1}}, 8)...)
}

// P7.1: the kinds of operations are numbered from 1 on.
func TestKinds(t *testing.T) {
	m := made(t, flash.New(1, 1), 1)
	want(t, "Erase", m.Erase(0, 0), api.OK)
	want(t, "Program", m.Program(0, 0, rising(1)), api.OK)
	wantOps(t, m, api.Op{Kind: 1}, api.Op{Kind: 2})
}

// P7.2: no such part, ahead of no such place, whatever state the device is in; nothing has changed.
func TestNoSuchPart(t *testing.T) {
	for _, down := range []bool{false, true} {
		m := filled(t, 3, 2, 1, 3)
		if down {
			dropped(t, m)
		}
		for _, part := range outside(3) {
			for _, at := range []int{0, 1, 5, -1, 6, math.MinInt, math.MaxInt} {
				wantStays(t, "a call of no part", m, func() {
					if s, e := m.Read(part, at); s != (api.Sector{}) || e != api.ErrPart {
						t.Errorf("Read(%d, %d) = %v, %d", part, at, s, e)
					}
					want(t, "Erase", m.Erase(part, at), api.ErrPart)
					want(t, "Program", m.Program(part, at, rising(1)), api.ErrPart)
				})
			}
		}
	}
}

// P7.2: no such sector of a part, though the device has one there; ahead of the device's own errors.
func TestNoSuchPlace(t *testing.T) {
	for _, down := range []bool{false, true} {
		m := filled(t, 0, 2, 1, 3)
		if down {
			dropped(t, m)
		}
		for part := range 3 {
			for _, at := range outside(m.Size(part)) {
				wantStays(t, "a call of no place", m, func() {
					if s, e := m.Read(part, at); s != (api.Sector{}) || e != api.ErrPlace {
						t.Errorf("Read(%d, %d) = %v, %d", part, at, s, e)
					}
					want(t, "Erase", m.Erase(part, at), api.ErrPlace)
					want(t, "Program", m.Program(part, at, rising(1)), api.ErrPlace)
				})
			}
		}
	}
}

// P7.2: sectors of the device that no part has aren't reached.
func TestBehindTheLastPart(t *testing.T) {
	d := flash.New(4, 1)
	m := made(t, d, 1, 2)
	want(t, "Program", d.Program(3, rising(1)), api.OK)
	wantStays(t, "a call behind the last part", m, func() {
		_, e := m.Read(1, 2)
		want(t, "Read", e, api.ErrPlace)
		want(t, "Erase", m.Erase(1, 2), api.ErrPlace)
		want(t, "Program", m.Program(1, 2, rising(2)), api.ErrPlace)
		want(t, "Erase", m.Erase(2, 0), api.ErrPart)
		want(t, "Wipe", m.Wipe(0), api.OK)
		want(t, "Wipe", m.Wipe(1), api.OK)
		if len(m.All(1)) != 128 {
			t.Errorf("All: %d bytes", len(m.All(1)))
		}
	})
}

// P7.2: the chapter's example.
func TestExample(t *testing.T) {
	d := flash.New(5, 1)
	m := made(t, d, 2, 3)
	want(t, "Program", m.Program(1, 1, rising(1)), api.OK)
	for at := range 5 {
		s, _ := d.Read(at)
		if (s == rising(1)) != (at == 3) {
			t.Errorf("sector %d is %v", at, s)
		}
	}
	want(t, "Erase", m.Erase(1, 1), api.OK)
	if d.Wear(3) != 1 {
		t.Errorf("Wear %d", d.Wear(3))
	}
}

// P7.2: each sector of each part is one of the device, in order; what is done to it changes no other one.
func TestSectorsInOrder(t *testing.T) {
	sizes := []int{3, 1, 4, 2}
	place := 0
	for part, size := range sizes {
		for at := range size {
			m := filled(t, 1, sizes...)
			d := m.Device()
			if s, _ := d.Read(place); s != mark(part, at) {
				t.Errorf("sector %d isn't %d of part %d", place, at, part)
			}
			before := content(d)
			want(t, "Erase", m.Erase(part, at), api.OK)
			want(t, "Program", m.Program(part, at, rising(200)), api.OK)
			s := rising(200)
			copy(before[place*64:], s[:])
			if !bytes.Equal(content(d), before) {
				t.Errorf("%d of part %d: the device is %v", at, part, content(d))
			}
			for k := range d.Size() {
				if (d.Wear(k) == 1) != (k == place) {
					t.Errorf("%d of part %d: Wear(%d) = %d", at, part, k, d.Wear(k))
				}
			}
			place++
		}
	}
}

// P7.2: 16 parts, of the last of which the last sector is the device's last.
func TestLastOfSixteen(t *testing.T) {
	d := flash.New(4096, 1)
	m := made(t, d, times(16, 256)...)
	want(t, "Program", m.Program(15, 255, rising(1)), api.OK)
	if s, _ := d.Read(4095); s != rising(1) {
		t.Error("it isn't the last one")
	}
	want(t, "Program", m.Program(15, 256, rising(1)), api.ErrPlace)
	want(t, "Program", m.Program(16, 0, rising(1)), api.ErrPart)
}

// P7.2: the device's errors are handed on, and leave no operation.
func TestErrorsOfTheDevice(t *testing.T) {
	m := filled(t, 1, 2, 2)
	wantStays(t, "Program of a dirty one", m, func() {
		want(t, "Program", m.Program(1, 0, rising(9)), api.ErrDirty)
	})
	want(t, "Erase", m.Erase(1, 0), api.OK)
	m.Ops()
	wantStays(t, "Erase of a worn one", m, func() {
		want(t, "Erase", m.Erase(1, 0), api.ErrWorn)
	})
	dropped(t, m)
	wantStays(t, "a call while it is down", m, func() {
		want(t, "Erase", m.Erase(1, 1), api.ErrPower)
		want(t, "Erase of a worn one", m.Erase(1, 0), api.ErrPower)
		want(t, "Program", m.Program(1, 0, rising(9)), api.ErrPower)
		want(t, "Sync", m.Sync(), api.ErrPower)
	})
	wantSector(t, m, 1, 0, flash.Blank())
	wantSector(t, m, 1, 1, mark(1, 1))
}

// P7.2: the call at which the power ends leaves no operation either.
func TestPowerEndsAtACall(t *testing.T) {
	for name, call := range map[string]func(m *Map) api.Errno{
		"Erase":   func(m *Map) api.Errno { return m.Erase(1, 0) },
		"Program": func(m *Map) api.Errno { return m.Program(1, 1, rising(1)) },
		"Wipe":    func(m *Map) api.Errno { return m.Wipe(1) },
		"Sync":    func(m *Map) api.Errno { return m.Sync() },
	} {
		m := made(t, flash.New(4, 3), 1, 3)
		want(t, "Program", m.Program(1, 0, rising(1)), api.OK)
		m.Ops()
		before := content(m.Device())
		m.Device().Budget(0)
		want(t, name, call(m), api.ErrPower)
		if !m.Device().Down() || !bytes.Equal(content(m.Device()), before) {
			t.Errorf("%s: it isn't down, or has changed", name)
		}
		wantOps(t, m)
	}
}

// P7.2: each operation by its kind, its part, its place, and for whom it was done, in order; what is none leaves none.
func TestOpsInOrder(t *testing.T) {
	m := made(t, flash.New(6, 1), 1, 2, 3)
	want(t, "Program", m.Program(2, 2, rising(1)), api.OK)
	m.As(3)
	want(t, "Erase", m.Erase(0, 0), api.OK)
	want(t, "Erase of a worn one", m.Erase(0, 0), api.ErrWorn)
	m.As(-8)
	m.As(4)
	want(t, "Program of a dirty one", m.Program(2, 2, rising(1)), api.ErrDirty)
	want(t, "Program", m.Program(1, 1, flash.Blank()), api.OK)
	want(t, "Program", m.Program(1, 1, rising(2)), api.OK)
	want(t, "Sync", m.Sync(), api.OK)
	m.Read(1, 1)
	m.All(1)
	m.As(-1)
	want(t, "Erase", m.Erase(2, 2), api.OK)
	m.As(math.MaxInt)
	wantOps(t, m,
		api.Op{Kind: api.OpProgram, Part: 2, At: 2, By: 0},
		api.Op{Kind: api.OpErase, Part: 0, At: 0, By: 3},
		api.Op{Kind: api.OpProgram, Part: 1, At: 1, By: 4},
		api.Op{Kind: api.OpProgram, Part: 1, At: 1, By: 4},
		api.Op{Kind: api.OpErase, Part: 2, At: 2, By: -1},
	)
}

// P7.2: what was done is kept by Sync, of all parts; lost without it.
func TestSync(t *testing.T) {
	m := made(t, flash.New(4, 1), 2, 2)
	want(t, "Program", m.Program(0, 1, rising(1)), api.OK)
	want(t, "Program", m.Program(1, 0, rising(2)), api.OK)
	want(t, "Sync", m.Sync(), api.OK)
	if m.Device().Waiting() != 0 {
		t.Errorf("Waiting %d", m.Device().Waiting())
	}
	want(t, "Program", m.Program(1, 1, rising(3)), api.OK)
	dropped(t, m)
	want(t, "Sync", m.Sync(), api.ErrPower)
	if m.Device().Waiting() != 1 {
		t.Errorf("Waiting %d", m.Device().Waiting())
	}
	m.Device().Restart(nil)
	wantSector(t, m, 0, 1, rising(1))
	wantSector(t, m, 1, 0, rising(2))
	wantSector(t, m, 1, 1, flash.Blank())
	want(t, "Sync", m.Sync(), api.OK)
}

// P7.2: a Sync is one step.
func TestSyncIsAStep(t *testing.T) {
	m := made(t, flash.New(1, 1), 1)
	m.Device().Budget(1)
	want(t, "Sync", m.Sync(), api.OK)
	want(t, "Sync", m.Sync(), api.ErrPower)
	wantOps(t, m)
}
