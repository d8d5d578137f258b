package table

import (
	"bytes"
	"encoding/binary"
	"hash/crc32"
	"math"
	"math/rand/v2"
	"slices"
	"testing"

	"bootjack/api"
	"bootjack/flash"
	"bootjack/part"
)

// row: a Digest of which no two bytes are the same.
func row() api.Hash {
	var h api.Hash
	for i := range h {
		h[i] = byte(100 + i)
	}
	return h
}

// rightSlots: some that can be, of each Status, at the limits and between.
func rightSlots() []api.Slot {
	return []api.Slot{
		{}, {Status: 1}, {Status: 4},
		{Status: 3, Version: 1, Size: 1},
		{Status: 3, Version: 1 << 48, Size: 65536, Digest: row()},
		{Status: 2, Version: 7, Size: 100},
		{Status: 2, Tries: 7, Version: 0x010203040506, Size: 0xabcd, Digest: row()},
	}
}

// wrongSlots: some that can't be, each by one field; of some its lowest bits alone would do.
func wrongSlots() []api.Slot {
	return []api.Slot{
		{Status: -1}, {Status: 5}, {Status: 255}, {Status: 256}, {Status: 1<<32 + 1}, {Status: math.MinInt}, {Status: math.MaxInt},
		{Tries: 1}, {Version: 1}, {Size: 1}, {Digest: api.Hash{31: 1}},
		{Status: 1, Tries: -1}, {Status: 1, Version: 1 << 48}, {Status: 4, Size: 100}, {Status: 4, Digest: api.Hash{1}},
		{Status: 2}, {Status: 2, Tries: 3}, {Status: 2, Tries: 8, Version: 1, Size: 1}, {Status: 2, Tries: -1, Version: 1, Size: 1},
		{Status: 2, Tries: 256, Version: 1, Size: 1}, {Status: 3, Tries: 1, Version: 1, Size: 1}, {Status: 3},
		{Status: 3, Size: 1}, {Status: 3, Version: 1<<48 + 1, Size: 1}, {Status: 3, Version: math.MaxUint64, Size: 1},
		{Status: 3, Version: 1}, {Status: 3, Version: 1, Size: -1}, {Status: 3, Version: 1, Size: 65537}, {Status: 3, Version: 1, Size: 1<<32 + 1},
	}
}

// good: a slot that is so, of that version.
func good(version uint64) api.Slot {
	return api.Slot{Status: 3, Version: version, Size: 64, Digest: row()}
}

// ready: likewise, with so many tries.
func ready(version uint64, tries int) api.Slot {
	return api.Slot{Status: 2, Tries: tries, Version: version, Size: 65, Digest: row()}
}

// someInts: what Active, Booted, Slot and N may be, and others, of some of which the lowest bits alone would do.
func someInts() []int {
	return []int{math.MinInt, math.MinInt + 1, -1 << 32, -257, -256, -255, -3, -2, -1, 0, 1, 2, 3, 254, 255, 256, 257, 1 << 32, 1<<32 + 1, math.MaxInt - 1, math.MaxInt}
}

// someFloors: likewise of a Floor.
func someFloors() []uint64 {
	return []uint64{0, 1, 255, 256, 1<<48 - 1, 1 << 48, 1<<48 + 1, 1 << 49, 1 << 56, 1 << 63, math.MaxUint64 - 1, math.MaxUint64}
}

// fewTables: some that can be.
func fewTables() []api.Table {
	return []api.Table{
		{},
		{Booted: -1},
		{Active: 1, Booted: 1, Floor: 1 << 48},
		{Slots: [2]api.Slot{good(3), {}}, Active: 1, Booted: -1, Floor: 258},
		{Slots: [2]api.Slot{{Status: 4}, good(1 << 48)}, Active: 1, Booted: 1, Floor: 0x0102030405},
		{Slots: [2]api.Slot{ready(9, 7), {Status: 1}}, Booted: 1, Floor: 8},
		{Slots: [2]api.Slot{ready(9, 0), good(8)}, Active: 1, Floor: 1},
	}
}

// wrongTables: of each of the few each field by itself beside what it may be.
func wrongTables() []api.Table {
	var all []api.Table
	for _, t := range someTables() {
		if !plainRight(t) {
			all = append(all, t)
		}
	}
	return all
}

// someTables: of each of the few each field by itself at and beside its limits.
func someTables() []api.Table {
	var all []api.Table
	for _, base := range fewTables() {
		with := func(change func(t *api.Table)) {
			t := base
			change(&t)
			all = append(all, t)
		}
		for _, s := range append(rightSlots(), wrongSlots()...) {
			with(func(t *api.Table) { t.Slots[0] = s })
			with(func(t *api.Table) { t.Slots[1] = s })
		}
		for _, n := range someInts() {
			with(func(t *api.Table) { t.Active = n })
			with(func(t *api.Table) { t.Booted = n })
		}
		for _, v := range someFloors() {
			with(func(t *api.Table) { t.Floor = v })
		}
	}
	return all
}

// Changes of each kind.
func setSlot(i int, to api.Slot) api.Change { return api.Change{Kind: 1, Slot: i, To: to} }
func setActive(n int) api.Change            { return api.Change{Kind: 2, N: n} }
func setBooted(n int) api.Change            { return api.Change{Kind: 3, N: n} }
func setFloor(v uint64) api.Change          { return api.Change{Kind: 4, Version: v} }

// rightChanges: those that can be, of each kind, at the limits and between.
func rightChanges() []api.Change {
	all := []api.Change{setActive(0), setActive(1), setBooted(-1), setBooted(0), setBooted(1)}
	for _, s := range rightSlots() {
		all = append(all, setSlot(0, s), setSlot(1, s))
	}
	for _, v := range someFloors()[:6] {
		all = append(all, setFloor(v))
	}
	return all
}

// someChanges: of each kind, also of such as there are not, with each field at and beside its limits, those that it has and those that it hasn't.
func someChanges() []api.Change {
	var all []api.Change
	for _, kind := range []int{math.MinInt, -4, -1, 0, 1, 2, 3, 4, 5, 255, 256, 257, 260, 1<<32 + 2, math.MaxInt} {
		for _, slot := range []int{math.MinInt, -1, 0, 1, 2, 256, 1<<32 + 1, math.MaxInt} {
			for _, n := range []int{math.MinInt, -2, -1, 0, 1, 2, 255, 256, 1 << 32, math.MaxInt} {
				for _, to := range []api.Slot{{}, {Status: 1}, good(5), {Status: 5}, {Status: 3, Version: 1}} {
					for _, version := range []uint64{0, 1, 1 << 48, 1<<48 + 1, math.MaxUint64} {
						all = append(all, api.Change{Kind: kind, Slot: slot, N: n, To: to, Version: version})
					}
				}
			}
		}
	}
	return all
}

// wrongChanges: some that can't be, each by one field.
func wrongChanges() []api.Change {
	all := []api.Change{
		{}, {Kind: 5}, {Kind: -1}, {Kind: 256}, {Kind: 257}, {Kind: math.MinInt}, {Kind: math.MaxInt},
		setSlot(-1, good(1)), setSlot(2, good(1)), setSlot(256, good(1)), setSlot(math.MinInt, good(1)),
		{Kind: 1, N: 1}, {Kind: 1, N: -1}, {Kind: 1, Version: 1},
		setActive(-1), setActive(2), setActive(256), {Kind: 2, Slot: 1}, {Kind: 2, To: api.Slot{Status: 1}}, {Kind: 2, Version: 1},
		setBooted(-2), setBooted(2), setBooted(255), {Kind: 3, Slot: -1}, {Kind: 3, To: good(1)}, {Kind: 3, Version: 1},
		setFloor(1<<48 + 1), setFloor(math.MaxUint64), {Kind: 4, Slot: 1}, {Kind: 4, N: 1}, {Kind: 4, To: api.Slot{Digest: api.Hash{1}}},
	}
	for _, s := range wrongSlots() {
		all = append(all, setSlot(0, s))
	}
	return all
}

// plainSlot: layer 10's words once more, field by field.
func plainSlot(s api.Slot) bool {
	nothing := s.Tries == 0 && s.Version == 0 && s.Size == 0
	for _, c := range s.Digest {
		nothing = nothing && c == 0
	}
	image := s.Version-1 < 281474976710656 && uint64(s.Size)-1 < 65536
	return (s.Status == 0 || s.Status == 1 || s.Status == 4) && nothing ||
		s.Status == 2 && uint64(s.Tries) < 8 && image ||
		s.Status == 3 && s.Tries == 0 && image
}

// plainRight: the chapter's words once more.
func plainRight(t api.Table) bool {
	return plainSlot(t.Slots[0]) && plainSlot(t.Slots[1]) && uint64(t.Active) < 2 && uint64(t.Booted)+1 < 3 && t.Floor < 281474976710657
}

// plainChange: likewise of a change, kind by kind.
func plainChange(c api.Change) bool {
	slot, n, to, version := c.Slot == 0, c.N == 0, c.To == api.Slot{}, c.Version == 0
	return c.Kind == 1 && (slot || c.Slot == 1) && n && plainSlot(c.To) && version ||
		c.Kind == 2 && slot && (n || c.N == 1) && to && version ||
		c.Kind == 3 && slot && (n || c.N == 1 || c.N == -1) && to && version ||
		c.Kind == 4 && slot && n && to && c.Version < 281474976710657
}

func plainTransaction(l []api.Change) bool {
	return len(l) <= 8 && !slices.ContainsFunc(l, func(c api.Change) bool { return !plainChange(c) })
}

// plainApply: each field as the last change that has it says, and Floors that rise.
func plainApply(t api.Table, l []api.Change) (api.Table, api.Errno) {
	if !plainRight(t) || !plainTransaction(l) {
		return api.Table{}, 111
	}
	floors := []uint64{t.Floor}
	for _, c := range l {
		if c.Kind == 4 {
			floors = append(floors, c.Version)
		}
	}
	if !slices.IsSorted(floors) {
		return api.Table{}, 111
	}
	last := func(kind, slot int) (api.Change, bool) {
		for i := len(l) - 1; i >= 0; i-- {
			if l[i].Kind == kind && l[i].Slot == slot {
				return l[i], true
			}
		}
		return api.Change{}, false
	}
	for i := range 2 {
		if c, ok := last(1, i); ok {
			t.Slots[i] = c.To
		}
	}
	if c, ok := last(2, 0); ok {
		t.Active = c.N
	}
	if c, ok := last(3, 0); ok {
		t.Booted = c.N
	}
	t.Floor = floors[len(floors)-1]
	return t, 0
}

// slotBytes: layer 10's Bytes, of a slot that can be.
func slotBytes(s api.Slot) []byte {
	b := []byte{byte(s.Status), byte(s.Tries)}
	b = binary.LittleEndian.AppendUint64(b, s.Version)
	b = binary.LittleEndian.AppendUint32(b, uint32(s.Size))
	return append(b, s.Digest[:]...)
}

// plainBytes: of any table, none of one that can't be.
func plainBytes(t api.Table) []byte {
	if !plainRight(t) {
		return nil
	}
	return looseBytes(t)
}

// looseBytes: where each field would stand, of what can't be too.
func looseBytes(t api.Table) []byte {
	b := append(slotBytes(t.Slots[0]), slotBytes(t.Slots[1])...)
	b = append(b, byte(t.Active), byte(t.Booted+1))
	return binary.LittleEndian.AppendUint64(b, t.Floor)
}

// plainParse: what 102 bytes say, if that can be.
func plainParse(b []byte) (api.Table, api.Errno) {
	if len(b) != 102 {
		return api.Table{}, 111
	}
	t := api.Table{Active: int(b[92]), Booted: int(b[93]) - 1, Floor: binary.LittleEndian.Uint64(b[94:])}
	t.Slots[0], t.Slots[1] = slotAt(b), slotAt(b[46:])
	if !plainRight(t) {
		return api.Table{}, 111
	}
	return t, 0
}

// slotAt: what 46 bytes say, whether it can be or not.
func slotAt(b []byte) api.Slot {
	return api.Slot{
		Status:  int(b[0]),
		Tries:   int(b[1]),
		Version: binary.LittleEndian.Uint64(b[2:]),
		Size:    int(binary.LittleEndian.Uint32(b[10:])),
		Digest:  api.Hash(b[14:46]),
	}
}

// plainPut: of any changes, none of what is no transaction.
func plainPut(l []api.Change) []byte {
	if !plainTransaction(l) {
		return nil
	}
	return loosePut(len(l), l...)
}

// loosePut: with a count of its own, of what is no transaction too.
func loosePut(count int, l ...api.Change) []byte {
	b := []byte{byte(count)}
	for _, c := range l {
		b = append(b, byte(c.Kind))
		switch c.Kind {
		case 1:
			b = append(append(b, byte(c.Slot)), slotBytes(c.To)...)
		case 2:
			b = append(b, byte(c.N))
		case 3:
			b = append(b, byte(c.N+1))
		case 4:
			b = binary.LittleEndian.AppendUint64(b, c.Version)
		}
	}
	return b
}

// plainGet: change by change, each by how long its kind is.
func plainGet(b []byte) ([]api.Change, api.Errno) {
	if len(b) == 0 || b[0] > 8 {
		return nil, 111
	}
	var l []api.Change
	count, b := int(b[0]), b[1:]
	for range count {
		if len(b) == 0 || b[0] < 1 || b[0] > 4 {
			return nil, 111
		}
		c, size := api.Change{Kind: int(b[0])}, []int{48, 2, 2, 9}[b[0]-1]
		if len(b) < size {
			return nil, 111
		}
		switch c.Kind {
		case 1:
			c.Slot, c.To = int(b[1]), slotAt(b[2:])
		case 2:
			c.N = int(b[1])
		case 3:
			c.N = int(b[1]) - 1
		case 4:
			c.Version = binary.LittleEndian.Uint64(b[1:])
		}
		if !plainChange(c) {
			return nil, 111
		}
		l, b = append(l, c), b[size:]
	}
	if len(b) > 0 {
		return nil, 111
	}
	return l, 0
}

// frameOf: the sectors of a frame as layer 8's promise has them, by no call of the project.
func frameOf(kind byte, seq uint64, body []byte) []api.Sector {
	row := []byte{'B', 'J', kind}
	row = binary.LittleEndian.AppendUint64(row, seq)
	row = binary.LittleEndian.AppendUint16(row, uint16(len(body)))
	row = append(row, body...)
	row = binary.LittleEndian.AppendUint32(row, crc32.ChecksumIEEE(row))
	for len(row)%63 != 0 {
		row = append(row, 255)
	}
	var l []api.Sector
	for at := 0; at < len(row); at += 63 {
		l = append(l, api.Sector(append(slices.Clone(row[at:at+63]), 0)))
	}
	return l
}

// baseOf: a base, and what was appended to it.
func baseOf(seq uint64, bodies ...[]byte) []api.Sector {
	var l []api.Sector
	for i, body := range bodies {
		kind := byte(2)
		if i == 0 {
			kind = 1
		}
		l = append(l, frameOf(kind, seq+uint64(i), body)...)
	}
	return l
}

// made: a Map of such parts, on a device that has no more than these.
func made(t *testing.T, sizes ...int) *part.Map { return worn(t, 1000, sizes...) }

// worn: likewise, of which each sector may be erased so often.
func worn(t *testing.T, wear int, sizes ...int) *part.Map {
	t.Helper()
	total := 0
	for _, size := range sizes {
		total += size
	}
	m, e := part.New(flash.New(total, wear), sizes...)
	if e != api.OK {
		t.Fatalf("parts of %v: %d", sizes, e)
	}
	return m
}

// lay: sectors stand in a part from a place on, and are kept; no operation of it is told any more.
func lay(t *testing.T, m *part.Map, bank, at int, sectors []api.Sector) {
	t.Helper()
	for i, s := range sectors {
		want(t, "lay", m.Program(bank, at+i, s), api.OK)
	}
	want(t, "lay", m.Sync(), api.OK)
	m.Ops()
}

// want: the error that a call should have told.
func want(t *testing.T, what string, got, e api.Errno) {
	t.Helper()
	if got != e {
		t.Errorf("%s: %d, want %d", what, got, e)
	}
}

// wantState: what a Store should tell of itself.
func wantState(t *testing.T, what string, s *Store, table api.Table, left int) {
	t.Helper()
	if s.Table() != table || s.Left() != left {
		t.Errorf("%s: Table %v, Left %d, want %v, %d", what, s.Table(), s.Left(), table, left)
	}
}

// wantOps: what should have been done to a Map since it was asked last.
func wantOps(t *testing.T, what string, m *part.Map, ops []api.Op) {
	t.Helper()
	if got := m.Ops(); !slices.Equal(got, ops) {
		t.Errorf("%s did %v, want %v", what, got, ops)
	}
}

// wantBank: sectors stand at the beginning of a part, and all behind them are blank.
func wantBank(t *testing.T, what string, m *part.Map, bank int, sectors []api.Sector) {
	t.Helper()
	for at := range m.Size(bank) {
		s := flash.Blank()
		if at < len(sectors) {
			s = sectors[at]
		}
		if got, _ := m.Read(bank, at); got != s {
			t.Errorf("%s: sector %d of part %d is %v, want %v", what, at, bank, got, s)
		}
	}
	if len(sectors) > m.Size(bank) {
		t.Errorf("%s: part %d is too small", what, bank)
	}
}

// opened: what Open tells, of the parts a and b; it must be that table, and nothing may be done.
func opened(t *testing.T, what string, m *part.Map, a, b int, first, table api.Table) *Store {
	t.Helper()
	var s *Store
	wantQuiet(t, what+": Open", m, func() {
		var e api.Errno
		s, e = Open(m, a, b, first)
		want(t, what+": Open", e, api.OK)
		wantState(t, what+": Open", s, table, 0)
	})
	return s
}

// wantQuiet: a call that does nothing to the device.
func wantQuiet(t *testing.T, what string, m *part.Map, call func()) {
	t.Helper()
	m.Ops()
	before, waiting, down := content(m), m.Device().Waiting(), m.Device().Down()
	call()
	wantOps(t, what, m, nil)
	if !bytes.Equal(content(m), before) || m.Device().Waiting() != waiting || m.Device().Down() != down {
		t.Errorf("%s changed the device", what)
	}
}

// wantRefused: a Do that changes nothing, of the device or of the Store.
func wantRefused(t *testing.T, what string, m *part.Map, s *Store, e api.Errno, l ...api.Change) {
	t.Helper()
	table, left := s.Table(), s.Left()
	wantQuiet(t, what, m, func() { want(t, what, s.Do(l...), e) })
	wantState(t, what, s, table, left)
}

// content: the bytes of all parts.
func content(m *part.Map) []byte {
	var all []byte
	for k := range m.Parts() {
		all = append(all, m.All(k)...)
	}
	return all
}

// seeded: the same numbers at each run.
func seeded(n uint64) *rand.Rand {
	return rand.New(rand.NewPCG(n, 11))
}

// anySlot: one that can be, of any Status.
func anySlot(r *rand.Rand) api.Slot {
	s := api.Slot{Status: r.IntN(5)}
	if s.Status == 2 || s.Status == 3 {
		s.Version = 1 + r.Uint64N(1<<48)>>r.IntN(48)
		s.Size = 1 + r.IntN(65536)>>r.IntN(16)
		for i := range s.Digest {
			s.Digest[i] = byte(r.Uint32())
		}
	}
	if s.Status == 2 {
		s.Tries = r.IntN(8)
	}
	return s
}

// anyTable: one that can be.
func anyTable(r *rand.Rand) api.Table {
	return api.Table{Slots: [2]api.Slot{anySlot(r), anySlot(r)}, Active: r.IntN(2), Booted: r.IntN(3) - 1, Floor: r.Uint64N(1<<48+1) >> r.IntN(49)}
}

// anyChange: one that can be; its Floor, if it has one, is mostly not below that.
func anyChange(r *rand.Rand, floor uint64) api.Change {
	switch r.IntN(4) {
	case 0:
		return setSlot(r.IntN(2), anySlot(r))
	case 1:
		return setActive(r.IntN(2))
	case 2:
		return setBooted(r.IntN(3) - 1)
	}
	if floor > 0 && r.IntN(8) == 0 {
		return setFloor(floor - 1)
	}
	return setFloor(min(floor+r.Uint64N(3), 1<<48))
}

// anyChanges: at most nine, and now and then one that can't be.
func anyChanges(r *rand.Rand, floor uint64) []api.Change {
	var l []api.Change
	for range r.IntN(10) {
		c := anyChange(r, floor)
		if c.Kind == 4 {
			floor = c.Version
		}
		if r.IntN(100) == 0 {
			c = wrongChanges()[r.IntN(len(wrongChanges()))]
		}
		l = append(l, c)
	}
	return l
}
