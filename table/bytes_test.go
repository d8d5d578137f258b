package table

import (
	"bytes"
	"slices"
	"testing"

	"bootjack/api"
)

// P11.2: of each table that can be its 102 bytes, each where it belongs; of others none.
func TestBytes(t *testing.T) {
	for _, x := range someTables() {
		got := Bytes(x)
		if !bytes.Equal(got, plainBytes(x)) {
			t.Errorf("Bytes(%v) = %v, want %v", x, got, plainBytes(x))
		}
		if plainRight(x) != (len(got) == 102) || !plainRight(x) && len(got) != 0 {
			t.Errorf("Bytes(%v): %d bytes", x, len(got))
		}
	}
}

// P11.2: the bytes written out.
func TestBytesOfKnown(t *testing.T) {
	want := make([]byte, 102)
	want[93] = 1
	wantBytes(t, api.Table{}, want)
	want[93] = 0
	wantBytes(t, api.Table{Booted: -1}, want)
	x := api.Table{Slots: [2]api.Slot{
		{Status: 2, Tries: 7, Version: 0x010203040506, Size: 0xabcd, Digest: row()},
		{Status: 3, Version: 1 << 48, Size: 65536},
	}, Active: 1, Booted: 1, Floor: 0x0a0b0c0d0e0f}
	want = []byte{2, 7, 6, 5, 4, 3, 2, 1, 0, 0, 0xcd, 0xab, 0, 0}
	for i := range 32 {
		want = append(want, byte(100+i))
	}
	want = append(want, 3, 0, 0, 0, 0, 0, 0, 0, 1, 0, 0, 0, 1, 0)
	want = append(want, make([]byte, 32)...)
	want = append(want, 1, 2, 0x0f, 0x0e, 0x0d, 0x0c, 0x0b, 0x0a, 0, 0)
	wantBytes(t, x, want)
	x.Floor, want[94], want[100] = 1<<48, 0, 1
	copy(want[95:100], make([]byte, 5))
	wantBytes(t, x, want)
}

func wantBytes(t *testing.T, x api.Table, b []byte) {
	t.Helper()
	if got := Bytes(x); !bytes.Equal(got, b) {
		t.Errorf("Bytes(%v) = %v, want %v", x, got, b)
	}
	wantParse(t, b, x, api.OK)
}

// wantParse: the table that bytes tell, or ErrTable and a zero one; they aren't changed, spare room included.
func wantParse(t *testing.T, b []byte, want api.Table, e api.Errno) {
	t.Helper()
	room := append(slices.Clone(b), "behind"...)
	got, fault := Parse(room[:len(b)])
	if got != want || fault != e {
		t.Errorf("Parse(%v) = %v, %d, want %v, %d", b, got, fault, want, e)
	}
	if !bytes.Equal(room[:len(b)], b) || string(room[len(b):]) != "behind" {
		t.Errorf("Parse changed %v, or what is behind", b)
	}
}

// P11.2: of what Bytes tells that table; with bytes cut off, or more behind, none.
func TestParse(t *testing.T) {
	for _, x := range fewTables() {
		b := Bytes(x)
		wantParse(t, b, x, api.OK)
		for size := range 102 {
			wantParse(t, b[:size], api.Table{}, api.ErrTable)
			wantParse(t, b[102-size:], api.Table{}, api.ErrTable)
		}
		for _, more := range [][]byte{{0}, {1}, {255}, make([]byte, 46), b} {
			wantParse(t, append(slices.Clone(b), more...), api.Table{}, api.ErrTable)
			wantParse(t, append(slices.Clone(more), b...), api.Table{}, api.ErrTable)
		}
	}
	for _, x := range someTables() {
		if plainRight(x) {
			wantParse(t, Bytes(x), x, api.OK)
		}
	}
	wantParse(t, nil, api.Table{}, api.ErrTable)
	wantParse(t, []byte{}, api.Table{}, api.ErrTable)
}

// P11.2: 102 bytes that are no table's, each by one field.
func TestParseOfOthers(t *testing.T) {
	with := func(b []byte, changes ...byte) []byte {
		b = slices.Clone(b)
		for i := 0; i < len(changes); i += 2 {
			b[changes[i]] = changes[i+1]
		}
		return b
	}
	blank, full := Bytes(api.Table{}), Bytes(api.Table{Slots: [2]api.Slot{good(3), ready(4, 2)}, Active: 1, Booted: 1, Floor: 1 << 48})
	for _, b := range [][]byte{
		with(blank, 92, 2), with(full, 92, 2), with(blank, 92, 255), with(full, 92, 128),
		with(blank, 93, 3), with(full, 93, 3), with(blank, 93, 255), with(full, 93, 4),
		with(full, 94, 1), with(full, 100, 2), with(full, 101, 1), with(blank, 101, 1), with(blank, 101, 128), with(blank, 100, 1, 94, 1),
		with(full, 0, 5), with(full, 0, 0), with(full, 0, 1), with(full, 1, 1), with(full, 2, 0), with(full, 8, 1), with(full, 13, 1), with(blank, 1, 1), with(blank, 45, 1), with(blank, 0, 2),
		with(full, 46, 5), with(full, 46, 4), with(full, 46, 3), with(full, 47, 8), with(full, 48, 0), with(full, 59, 128), with(full, 56, 0), with(blank, 47, 1), with(blank, 91, 1), with(blank, 46, 3),
		make([]byte, 103), bytes.Repeat([]byte{255}, 102), bytes.Repeat([]byte{1}, 102),
	} {
		wantParse(t, b, api.Table{}, api.ErrTable)
	}
	for _, x := range wrongTables() {
		// of some its lowest bits alone are one that can be
		want, e := plainParse(looseBytes(x))
		wantParse(t, looseBytes(x), want, e)
	}
}

// P11.2: each byte of some at each value: the table whose Bytes they are, if there is one.
func TestParseOfEachByte(t *testing.T) {
	for _, x := range fewTables() {
		for at := range 102 {
			for c := range 256 {
				b := Bytes(x)
				b[at] = byte(c)
				want, e := plainParse(b)
				wantParse(t, b, want, e)
				if e == api.OK && !bytes.Equal(Bytes(want), b) {
					t.Errorf("Bytes(%v) aren't %v", want, b)
				}
			}
		}
	}
}

// P11.2: any tables, there and back.
func TestParseOfAny(t *testing.T) {
	r := seeded(2)
	for range 5000 {
		x := anyTable(r)
		if !bytes.Equal(Bytes(x), plainBytes(x)) {
			t.Errorf("Bytes(%v)", x)
		}
		wantParse(t, Bytes(x), x, api.OK)
	}
}

// wantPut: the bytes of changes, which aren't changed, spare room included; and Get is back, if they are a transaction.
func wantPut(t *testing.T, want []byte, l ...api.Change) {
	t.Helper()
	room := append(slices.Clone(l), wrongChanges()[:3]...)
	got := Put(room[:len(l)]...)
	if !bytes.Equal(got, want) {
		t.Errorf("Put of %v: %v, want %v", l, got, want)
	}
	if !slices.Equal(room[:len(l)], l) || !slices.Equal(room[len(l):], wrongChanges()[:3]) {
		t.Errorf("Put changed %v, or what is behind", l)
	}
	if len(want) > 0 {
		wantGet(t, want, api.OK, l...)
	}
}

// wantGet: the changes that bytes tell, or ErrTable and none; the bytes aren't changed, spare room included.
func wantGet(t *testing.T, b []byte, e api.Errno, want ...api.Change) {
	t.Helper()
	room := append(slices.Clone(b), "behind"...)
	got, fault := Get(room[:len(b)])
	if !slices.Equal(got, want) || fault != e {
		t.Errorf("Get(%v) = %v, %d, want %v, %d", b, got, fault, want, e)
	}
	if !bytes.Equal(room[:len(b)], b) || string(room[len(b):]) != "behind" {
		t.Errorf("Get changed %v, or what is behind", b)
	}
}

// P11.2: the bytes written out, of no change and of one of each kind.
func TestPutOfKnown(t *testing.T) {
	slot := []byte{3, 0, 5, 0, 0, 0, 0, 0, 0, 0, 64, 0, 0, 0}
	for i := range 32 {
		slot = append(slot, byte(100+i))
	}
	wantPut(t, []byte{0})
	wantPut(t, append([]byte{1, 1, 0}, slot...), setSlot(0, good(5)))
	wantPut(t, append([]byte{1, 1, 1}, slot...), setSlot(1, good(5)))
	wantPut(t, append([]byte{1, 1, 1}, make([]byte, 46)...), setSlot(1, api.Slot{}))
	wantPut(t, []byte{1, 2, 0}, setActive(0))
	wantPut(t, []byte{1, 2, 1}, setActive(1))
	wantPut(t, []byte{1, 3, 0}, setBooted(-1))
	wantPut(t, []byte{1, 3, 1}, setBooted(0))
	wantPut(t, []byte{1, 3, 2}, setBooted(1))
	wantPut(t, []byte{1, 4, 0, 0, 0, 0, 0, 0, 0, 0}, setFloor(0))
	wantPut(t, []byte{1, 4, 6, 5, 4, 3, 2, 1, 0, 0}, setFloor(0x010203040506))
	wantPut(t, []byte{1, 4, 0, 0, 0, 0, 0, 0, 1, 0}, setFloor(1<<48))
	wantPut(t, []byte{5, 2, 1, 3, 0, 2, 0, 4, 9, 0, 0, 0, 0, 0, 0, 0, 3, 2}, setActive(1), setBooted(-1), setActive(0), setFloor(9), setBooted(1))
	// what is put needn't be such as can be Applied to any table
	wantPut(t, []byte{2, 4, 9, 0, 0, 0, 0, 0, 0, 0, 4, 8, 0, 0, 0, 0, 0, 0, 0}, setFloor(9), setFloor(8))
}

// P11.2: each change by itself, those that can be and those that can't.
func TestPutOfEachChange(t *testing.T) {
	for _, c := range append(someChanges(), rightChanges()...) {
		wantPut(t, plainPut([]api.Change{c}), c)
	}
	for _, c := range wrongChanges() {
		for count := range 8 {
			for at := range count + 1 {
				wantPut(t, nil, slices.Insert(rightChanges()[:count], at, c)...)
			}
		}
	}
}

// P11.2: up to eight changes are put; nine and more are no transaction.
func TestPutOfSoMany(t *testing.T) {
	for count := range 12 {
		for _, c := range rightChanges() {
			l := slices.Repeat([]api.Change{c}, count)
			var want []byte
			if count <= 8 {
				want = loosePut(count, l...)
			}
			wantPut(t, want, l...)
		}
	}
	if b := Put(slices.Repeat([]api.Change{setSlot(1, good(1))}, 8)...); len(b) != 1+8*48 {
		t.Errorf("eight slots are %d bytes", len(b))
	}
	for _, count := range []int{100, 256, 257, 264, 65536 + 3} {
		wantPut(t, nil, slices.Repeat([]api.Change{setActive(1)}, count)...)
	}
}

// fewTransactions: some, of each kind and of several.
func fewTransactions() [][]api.Change {
	return [][]api.Change{
		nil,
		{setSlot(0, good(1<<48))},
		{setSlot(1, api.Slot{Status: 4})},
		{setActive(1)},
		{setBooted(-1)},
		{setFloor(1 << 48)},
		{setActive(0), setBooted(1)},
		{setSlot(1, ready(2, 7)), setActive(1), setBooted(0), setFloor(258)},
		slices.Repeat([]api.Change{setFloor(3)}, 8),
		slices.Repeat([]api.Change{setSlot(0, ready(4, 0)), setBooted(1)}, 4),
	}
}

// P11.2: with bytes cut off, or more behind, it is no transaction.
func TestGetOfMoreAndLess(t *testing.T) {
	for _, l := range fewTransactions() {
		b := loosePut(len(l), l...)
		wantGet(t, b, api.OK, l...)
		for size := range len(b) {
			wantGet(t, b[:size], api.ErrTable)
		}
		for _, more := range [][]byte{{0}, {1}, {2, 1}, {255}, {3, 0}, make([]byte, 48)} {
			wantGet(t, append(slices.Clone(b), more...), api.ErrTable)
		}
	}
	wantGet(t, nil, api.ErrTable)
	wantGet(t, []byte{}, api.ErrTable)
}

// P11.2: another count than there are changes, or one that is too great.
func TestGetOfOtherCounts(t *testing.T) {
	for _, l := range append(fewTransactions(), slices.Repeat([]api.Change{setActive(1)}, 7), slices.Repeat([]api.Change{setActive(1)}, 9)) {
		for count := range 256 {
			b := loosePut(count, l...)
			if count == len(l) && count <= 8 {
				wantGet(t, b, api.OK, l...)
			} else {
				wantGet(t, b, api.ErrTable)
			}
		}
	}
	for _, c := range rightChanges() {
		wantGet(t, loosePut(9, slices.Repeat([]api.Change{c}, 9)...), api.ErrTable)
		wantGet(t, loosePut(255, slices.Repeat([]api.Change{c}, 255)...), api.ErrTable)
	}
}

// P11.2: kinds that there are not, and fields beside their limits, alone and behind others.
func TestGetOfOthers(t *testing.T) {
	slot := slotBytes(good(1))
	for _, b := range [][]byte{
		{0}, {5}, {255}, {0, 0}, {5, 0}, {0, 0, 0, 0, 0, 0, 0, 0, 0}, {5, 0, 0, 0, 0, 0, 0, 0, 0},
		append([]byte{1, 2}, slot...), append([]byte{1, 255}, slot...), append([]byte{0, 0}, slot...), append([]byte{5, 0}, slot...),
		append([]byte{1, 0, 5}, make([]byte, 45)...), append([]byte{1, 0, 3}, make([]byte, 45)...), append([]byte{1, 1, 0, 1}, make([]byte, 44)...),
		append([]byte{1, 0, 2, 8}, slot[2:]...), append([]byte{1, 0, 3, 1}, slot[2:]...), append([]byte{1, 0, 1, 0}, slot[2:]...), append([]byte{1, 0}, bytes.Repeat([]byte{255}, 46)...),
		{2, 2}, {2, 255}, {2, 0, 0}, {3, 3}, {3, 255}, {3, 4}, {3, 1, 0},
		{4, 1, 0, 0, 0, 0, 0, 1, 0}, {4, 0, 0, 0, 0, 0, 0, 2, 0}, {4, 0, 0, 0, 0, 0, 0, 0, 1}, {4, 255, 255, 255, 255, 255, 255, 255, 255},
	} {
		wantGet(t, append([]byte{1}, b...), api.ErrTable)
		wantGet(t, append([]byte{3, 2, 1, 3, 2}, b...), api.ErrTable)
		wantGet(t, append(append([]byte{3}, b...), 2, 1, 3, 2), api.ErrTable)
	}
}

// P11.2: each byte of some at each value: the transaction of which Put makes these, if there is one.
func TestGetOfEachByte(t *testing.T) {
	for _, l := range fewTransactions() {
		whole := loosePut(len(l), l...)
		for at := range whole {
			for c := range 256 {
				b := slices.Clone(whole)
				b[at] = byte(c)
				want, e := plainGet(b)
				wantGet(t, b, e, want...)
				if e == api.OK && !bytes.Equal(Put(want...), b) {
					t.Errorf("Put of %v isn't %v", want, b)
				}
			}
		}
	}
}

// P11.2: any changes there and back, and any short rows of small bytes.
func TestGetOfAny(t *testing.T) {
	r := seeded(3)
	for range 5000 {
		l := anyChanges(r, r.Uint64N(3))
		wantPut(t, plainPut(l), l...)
		b := make([]byte, r.IntN(12))
		for i := range b {
			b[i] = byte(r.IntN(5))
		}
		want, e := plainGet(b)
		wantGet(t, b, e, want...)
	}
	for _, size := range []int{1, 2, 3, 102, 385, 386, 4000, 1 << 20} {
		for _, c := range []byte{0, 1, 2, 3, 4, 8, 9, 255} {
			b := bytes.Repeat([]byte{c}, size)
			want, e := plainGet(b)
			wantGet(t, b, e, want...)
			table, e := plainParse(b)
			wantParse(t, b, table, e)
		}
	}
	// noughts alone are a table, of which no slot was booted
	wantParse(t, make([]byte, 102), api.Table{Booted: -1}, api.OK)
}

// Rules: what Bytes, Put and Get tell is new memory, spare room too; and what they were told of isn't kept.
func TestTheyAreNew(t *testing.T) {
	for _, x := range fewTables() {
		first, second := Bytes(x), Bytes(x)
		spoil(second)
		if !bytes.Equal(first, plainBytes(x)) || !bytes.Equal(Bytes(x), plainBytes(x)) {
			t.Errorf("Bytes(%v) share", x)
		}
		got, _ := Parse(first)
		spoil(first)
		if got != x {
			t.Errorf("Parse keeps bytes of %v", x)
		}
	}
	for _, l := range fewTransactions() {
		given := slices.Clone(l)
		first, second := Put(given...), Put(given...)
		clear(given)
		spoil(second)
		if !bytes.Equal(first, plainPut(l)) || !bytes.Equal(Put(l...), plainPut(l)) {
			t.Errorf("Put of %v share", l)
		}
		one, _ := Get(first)
		two, _ := Get(first)
		spoil(first)
		two = two[:cap(two)]
		for i := range two {
			two[i] = api.Change{Kind: 9}
		}
		again, _ := Get(plainPut(l))
		if !slices.Equal(one, l) || !slices.Equal(again, l) {
			t.Errorf("Get of %v share", l)
		}
	}
}

// spoil: all bytes of a row, spare room too.
func spoil(b []byte) {
	b = b[:cap(b)]
	for i := range b {
		b[i] = '!'
	}
}
