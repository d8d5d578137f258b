package table

import (
	"math"
	"slices"
	"testing"

	"bootjack/api"
)

// The limits and numbers on which the chapter's words and this folder's tests hang.
func TestGiven(t *testing.T) {
	if api.MaxChanges != 8 || api.MaxVersion != 281474976710656 || api.MaxBody != 4000 || api.SectorSize != 64 {
		t.Error("limits", api.MaxChanges, uint64(api.MaxVersion), api.MaxBody, api.SectorSize)
	}
	if api.SetSlot != 1 || api.SetActive != 2 || api.SetBooted != 3 || api.SetFloor != 4 || api.ErrTable != 111 {
		t.Error("numbers")
	}
}

// P11.1: each field by itself at its limits and beside them.
func TestRight(t *testing.T) {
	right, wrong := 0, 0
	for _, x := range someTables() {
		if got := Right(x); got != plainRight(x) {
			t.Errorf("Right(%v) = %v", x, got)
		}
		if plainRight(x) {
			right++
		} else {
			wrong++
		}
	}
	// of each slot all that can be, of Active two, of Booted three, and the Floors up to the greatest
	few := len(fewTables())
	if right != few*(2*len(rightSlots())+2+3+6) || wrong != few*(2*len(wrongSlots())+2*len(someInts())-5+6) {
		t.Error("so many can be, and can't:", right, wrong)
	}
}

// P11.1: some of which the chapter's words say at once what they are.
func TestRightOfKnown(t *testing.T) {
	for i, c := range []struct {
		t     api.Table
		right bool
	}{
		{api.Table{}, true},
		{api.Table{Active: 1}, true},
		{api.Table{Active: -1}, false},
		{api.Table{Active: 2}, false},
		{api.Table{Active: math.MinInt}, false},
		{api.Table{Active: math.MaxInt}, false},
		{api.Table{Booted: 1}, true},
		{api.Table{Booted: -1}, true},
		{api.Table{Booted: -2}, false},
		{api.Table{Booted: 2}, false},
		{api.Table{Booted: math.MinInt}, false},
		{api.Table{Booted: math.MaxInt}, false},
		{api.Table{Floor: 1 << 48}, true},
		{api.Table{Floor: 1<<48 + 1}, false},
		{api.Table{Floor: math.MaxUint64}, false},
		{api.Table{Slots: [2]api.Slot{{Status: 1}, {}}}, true},
		{api.Table{Slots: [2]api.Slot{{}, {Status: 4}}}, true},
		{api.Table{Slots: [2]api.Slot{{Status: 2}, {}}}, false},
		{api.Table{Slots: [2]api.Slot{{}, {Status: 2}}}, false},
		{api.Table{Slots: [2]api.Slot{{Status: 5}, {Status: 5}}}, false},
		{api.Table{Slots: [2]api.Slot{good(1), good(1 << 48)}, Active: 1, Booted: -1, Floor: 1 << 48}, true},
		{api.Table{Slots: [2]api.Slot{good(0), good(1)}}, false},
		{api.Table{Slots: [2]api.Slot{good(1), good(1<<48 + 1)}}, false},
		{api.Table{Slots: [2]api.Slot{ready(1, 0), ready(1, 7)}}, true},
		{api.Table{Slots: [2]api.Slot{ready(1, 8), ready(1, 7)}}, false},
		{api.Table{Slots: [2]api.Slot{ready(1, 7), ready(1, -1)}}, false},
	} {
		if Right(c.t) != c.right {
			t.Errorf("%d: %v: %v", i, c.t, Right(c.t))
		}
	}
}

// wantApply: the table behind these changes, or ErrTable and a zero one; nothing that is handed in is changed, spare room included.
func wantApply(t *testing.T, from api.Table, want api.Table, e api.Errno, l ...api.Change) {
	t.Helper()
	room := append(slices.Clone(l), wrongChanges()[:3]...)
	got, fault := Apply(from, room[:len(l)]...)
	if got != want || fault != e {
		t.Errorf("Apply of %v to %v: %v, %d; want %v, %d", l, from, got, fault, want, e)
	}
	if !slices.Equal(room[:len(l)], l) || !slices.Equal(room[len(l):], wrongChanges()[:3]) {
		t.Errorf("Apply changed %v, or what is behind", l)
	}
}

// wantPlain: what the plain form says of these changes.
func wantPlain(t *testing.T, from api.Table, l ...api.Change) {
	t.Helper()
	want, e := plainApply(from, l)
	wantApply(t, from, want, e, l...)
}

// P11.1: the table written out behind changes of each kind.
func TestApplyOfKnown(t *testing.T) {
	from := api.Table{Slots: [2]api.Slot{good(3), ready(4, 2)}, Booted: 1, Floor: 3}
	for _, c := range []struct {
		l    []api.Change
		want api.Table
	}{
		{nil, from},
		{[]api.Change{}, from},
		{[]api.Change{setSlot(0, ready(9, 7))}, api.Table{Slots: [2]api.Slot{ready(9, 7), ready(4, 2)}, Booted: 1, Floor: 3}},
		{[]api.Change{setSlot(1, api.Slot{Status: 4})}, api.Table{Slots: [2]api.Slot{good(3), {Status: 4}}, Booted: 1, Floor: 3}},
		{[]api.Change{setSlot(0, api.Slot{})}, api.Table{Slots: [2]api.Slot{{}, ready(4, 2)}, Booted: 1, Floor: 3}},
		{[]api.Change{setActive(1)}, api.Table{Slots: from.Slots, Active: 1, Booted: 1, Floor: 3}},
		{[]api.Change{setActive(0)}, from},
		{[]api.Change{setBooted(-1)}, api.Table{Slots: from.Slots, Booted: -1, Floor: 3}},
		{[]api.Change{setBooted(0)}, api.Table{Slots: from.Slots, Floor: 3}},
		{[]api.Change{setFloor(3)}, from},
		{[]api.Change{setFloor(4)}, api.Table{Slots: from.Slots, Booted: 1, Floor: 4}},
		{[]api.Change{setFloor(1 << 48)}, api.Table{Slots: from.Slots, Booted: 1, Floor: 1 << 48}},
		{[]api.Change{setSlot(1, good(4)), setActive(1), setBooted(0), setFloor(9)}, api.Table{Slots: [2]api.Slot{good(3), good(4)}, Active: 1, Floor: 9}},
		{[]api.Change{setSlot(1, good(4)), setSlot(1, good(5))}, api.Table{Slots: [2]api.Slot{good(3), good(5)}, Booted: 1, Floor: 3}},
		{[]api.Change{setSlot(1, good(5)), setSlot(0, good(7)), setSlot(1, good(4))}, api.Table{Slots: [2]api.Slot{good(7), good(4)}, Booted: 1, Floor: 3}},
		{[]api.Change{setActive(1), setActive(0)}, from},
		{[]api.Change{setBooted(-1), setBooted(0)}, api.Table{Slots: from.Slots, Floor: 3}},
		{[]api.Change{setFloor(4), setActive(1), setFloor(4), setFloor(6)}, api.Table{Slots: from.Slots, Active: 1, Booted: 1, Floor: 6}},
	} {
		wantApply(t, from, c.want, api.OK, c.l...)
	}
}

// P11.1: a Floor below what it is by then, as it stood, or as a change ahead has set it.
func TestApplyOfFloors(t *testing.T) {
	for _, floor := range []uint64{1, 2, 258, 1<<48 - 1, 1 << 48} {
		from := api.Table{Slots: [2]api.Slot{good(3), {}}, Active: 1, Booted: -1, Floor: floor}
		to := from
		for _, low := range []uint64{0, floor - 1} {
			wantApply(t, from, api.Table{}, api.ErrTable, setFloor(low))
			wantApply(t, from, api.Table{}, api.ErrTable, setFloor(floor), setFloor(low))
			wantApply(t, from, api.Table{}, api.ErrTable, setFloor(low), setFloor(floor))
			wantApply(t, from, api.Table{}, api.ErrTable, setActive(0), setFloor(low), setBooted(1))
			// of a table whose Floor is lower the second one alone is wrong
			under := api.Table{Floor: low}
			wantApply(t, under, api.Table{}, api.ErrTable, setFloor(floor), setFloor(low))
			wantApply(t, under, api.Table{Floor: floor}, api.OK, setFloor(low), setFloor(floor))
		}
		wantApply(t, from, from, api.OK, setFloor(floor))
		wantApply(t, from, from, api.OK, setFloor(floor), setFloor(floor))
		to.Floor = 1 << 48
		wantApply(t, from, to, api.OK, setFloor(floor), setFloor(1<<48))
		wantApply(t, from, api.Table{}, api.ErrTable, setFloor(1<<48+1))
	}
}

// P11.1: each change by itself, with each field that its kind has or hasn't at and beside its limits.
func TestApplyOfEachChange(t *testing.T) {
	from, right := fewTables()[3], 0
	from.Floor = 0
	for _, c := range someChanges() {
		wantPlain(t, from, c)
		if plainChange(c) {
			right++
		}
	}
	// of SetSlot two slots with three slots to come, of SetActive two, of SetBooted three, of SetFloor three Floors
	if right != 2*3+2+3+3 {
		t.Error("so many can be:", right)
	}
	for _, x := range fewTables() {
		for _, c := range rightChanges() {
			wantPlain(t, x, c)
		}
	}
}

// P11.1: a change that can't be, as the first, the last or one between of each number of changes: none is done.
func TestApplyOfOneThatCannotBe(t *testing.T) {
	for _, x := range fewTables() {
		x.Floor = 0
		for _, c := range wrongChanges() {
			for count := range 8 {
				for at := range count + 1 {
					l := slices.Insert(rightChanges()[:count], at, c)
					wantApply(t, x, api.Table{}, api.ErrTable, l...)
				}
			}
		}
	}
}

// P11.1: a To that can be or can't, of each slot.
func TestApplyOfEachSlot(t *testing.T) {
	for _, x := range fewTables() {
		for i := range 2 {
			for _, s := range rightSlots() {
				to := x
				to.Slots[i] = s
				wantApply(t, x, to, api.OK, setSlot(i, s))
			}
			for _, s := range wrongSlots() {
				wantApply(t, x, api.Table{}, api.ErrTable, setSlot(i, s))
			}
		}
	}
}

// P11.1: of no change up to eight all are done; nine and more are no transaction.
func TestApplyOfSoMany(t *testing.T) {
	from := api.Table{Booted: -1}
	for count := range 12 {
		for _, c := range []api.Change{setSlot(1, good(2)), setActive(1), setBooted(1), setFloor(2)} {
			l := slices.Repeat([]api.Change{c}, count)
			want, e := api.Table{}, api.ErrTable
			if count <= 8 {
				want, e = plainApply(from, l)
			}
			wantApply(t, from, want, e, l...)
		}
		// the last one of all counts
		l := slices.Repeat([]api.Change{setSlot(0, good(9))}, count)
		if count > 0 && count <= 8 {
			l[count-1] = setSlot(0, good(10))
			wantApply(t, from, api.Table{Slots: [2]api.Slot{good(10), {}}, Booted: -1}, api.OK, l...)
		}
	}
	for _, count := range []int{100, 256, 257, 264, 65536 + 3} {
		wantApply(t, from, api.Table{}, api.ErrTable, slices.Repeat([]api.Change{setActive(1)}, count)...)
	}
}

// P11.1: of a table that can't be, with changes that can, that can't, and with none; also with such as would mend it.
func TestApplyToOneThatCannotBe(t *testing.T) {
	mend := []api.Change{setSlot(0, good(1)), setSlot(1, good(1)), setActive(1), setBooted(1), setFloor(1 << 48)}
	for _, x := range wrongTables() {
		wantApply(t, x, api.Table{}, api.ErrTable)
		wantApply(t, x, api.Table{}, api.ErrTable, mend...)
		wantApply(t, x, api.Table{}, api.ErrTable, setActive(2))
	}
}

// P11.1: any changes, against the plain form; what can be comes of what can be.
func TestApplyOfAny(t *testing.T) {
	r, done := seeded(1), 0
	for range 20000 {
		from := anyTable(r)
		l := anyChanges(r, from.Floor)
		wantPlain(t, from, l...)
		if got, e := Apply(from, l...); e == api.OK {
			done++
			if !Right(got) {
				t.Errorf("%v comes of %v by %v", got, from, l)
			}
		}
	}
	if done < 5000 || done > 19000 {
		t.Error("so many could be done:", done)
	}
}
