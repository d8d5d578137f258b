package table

import (
	"fmt"
	"math"
	"slices"
	"testing"

	"bootjack/api"
)

// bodies: of a base, and of the transactions behind it.
func bodies(x api.Table, rows ...[]api.Change) [][]byte {
	l := [][]byte{plainBytes(x)}
	for _, row := range rows {
		l = append(l, plainPut(row))
	}
	return l
}

// P11.3: with a first that can't be there is no Store, whatever stands in the banks.
func TestOpenWithAFirstThatCannotBe(t *testing.T) {
	blank, full := made(t, 9, 9), made(t, 9, 9)
	lay(t, full, 0, 0, baseOf(1, bodies(fewTables()[3])...))
	for _, x := range wrongTables() {
		for _, m := range []struct {
			what string
			a, b int
		}{{"blank", 0, 1}, {"none there", 2, -1}} {
			wantQuiet(t, m.what, blank, func() {
				if s, e := Open(blank, m.a, m.b, x); s != nil || e != api.ErrTable {
					t.Errorf("Open with %v: %v, %d", x, s, e)
				}
			})
		}
		wantQuiet(t, "full", full, func() {
			if s, e := Open(full, 0, 1, x); s != nil || e != api.ErrTable {
				t.Errorf("Open with %v: %v, %d", x, s, e)
			}
		})
	}
}

// P11.3: of blank banks the table is the first one.
func TestOpenOfBlank(t *testing.T) {
	for _, sizes := range [][]int{{1, 1}, {2, 2}, {9, 3}, {70, 200}} {
		m := made(t, sizes...)
		for _, x := range someTables() {
			if plainRight(x) {
				opened(t, "blank", m, 0, 1, x, x)
				opened(t, "blank", m, 1, 0, x, x)
			}
		}
	}
}

// P11.3: a base alone is the table, whatever the first one is, and in whichever bank it stands.
func TestOpenOfABase(t *testing.T) {
	for _, x := range fewTables() {
		for _, seq := range []uint64{0, 1, 77, 1<<62 + 5, math.MaxUint64} {
			for bank := range 3 {
				m := made(t, 2, 3, 4)
				lay(t, m, bank, 0, baseOf(seq, bodies(x)...))
				for _, first := range fewTables() {
					opened(t, "base", m, bank, (bank+1)%3, first, x)
					opened(t, "base", m, (bank+2)%3, bank, first, x)
					opened(t, "of the other parts", m, (bank+1)%3, (bank+2)%3, first, first)
				}
			}
		}
	}
}

// notTables: bodies that are no table's bytes, though some are near to it.
func notTables() [][]byte {
	x := plainBytes(fewTables()[3])
	l := [][]byte{nil, {0}, x[:101], append(slices.Clone(x), 0), x[:46], make([]byte, 101), make([]byte, 4000)}
	for _, row := range fewTransactions() {
		l = append(l, plainPut(row))
	}
	for at, c := range map[int]byte{0: 5, 1: 1, 46: 9, 92: 2, 93: 3, 101: 1} {
		b := slices.Clone(x)
		b[at] = c
		l = append(l, b)
	}
	return l
}

// P11.3: a base that is no table's bytes: the table is the first one, whatever stands behind the base, and in the other bank.
func TestOpenOfABaseThatIsNone(t *testing.T) {
	for i, b := range notTables() {
		for _, first := range fewTables() {
			m := made(t, 80, 80)
			lay(t, m, 0, 0, baseOf(5, b))
			opened(t, fmt.Sprint("alone ", i), m, 0, 1, first, first)
			lay(t, m, 1, 0, baseOf(4, bodies(fewTables()[2], []api.Change{setActive(1)})...))
			opened(t, fmt.Sprint("with an older one ", i), m, 0, 1, first, first)
			m = made(t, 80, 80)
			lay(t, m, 1, 0, baseOf(5, b, plainPut([]api.Change{setActive(1), setFloor(1 << 48)}), plainBytes(fewTables()[4]), plainPut(nil)))
			opened(t, fmt.Sprint("with more behind ", i), m, 0, 1, first, first)
		}
	}
}

// P11.3: the transactions behind a base are Applied, one after the other.
func TestOpenOfTransactions(t *testing.T) {
	base := api.Table{Slots: [2]api.Slot{good(3), {}}, Booted: -1, Floor: 2}
	rows := [][]api.Change{
		{setSlot(1, api.Slot{Status: 1})},
		nil,
		{setSlot(1, ready(4, 3)), setActive(1)},
		{setSlot(1, ready(4, 2)), setBooted(1)},
		{setSlot(1, good(4)), setFloor(4)},
		slices.Repeat([]api.Change{setSlot(0, api.Slot{Status: 1})}, 8),
		{setFloor(4), setActive(0), setFloor(1 << 48)},
	}
	want := []api.Table{
		base,
		{Slots: [2]api.Slot{good(3), {Status: 1}}, Booted: -1, Floor: 2},
		{Slots: [2]api.Slot{good(3), {Status: 1}}, Booted: -1, Floor: 2},
		{Slots: [2]api.Slot{good(3), ready(4, 3)}, Active: 1, Booted: -1, Floor: 2},
		{Slots: [2]api.Slot{good(3), ready(4, 2)}, Active: 1, Booted: 1, Floor: 2},
		{Slots: [2]api.Slot{good(3), good(4)}, Active: 1, Booted: 1, Floor: 4},
		{Slots: [2]api.Slot{{Status: 1}, good(4)}, Active: 1, Booted: 1, Floor: 4},
		{Slots: [2]api.Slot{{Status: 1}, good(4)}, Booted: 1, Floor: 1 << 48},
	}
	for count := range len(rows) + 1 {
		m := made(t, 30, 30)
		lay(t, m, 1, 0, baseOf(9, bodies(base, rows[:count]...)...))
		for _, first := range fewTables() {
			opened(t, fmt.Sprint(count, " transactions"), m, 0, 1, first, want[count])
			opened(t, fmt.Sprint(count, " transactions"), m, 1, 0, first, want[count])
		}
	}
}

// P11.3: a body that is no transaction's, or that can't be Applied, at each place: those ahead of it count, and none behind it.
func TestOpenUpToTheFirstThatIsNone(t *testing.T) {
	base := api.Table{Floor: 10}
	row := func(i int) []api.Change {
		return []api.Change{setFloor(uint64(20 + i)), setSlot(i%2, good(uint64(20+i)))}
	}
	others := [][]byte{
		nil, {1}, {9}, {0, 0}, {1, 5, 0}, {1, 2, 2}, {1, 3, 3}, {1, 4, 9, 0, 0, 0, 0, 0, 0}, {1, 2, 1, 0}, {2, 2, 1},
		// of these the first changes could be done
		{2, 2, 1, 2, 2}, loosePut(2, setActive(1), setFloor(9)), loosePut(3, setActive(1), setFloor(30), setFloor(29)),
		loosePut(9, slices.Repeat([]api.Change{setActive(1)}, 9)...), loosePut(1, setFloor(1<<48+1)), loosePut(1, setFloor(0)), loosePut(1, setFloor(9)),
		plainBytes(api.Table{Active: 1, Floor: 50}), loosePut(1, setSlot(1, api.Slot{Status: 5})), make([]byte, 4000),
	}
	for i, other := range others {
		for at := range 4 {
			l, want := [][]byte{plainBytes(base)}, base
			for k := range 4 {
				if k == at {
					l = append(l, other)
				}
				l = append(l, plainPut(row(k)))
				if k < at {
					want.Floor, want.Slots[k%2] = uint64(20+k), good(uint64(20+k))
				}
			}
			m := made(t, 90, 90)
			lay(t, m, 0, 0, baseOf(3, l...))
			s := opened(t, fmt.Sprint(i, " at ", at), m, 0, 1, api.Table{Active: 1}, want)
			// what is done next goes on from there, and drops what stood behind
			want.Booted = 1
			for k := range 2 {
				want.Booted = k
				if e := s.Do(setBooted(k)); e != api.OK {
					t.Errorf("%d at %d: Do: %d", i, at, e)
				}
				opened(t, fmt.Sprint(i, " at ", at, " behind a Do"), m, 0, 1, api.Table{}, want)
			}
		}
	}
}

// P11.3: of two banks the one counts whose base is the younger one, and b, if they are the same; of the other one nothing does.
func TestOpenOfTwoBanks(t *testing.T) {
	one, two := fewTables()[3], fewTables()[4]
	for _, c := range []struct {
		a, b uint64
		want api.Table
	}{{1, 2, two}, {2, 1, one}, {5, 5, two}, {0, 1, two}, {1, 0, one}, {math.MaxUint64, 1, one}, {1 << 62, 1<<62 + 1, two}} {
		m := made(t, 9, 9)
		lay(t, m, 0, 0, baseOf(c.a, bodies(one)...))
		lay(t, m, 1, 0, baseOf(c.b, bodies(two)...))
		opened(t, fmt.Sprint(c.a, " and ", c.b), m, 0, 1, api.Table{}, c.want)
	}
	m := made(t, 9, 9)
	lay(t, m, 0, 0, baseOf(1, bodies(one, []api.Change{setFloor(259)}, nil, []api.Change{setActive(0)})...))
	lay(t, m, 1, 0, baseOf(3, bodies(two, []api.Change{setActive(0)})...))
	want := two
	want.Active = 0
	opened(t, "with transactions", m, 0, 1, api.Table{}, want)
}

// P11.3: what stands there is told while the device is down, and nothing is written.
func TestOpenWhileDown(t *testing.T) {
	m := made(t, 9, 9)
	lay(t, m, 0, 0, baseOf(1, bodies(fewTables()[3], []api.Change{setActive(0)})...))
	m.Device().Budget(0)
	want(t, "Sync", m.Sync(), api.ErrPower)
	table := fewTables()[3]
	table.Active = 0
	s := opened(t, "down", m, 0, 1, api.Table{}, table)
	want(t, "Do", s.Do(setActive(1)), api.ErrPower)
	wantState(t, "Do", s, table, 0)
}

// P1: parts of which there are none, or twice the same: each call ends, and none panics.
func TestOpenOfOtherParts(t *testing.T) {
	for _, a := range append(someInts(), 4, 5) {
		for _, b := range []int{a, -1, 0, 1, 2, math.MaxInt} {
			m := made(t, 4, 9)
			s, e := Open(m, a, b, api.Table{})
			want(t, "Open", e, api.OK)
			for k := range 12 {
				s.Do(setFloor(uint64(k)), setSlot(k%2, good(1)))
				s.Table()
				s.Left()
			}
			if (a < 0 || a > 1 || b < 0 || b > 1) && (s.Do() != api.ErrFull || s.Table() != api.Table{}) {
				t.Errorf("of parts %d and %d: %v", a, b, s.Table())
			}
		}
	}
}
