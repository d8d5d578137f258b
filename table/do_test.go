package table

import (
	"bytes"
	"fmt"
	"slices"
	"testing"

	"bootjack/api"
	"bootjack/part"
)

// The parts that are the banks of these tests, of five; what others have stays blank.
const bankA, bankB = 1, 3

// course: what Dos should do to both banks, step by step.
type course struct {
	sizes, written [2]int // sectors
	in             int
	ready          bool
}

// sectors: how many a transaction has.
func sectors(l []api.Change) int { return len(frameOf(2, 0, plainPut(l))) }

// appends: is there room behind all others?
func (c *course) appends(size int) bool { return c.ready && size <= c.sizes[c.in]-c.written[c.in] }

// steps: those of the next Do, if it has so many sectors; a Sync is one of the kind 0.
func (c *course) steps(size int) []api.Op {
	op := func(kind, bank, at int) api.Op {
		return api.Op{Kind: kind, Part: []int{bankA, bankB}[bank], At: at, By: 6}
	}
	var l []api.Op
	if c.appends(size) {
		for i := range size {
			l = append(l, op(api.OpProgram, c.in, c.written[c.in]+i))
		}
		return append(l, api.Op{})
	}
	for at := range c.written[1-c.in] {
		l = append(l, op(api.OpErase, 1-c.in, at))
	}
	return append(l, api.Op{}, op(api.OpProgram, 1-c.in, 0), op(api.OpProgram, 1-c.in, 1), api.Op{})
}

// did: the Do had no error.
func (c *course) did(size int) {
	if c.appends(size) {
		c.written[c.in] += size
		return
	}
	c.in, c.ready = 1-c.in, true
	c.written[c.in] = 2
}

func (c *course) left() int {
	if !c.ready {
		return 0
	}
	return c.sizes[c.in] - c.written[c.in]
}

// without: of steps the operations.
func without(steps []api.Op) []api.Op {
	return slices.DeleteFunc(slices.Clone(steps), func(op api.Op) bool { return op.Kind == 0 })
}

// shop: a Store on two banks of so many sectors, its course, and what should stand in the bank in which it is.
type shop struct {
	m     *part.Map
	s     *Store
	c     course
	table api.Table
	seq   uint64 // of the base
	rows  [][]byte
}

func opens(t *testing.T, a, b int, first api.Table) *shop {
	t.Helper()
	m := made(t, 1, a, 2, b, 1)
	m.As(6)
	s := opened(t, "blank", m, bankA, bankB, first, first)
	return &shop{m: m, s: s, c: course{sizes: [2]int{a, b}, in: 1}, table: first}
}

// do: one that has no error, by just as many steps as it needs; what it did, what it tells, and what stands there.
func (x *shop) do(t *testing.T, what string, l ...api.Change) {
	t.Helper()
	size := sectors(l)
	steps := x.c.steps(size)
	table, e := plainApply(x.table, l)
	want(t, what+": the test's own", e, api.OK)
	last := x.seq + uint64(len(x.rows)) - 1
	switch {
	case x.c.appends(size):
		x.rows = append(x.rows, plainPut(l))
	case len(x.rows) == 0:
		x.seq, x.rows = 1, [][]byte{plainBytes(table)}
	default:
		x.seq, x.rows = last+1, [][]byte{plainBytes(table)}
	}
	x.c.did(size)
	x.table = table
	x.m.Ops()
	x.m.Device().Budget(len(steps))
	want(t, what, x.s.Do(l...), api.OK)
	wantOps(t, what, x.m, without(steps))
	wantState(t, what, x.s, table, x.c.left())
	if x.m.Device().Waiting() != 0 {
		t.Errorf("%s: %d wait", what, x.m.Device().Waiting())
	}
	want(t, what+": one step more", x.m.Sync(), api.ErrPower)
	x.m.Device().Restart(nil)
	x.wantThere(t, what)
}

// wantThere: the bank in which it is has just these rows, and Open tells the table.
func (x *shop) wantThere(t *testing.T, what string) {
	t.Helper()
	wantBank(t, what, x.m, []int{bankA, bankB}[x.c.in], baseOf(x.seq, x.rows...))
	for _, other := range []int{0, 2, 4} {
		wantBank(t, what+": another part", x.m, other, nil)
	}
	for _, first := range fewTables()[:3] {
		opened(t, what, x.m, bankA, bankB, first, x.table)
	}
}

// sized: transactions of one, two, four and seven sectors, each of another table than any ahead, if k is.
func sized(k int) [][]api.Change {
	v := uint64(k + 1)
	return [][]api.Change{
		{setFloor(v)},
		{setSlot(k%2, good(v)), setFloor(v)},
		{setSlot(0, good(v)), setSlot(1, ready(v, 7)), setSlot(0, ready(v, 1)), setSlot(1, good(v)), setFloor(v)},
		slices.Concat(slices.Repeat([]api.Change{setSlot(k%2, good(v))}, 7), []api.Change{setSlot(1-k%2, ready(v, k%8))}),
	}
}

func TestSized(t *testing.T) {
	for i, l := range sized(5) {
		if n := sectors(l); n != []int{1, 2, 4, 7}[i] {
			t.Errorf("%d: %d sectors", i, n)
		}
	}
}

// P11.4: one behind the other, up to a bank that is full, and beyond it, in banks of all sizes, unlike ones too.
func TestDoUntilFull(t *testing.T) {
	for _, sizes := range [][2]int{{2, 2}, {2, 3}, {3, 2}, {2, 9}, {9, 2}, {3, 3}, {5, 4}, {8, 9}, {9, 8}, {9, 20}, {30, 7}} {
		for size := range 4 {
			x := opens(t, sizes[0], sizes[1], api.Table{Booted: -1})
			for k := range 40 {
				x.do(t, fmt.Sprint(sizes, " of ", size, ", ", k), sized(k)[size]...)
			}
		}
		for seed := range uint64(4) {
			r := seeded(seed)
			x := opens(t, sizes[0], sizes[1], fewTables()[2+seed])
			x.table.Floor = 0
			x.s = opened(t, "anew", x.m, bankA, bankB, x.table, x.table)
			for k := range 60 {
				l := sized(k)[r.IntN(4)]
				if r.IntN(4) == 0 {
					l = nil
				}
				x.do(t, fmt.Sprint(sizes, " of any, ", k), l...)
			}
		}
	}
}

// P11.4: the first Do behind an Open begins anew in the other bank, whatever room there is.
func TestDoBehindAnOpen(t *testing.T) {
	x := opens(t, 20, 20, fewTables()[1])
	for k := range 12 {
		x.do(t, "ahead", sized(2 * k)[0]...)
		if k%3 == 0 {
			x.do(t, "ahead", sized(2 * k)[1]...)
		}
		x.s = opened(t, "anew", x.m, bankA, bankB, fewTables()[k%3], x.table)
		x.c.ready = false
		if k%2 == 0 {
			x.do(t, "behind", sized(2*k + 1)[2]...)
		}
	}
}

// P11.4: a transaction of no change is kept too.
func TestDoOfNothing(t *testing.T) {
	x := opens(t, 4, 4, fewTables()[4])
	for k := range 10 {
		x.do(t, fmt.Sprint("nothing ", k))
	}
	if x.s.Table() != fewTables()[4] {
		t.Error(x.s.Table())
	}
}

// refused: what Apply refuses of a table whose Floor is 2 or more.
func refused() [][]api.Change {
	l := [][]api.Change{
		{setFloor(1)}, {setFloor(0)}, {setActive(1), setFloor(1)}, {setFloor(9), setFloor(8)}, {setFloor(1<<48 + 1)},
		slices.Repeat([]api.Change{setActive(1)}, 9), slices.Repeat([]api.Change{setSlot(0, good(9))}, 100),
	}
	for _, c := range wrongChanges() {
		l = append(l, []api.Change{c}, []api.Change{setActive(1), c}, []api.Change{c, setBooted(-1)})
	}
	return l
}

// P11.4: of what Apply refuses nothing is done: not to a Store that was just opened, that has room, that is full, or that is down.
func TestDoOfWhatApplyRefuses(t *testing.T) {
	x := opens(t, 4, 4, api.Table{Floor: 2})
	ask := func(what string) {
		t.Helper()
		for _, l := range refused() {
			wantRefused(t, what, x.m, x.s, api.ErrTable, l...)
		}
	}
	ask("opened")
	for k := range 7 {
		x.do(t, fmt.Sprint("behind ", k), sized(k + 2)[0]...)
		ask(fmt.Sprint("with ", x.c.left(), " left"))
	}
	x.m.Device().Budget(0)
	ask("without a step left")
	if x.m.Device().Down() {
		t.Error("it is down by what was refused")
	}
	want(t, "Sync", x.m.Sync(), api.ErrPower)
	ask("down")
	x.m.Device().Restart(nil)
	x.do(t, "behind all", setFloor(30))
	want(t, "Do", (func() api.Errno { x.m.Device().Budget(0); return x.s.Do() })(), api.ErrPower)
	ask("behind an error")
	x.m.Device().Restart(nil)
	ask("behind a Restart")
	x.wantThere(t, "behind a Restart")
}

// P11.4: where a table doesn't fit into the smaller bank, nothing is done, ever; but what Apply refuses is told ahead.
func TestDoWithoutRoom(t *testing.T) {
	for _, sizes := range [][2]int{{1, 1}, {1, 2}, {2, 1}, {1, 30}, {30, 1}} {
		first := api.Table{Active: 1, Floor: 2}
		x := opens(t, sizes[0], sizes[1], first)
		ask := func(what string) {
			t.Helper()
			for _, l := range [][]api.Change{nil, {setActive(0)}, {setFloor(3)}, sized(5)[3]} {
				wantRefused(t, what, x.m, x.s, api.ErrFull, l...)
			}
			for _, l := range refused() {
				wantRefused(t, what, x.m, x.s, api.ErrTable, l...)
			}
		}
		ask("opened")
		x.m.Device().Budget(0)
		ask("without a step left")
		want(t, "Sync", x.m.Sync(), api.ErrPower)
		ask("down")
		x.m.Device().Restart(nil)
		ask("behind a Restart")
		opened(t, "behind all", x.m, bankA, bankB, first, first)
	}
}

// P11.4: up to the greatest number of a frame; from there on there is no room, neither behind the others nor anew, and it stays ready.
func TestDoAtTheGreatestNumbers(t *testing.T) {
	for _, last := range []uint64{1<<62 - 3, 1<<62 - 2, 1<<62 - 1, 1 << 62, 1<<62 + 1, 1<<64 - 1} {
		m := made(t, 9, 9)
		table := api.Table{Floor: 2}
		lay(t, m, 0, 0, baseOf(last, bodies(table)...))
		s, left := opened(t, "ahead", m, 0, 1, api.Table{}, table), 0
		for now := last; now < 1<<62; now++ {
			table.Floor++
			left--
			if now == last {
				left = 7
			}
			want(t, "Do", s.Do(setFloor(table.Floor)), api.OK)
			wantState(t, "Do", s, table, left)
		}
		for range 2 {
			wantRefused(t, "Do", m, s, api.ErrFull, setFloor(table.Floor+1))
			wantRefused(t, "Do of nothing", m, s, api.ErrFull)
			wantRefused(t, "Do of what can't be", m, s, api.ErrTable, setFloor(1))
		}
		opened(t, "behind", m, 0, 1, api.Table{}, table)
	}
}

// ahead: a Store whose next Do begins anew, the first time, or over what was written; or has room for it.
func ahead(t *testing.T, how int) *shop {
	t.Helper()
	x := opens(t, 9, 8, api.Table{Booted: -1})
	for k := range []int{0, 1, 3, 8, 15}[how] {
		x.do(t, fmt.Sprint("ahead ", how, " ", k), sized(k)[0]...)
	}
	if how == 4 {
		x.s = opened(t, "ahead", x.m, bankA, bankB, api.Table{}, x.table)
		x.c.ready = false
	}
	return x
}

// P11.4: the power ends at each step of a Do: what was done, what is told; what stands there hangs on what is kept.
func TestDoGoesDownAtEachStep(t *testing.T) {
	for how := range 5 {
		for size := range 4 {
			l := sized(50)[size]
			for steps := range len(ahead(t, how).c.steps(sectors(l))) {
				for _, whole := range []bool{false, true} {
					goesDown(t, fmt.Sprint("ahead ", how, " of ", size, ", ", steps, " steps, ", whole), ahead(t, how), steps, whole, l)
				}
			}
		}
	}
}

// goesDown: with one of these numbers of steps, behind which nothing or all that waits is kept.
func goesDown(t *testing.T, what string, x *shop, steps int, whole bool, l []api.Change) {
	t.Helper()
	all := x.c.steps(sectors(l))
	table, _ := plainApply(x.table, l)
	waits := 0
	for _, op := range all[:steps] {
		waits++
		if op.Kind == 0 {
			waits = 0
		}
	}
	x.m.Ops()
	x.m.Device().Budget(steps)
	want(t, what, x.s.Do(l...), api.ErrPower)
	wantOps(t, what, x.m, without(all[:steps]))
	wantState(t, what, x.s, x.table, 0)
	if !x.m.Device().Down() || x.m.Device().Waiting() != waits {
		t.Errorf("%s: down %v, %d wait, want %d", what, x.m.Device().Down(), x.m.Device().Waiting(), waits)
	}
	for range 2 {
		wantQuiet(t, what+": once more", x.m, func() { want(t, what+": once more", x.s.Do(l...), api.ErrPower) })
		wantState(t, what+": once more", x.s, x.table, 0)
	}
	if whole {
		x.m.Device().Restart(bytes.Repeat([]byte{64}, waits))
	} else {
		x.m.Device().Restart(nil)
	}
	wantState(t, what+": behind", x.s, x.table, 0)
	there := x.table
	if whole && steps == len(all)-1 {
		there = table
	}
	if len(x.rows) > 0 || whole && steps == len(all)-1 {
		opened(t, what+": behind", x.m, bankA, bankB, fewTables()[2], there)
	} else {
		opened(t, what+": behind", x.m, bankA, bankB, fewTables()[2], fewTables()[2])
	}
	begins(t, what, x)
}

// begins: behind an error the next Do writes the table anew, into the bank in which it isn't, and is whole.
func begins(t *testing.T, what string, x *shop) {
	t.Helper()
	bank := []int{bankB, bankA}[x.c.in]
	x.m.Ops()
	want(t, what+": Do", x.s.Do(setBooted(1), setFloor(70)), api.OK)
	for _, op := range x.m.Ops() {
		if op.Part != bank {
			t.Errorf("%s: Do did %v, not in %d", what, op, bank)
		}
	}
	x.table.Booted, x.table.Floor = 1, 70
	wantState(t, what+": Do", x.s, x.table, x.m.Size(bank)-2)
	opened(t, what+": Do", x.m, bankA, bankB, api.Table{}, x.table)
	want(t, what+": Do", x.s.Do(setFloor(71)), api.OK)
	x.table.Floor = 71
	wantState(t, what+": Do", x.s, x.table, x.m.Size(bank)-3)
	opened(t, what+": Do", x.m, bankA, bankB, api.Table{}, x.table)
}

// P11.4: of a device that is down nothing can be done; of one that has room, there is none left then.
func TestDoWhileDown(t *testing.T) {
	for how := range 5 {
		x := ahead(t, how)
		x.m.Device().Budget(0)
		want(t, "Sync", x.m.Sync(), api.ErrPower)
		wantState(t, "down", x.s, x.table, x.c.left())
		for _, l := range [][]api.Change{nil, {setActive(1)}, sized(60)[3]} {
			wantQuiet(t, "Do", x.m, func() { want(t, "Do", x.s.Do(l...), api.ErrPower) })
			wantState(t, "Do", x.s, x.table, 0)
		}
		x.m.Device().Restart(nil)
		wantState(t, "behind", x.s, x.table, 0)
		begins(t, fmt.Sprint("down ", how), x)
	}
}

// P11.4: a sector that was erased too often, at each place of the other bank: that is the answer, each time.
func TestDoInAWornBank(t *testing.T) {
	for place := range 3 {
		m := worn(t, 2, 9, 9)
		table := api.Table{Floor: 2}
		lay(t, m, 0, 0, baseOf(5, bodies(table)...))
		lay(t, m, 1, 0, baseOf(4, bodies(fewTables()[2], nil)...))
		s, _ := m.Read(1, place)
		for range 2 {
			want(t, "Erase", m.Erase(1, place), api.OK)
			want(t, "Program", m.Program(1, place, s), api.OK)
		}
		want(t, "Sync", m.Sync(), api.OK)
		store := opened(t, "worn", m, 0, 1, api.Table{}, table)
		for k := range 3 {
			m.Ops()
			var ops []api.Op
			for at := range place {
				if k == 0 {
					ops = append(ops, api.Op{Kind: api.OpErase, Part: 1, At: at})
				}
			}
			want(t, "Do", store.Do(setActive(1)), api.ErrWorn)
			wantOps(t, "Do", m, ops)
			wantState(t, "Do", store, table, 0)
			wantRefused(t, "Do of what can't be", m, store, api.ErrTable, setFloor(1))
			opened(t, "worn", m, 0, 1, api.Table{}, table)
		}
	}
}

// P11.4: again and again until the sectors are worn; the table is the one of the last Do that had no error.
func TestDoUntilWorn(t *testing.T) {
	m := worn(t, 3, 3, 3)
	table := api.Table{}
	s := opened(t, "blank", m, 0, 1, table, table)
	e := api.OK
	for k := uint64(1); e == api.OK; k++ {
		if e = s.Do(setFloor(k)); e == api.OK {
			table.Floor = k
		}
		if k > 100 {
			t.Fatal("never worn")
		}
	}
	want(t, "worn", e, api.ErrWorn)
	// each of both banks is begun in four times, with one transaction behind the table
	if table.Floor != 16 {
		t.Errorf("%d times", table.Floor)
	}
	wantState(t, "worn", s, table, 0)
	opened(t, "worn", m, 0, 1, api.Table{}, table)
}

// P11.4: something else stands where the transaction would come: that error is the answer, and nothing is begun.
func TestDoOverSomethingElse(t *testing.T) {
	for at := range 4 {
		x := opens(t, 9, 9, api.Table{Floor: 2})
		x.do(t, "base", setActive(1))
		lay(t, x.m, bankA, 2+at, []api.Sector{{7: 7}})
		var ops []api.Op
		for i := range at {
			ops = append(ops, api.Op{Kind: api.OpProgram, Part: bankA, At: 2 + i, By: 6})
		}
		want(t, "Do", x.s.Do(sized(8)[2]...), api.ErrDirty)
		wantOps(t, "Do", x.m, ops)
		wantState(t, "Do", x.s, x.table, 0)
		opened(t, "Do", x.m, bankA, bankB, api.Table{}, x.table)
		begins(t, "behind", x)
	}
}

// P11.4: a transaction that doesn't fit any more begins anew at once; one that does, behind it, comes behind the table.
func TestDoOfMoreThanIsLeft(t *testing.T) {
	x := opens(t, 8, 8, api.Table{})
	x.do(t, "base")
	wantState(t, "base", x.s, x.table, 6)
	x.do(t, "of seven", sized(1)[3]...)
	wantState(t, "of seven", x.s, x.table, 6)
	if x.c.in != 1 {
		t.Error("the test's own")
	}
	x.do(t, "of four", sized(2)[2]...)
	wantState(t, "of four", x.s, x.table, 2)
	x.do(t, "of two", sized(3)[1]...)
	wantState(t, "of two", x.s, x.table, 0)
	x.do(t, "of one", sized(4)[0]...)
	wantState(t, "of one", x.s, x.table, 6)
}

// Rules: changes that are handed in aren't changed, spare room included, and not kept; a table that is told is nobody's.
func TestDoKeepsNothing(t *testing.T) {
	x := opens(t, 6, 6, api.Table{})
	for k := range 12 {
		l := sized(k)[k%3]
		room := append(slices.Clone(l), wrongChanges()[:3]...)
		want(t, "Do", x.s.Do(room[:len(l)]...), api.OK)
		if !slices.Equal(room[:len(l)], l) || !slices.Equal(room[len(l):], wrongChanges()[:3]) {
			t.Errorf("Do changed %v, or what is behind", l)
		}
		clear(room)
		x.table, _ = plainApply(x.table, l)
		told := x.s.Table()
		told.Slots[0], told.Active, told.Floor = api.Slot{Status: 4}, 1, 99
		if x.s.Table() != x.table {
			t.Errorf("the table is %v, want %v", x.s.Table(), x.table)
		}
		opened(t, "behind", x.m, bankA, bankB, api.Table{}, x.table)
	}
}
