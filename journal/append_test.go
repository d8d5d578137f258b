package journal

import (
	"fmt"
	"math"
	"slices"
	"testing"

	"bootjack/api"
	"bootjack/part"
)

// begun: a Journal that is ready, in a part of so many sectors, with a base of one.
func begun(t *testing.T, sectors int) (*part.Map, *Journal) {
	t.Helper()
	m := made(t, 1, sectors, 1, sectors, 1)
	j, _ := Open(m, 1, 3)
	want(t, "Begin", j.Begin([]byte("base")), api.OK)
	wantState(t, "Begin", j, true, sectors-1, 1)
	m.Ops()
	return m, j
}

// P9.3: record behind record until there is no room, of each number of sectors; Left and Last behind each.
func TestAppendUntilFull(t *testing.T) {
	for size := 1; size <= 4; size++ {
		for sectors := 1; sectors < 14; sectors++ {
			m, j := begun(t, sectors)
			told := []string{"base"}
			for j.Left() >= size {
				body := fill(size)[:63*size-17-len(told)%50]
				told = append(told, body)
				want(t, "Append", j.Append([]byte(body)), api.OK)
				wantState(t, "Append", j, true, sectors-1-size*(len(told)-1), uint64(len(told)))
				opened(t, "Append", m, 1, 3, uint64(len(told)), told...)
			}
			for range 2 {
				wantStays(t, "Append when full", m, j, func() {
					want(t, "Append when full", j.Append([]byte(fill(size))), api.ErrFull)
				})
			}
			wantBank(t, "full", m, 1, baseOf(1, told...))
			for left := j.Left(); left > 0; left-- {
				told = append(told, "")
				want(t, "Append of no byte", j.Append(nil), api.OK)
			}
			wantState(t, "full", j, true, 0, uint64(len(told)))
			wantStays(t, "Append when full", m, j, func() { want(t, "Append when full", j.Append(nil), api.ErrFull) })
			opened(t, "full", m, 1, 3, uint64(len(told)), told...)
			for _, other := range []int{0, 2, 3, 4} {
				wantBank(t, "another part", m, other, nil)
			}
		}
	}
}

// P9.3: as many bytes as fit the sectors that are left, and one more.
func TestAppendOfAsMuchAsIsLeft(t *testing.T) {
	for left := 1; left < 70; left++ {
		most := min(63*left-17, 4000)
		m, j := begun(t, left+1)
		for _, n := range []int{most + 1, most + 2, most + 63, 4001} {
			wantStays(t, "Append of too much", m, j, func() {
				want(t, "Append of too much", j.Append(make([]byte, n)), api.ErrFull)
			})
		}
		want(t, "Append of the most", j.Append([]byte(bodyOf(most))), api.OK)
		wantState(t, "Append of the most", j, true, max(left-64, 0), 2)
		opened(t, "Append of the most", m, 1, 3, 2, "base", bodyOf(most))
	}
}

// P9.3: MaxBody, and one more, with room enough for both.
func TestAppendOfTheLongest(t *testing.T) {
	m, j := begun(t, 200)
	told := []string{"base"}
	for range 3 {
		for _, n := range []int{4001, 4002, 4015, 4016, 65535, 65536, 65537, 65546, 1 << 20} {
			wantStays(t, "Append of too much", m, j, func() {
				want(t, "Append of too much", j.Append(make([]byte, n)), api.ErrFull)
			})
		}
		told = append(told, bodyOf(4000))
		want(t, "Append of the longest", j.Append([]byte(bodyOf(4000))), api.OK)
		wantState(t, "Append of the longest", j, true, 199-64*(len(told)-1), uint64(len(told)))
		opened(t, "Append of the longest", m, 1, 3, uint64(len(told)), told...)
	}
}

// P9.3: what was done to the Map by an Append: the frame, sector by sector, then a Sync.
func TestAppendOps(t *testing.T) {
	m, j := begun(t, 12)
	m.As(9)
	at, told := 1, []string{"base"}
	for size := 1; size <= 4; size++ {
		var ops []api.Op
		for range size {
			ops = append(ops, api.Op{Kind: api.OpProgram, Part: 1, At: at, By: 9})
			at++
		}
		m.Device().Budget(size + 1)
		told = append(told, fill(size))
		want(t, "Append", j.Append([]byte(fill(size))), api.OK)
		if got := m.Ops(); !slices.Equal(got, ops) {
			t.Errorf("Append did %v, want %v", got, ops)
		}
		if m.Device().Waiting() != 0 {
			t.Errorf("Append: %d wait", m.Device().Waiting())
		}
		want(t, "one step more", m.Sync(), api.ErrPower)
		m.Device().Restart(nil)
		wantBank(t, "Append", m, 1, baseOf(1, told...))
		wantState(t, "Append", j, true, 12-at, uint64(len(told)))
	}
}

// P9.3: up to 2 to the power of 62 numbers are given; from there on there is no room.
func TestAppendAtTheGreatestNumbers(t *testing.T) {
	for _, last := range []uint64{1<<62 - 4, 1<<62 - 3, 1<<62 - 2, 1<<62 - 1} {
		m := made(t, 9, 9)
		lay(t, m, 0, 0, baseOf(last, "old"))
		j, _ := Open(m, 0, 1)
		want(t, "Begin", j.Begin([]byte("base")), api.OK)
		told := []string{"base"}
		for now := last + 1; now < 1<<62; now++ {
			told = append(told, fmt.Sprint("number ", now))
			want(t, "Append", j.Append([]byte(told[len(told)-1])), api.OK)
		}
		wantState(t, "the greatest number", j, true, 9-len(told), 1<<62)
		wantStays(t, "Append", m, j, func() {
			want(t, "Append", j.Append(nil), api.ErrFull)
			want(t, "Append", j.Append(make([]byte, 4001)), api.ErrFull)
			want(t, "Begin", j.Begin(nil), api.ErrFull)
		})
		opened(t, "the greatest number", m, 0, 1, 1<<62, told...)
	}
}

// P9.3: that it isn't ready is told ahead of no room, at numbers of all sorts.
func TestAppendWhenNotReady(t *testing.T) {
	for _, last := range []uint64{0, 1, 1<<62 - 1, 1 << 62, math.MaxUint64} {
		m := made(t, 2, 2)
		lay(t, m, 0, 0, baseOf(last, "a"))
		j := opened(t, "ahead", m, 0, 1, last, "a")
		wantStays(t, "Append", m, j, func() {
			for _, n := range []int{0, 1, 46, 47, 4000, 4001} {
				want(t, "Append", j.Append(make([]byte, n)), api.ErrJournal)
			}
		})
	}
}

// P9.3: the power ends at each step; behind it what waits is what was written.
func TestAppendWithoutPower(t *testing.T) {
	for size := 1; size <= 3; size++ {
		for steps := range size + 1 {
			m, j := begun(t, 9)
			want(t, "Append", j.Append([]byte("one")), api.OK)
			m.Device().Budget(steps)
			want(t, "Append", j.Append([]byte(fill(size))), api.ErrPower)
			what := fmt.Sprint("Append of ", size, " with steps ", steps)
			wantState(t, what, j, false, 0, 2)
			if !m.Device().Down() || m.Device().Waiting() != steps {
				t.Errorf("%s: down %v, waiting %d", what, m.Device().Down(), m.Device().Waiting())
			}
			if steps == size {
				opened(t, what, m, 1, 3, 3, "base", "one", fill(size))
			} else {
				opened(t, what, m, 1, 3, 2, "base", "one")
			}
			for range 2 {
				wantStays(t, what, m, j, func() {
					want(t, what, j.Append([]byte("x")), api.ErrJournal)
					want(t, what, j.Append(nil), api.ErrJournal)
				})
				m.Device().Restart(nil)
			}
			opened(t, what, m, 1, 3, 2, "base", "one")
			wantNext(t, what, m, j, 3)
			wantState(t, what, j, true, 8, 3)
			opened(t, what, m, 1, 3, 3, "next")
		}
	}
}

// P9.3: likewise of a record that was kept, though its Append had an error.
func TestAppendBehindALostAnswer(t *testing.T) {
	m, j := begun(t, 9)
	m.Device().Budget(2)
	want(t, "Append", j.Append([]byte(fill(2))), api.ErrPower)
	m.Device().Restart(whole(m))
	wantState(t, "kept", j, false, 0, 1)
	k := opened(t, "kept", m, 1, 3, 2, "base", fill(2))
	want(t, "kept: Append", j.Append(nil), api.ErrJournal)
	want(t, "kept: Begin", j.Begin([]byte("new")), api.OK)
	wantState(t, "anew", j, true, 8, 2)
	opened(t, "anew", m, 1, 3, 2, "new")
	wantState(t, "the other one", k, false, 0, 2)
}

// P9.3: no room is told without a step, and ahead of the device's errors.
func TestAppendOfTooMuchWhileDown(t *testing.T) {
	m, j := begun(t, 3)
	m.Device().Budget(0)
	wantStays(t, "Append of too much", m, j, func() {
		want(t, "Append of too much", j.Append([]byte(fill(2)+"x")), api.ErrFull)
	})
	want(t, "Append", j.Append(nil), api.ErrPower)
	wantState(t, "Append", j, false, 0, 1)
}

// P9.3: something else stands where the record would come, at each of its sectors: that is an error of the device, though it isn't down.
func TestAppendOverSomethingElse(t *testing.T) {
	for at := range 3 {
		m, j := begun(t, 9)
		lay(t, m, 1, 1+at, []api.Sector{{7: 7}})
		want(t, "Append", j.Append([]byte(fill(3))), api.ErrDirty)
		wantState(t, "Append", j, false, 0, 1)
		if m.Device().Waiting() != at || len(m.Ops()) != at {
			t.Errorf("Append: %d wait", m.Device().Waiting())
		}
		want(t, "Append", j.Append(nil), api.ErrJournal)
		opened(t, "Append", m, 1, 3, 1, "base")
		want(t, "Begin", j.Begin([]byte("new")), api.OK)
		want(t, "Begin", j.Begin([]byte("newer")), api.OK)
		wantBank(t, "wiped", m, 1, baseOf(3, "newer"))
		wantState(t, "Begin", j, true, 8, 3)
	}
}

// P9.3: what stands behind the record doesn't matter.
func TestAppendAheadOfSomethingElse(t *testing.T) {
	m, j := begun(t, 9)
	lay(t, m, 1, 4, []api.Sector{{7: 7}})
	want(t, "Append", j.Append([]byte(fill(3))), api.OK)
	wantState(t, "Append", j, true, 5, 2)
	opened(t, "Append", m, 1, 3, 2, "base", fill(3))
}

// P9.3: a Journal that is ready stays so while the power ends at what others do, and all that it wrote is kept.
func TestReadyOverOthersRestart(t *testing.T) {
	m, j := begun(t, 9)
	want(t, "Append", j.Append([]byte("one")), api.OK)
	m.Device().Budget(1)
	want(t, "Program", m.Program(0, 0, api.Sector{}), api.OK)
	want(t, "Sync", m.Sync(), api.ErrPower)
	wantState(t, "down", j, true, 7, 2)
	m.Device().Restart([]byte{9})
	wantState(t, "behind", j, true, 7, 2)
	want(t, "Append", j.Append([]byte("two")), api.OK)
	opened(t, "behind", m, 1, 3, 3, "base", "one", "two")
}
