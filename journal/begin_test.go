package journal

import (
	"bytes"
	"fmt"
	"math"
	"slices"
	"testing"

	"bootjack/api"
	"bootjack/flash"
	"bootjack/part"
)

// fits: by adding sector after sector till all bytes have a place.
func fits(room, length int) bool {
	if length < 0 || length > 4000 {
		return false
	}
	size := 0
	for size*63 < 17+length {
		size++
	}
	return size <= room
}

// P9.2: Fits hangs on the smaller bank, whichever of both that is, and on nothing else.
func TestFits(t *testing.T) {
	lengths := []int{math.MinInt, math.MinInt + 1, math.MinInt32, -4000, -64, -18, -17, -16, -2, -1, 4001, 4014, 4015, 4016, 65535, 65536, 65546, 1 << 32, 1<<32 + 1, math.MaxInt32, math.MaxInt - 62, math.MaxInt - 17, math.MaxInt - 1, math.MaxInt}
	for n := range 4001 {
		lengths = append(lengths, n)
	}
	for _, small := range []int{1, 2, 3, 4, 10, 62, 63, 64, 65, 100} {
		for _, great := range []int{small, small + 1, small + 90} {
			m := made(t, great, small)
			one, _ := Open(m, 0, 1)
			two, _ := Open(m, 1, 0)
			for _, n := range lengths {
				if one.Fits(n) != fits(small, n) || two.Fits(n) != fits(small, n) {
					t.Errorf("banks of %d and %d: Fits(%d) = %v, %v", great, small, n, one.Fits(n), two.Fits(n))
				}
			}
		}
	}
}

// P9.2: Fits is of room alone: ready or not, in either bank, down, full, or behind the greatest number.
func TestFitsAtAnyTime(t *testing.T) {
	m := made(t, 2, 4)
	ask := func(what string, j *Journal) {
		t.Helper()
		for n, want := range map[int]bool{-1: false, 0: true, 109: true, 110: false, 4001: false} {
			if j.Fits(n) != want {
				t.Errorf("%s: Fits(%d) = %v", what, n, !want)
			}
		}
	}
	j, _ := Open(m, 0, 1)
	ask("blank", j)
	for range 3 {
		want(t, "Begin", j.Begin([]byte("x")), api.OK)
		ask("begun", j)
		want(t, "Append", j.Append([]byte("y")), api.OK)
		ask("appended", j)
	}
	m.Device().Budget(0)
	want(t, "Begin", j.Begin([]byte("x")), api.ErrPower)
	ask("down", j)
	m = made(t, 2, 4)
	lay(t, m, 0, 0, baseOf(math.MaxUint64, "x"))
	j, _ = Open(m, 0, 1)
	ask("the greatest number", j)
}

// P9.2: what was done to the Map by a Begin: each sector of the other bank that isn't blank is erased, then the base comes, sector by sector.
func TestBeginOps(t *testing.T) {
	for written := range 16 {
		for sectors := 1; sectors <= 4; sectors++ {
			m := made(t, 1, 4, 1, 5, 1)
			lay(t, m, 3, 0, baseOf(6, "old", "older"))
			var ops []api.Op
			for at := range 4 {
				if written>>at&1 == 1 {
					lay(t, m, 1, at, []api.Sector{{5: byte(at)}})
					ops = append(ops, api.Op{Kind: api.OpErase, Part: 1, At: at, By: 3})
				}
			}
			for at := range sectors {
				ops = append(ops, api.Op{Kind: api.OpProgram, Part: 1, At: at, By: 3})
			}
			j := opened(t, "ahead", m, 1, 3, 7, "old", "older")
			m.As(3)
			m.Device().Budget(len(ops) + 2)
			want(t, "Begin", j.Begin([]byte(fill(sectors))), api.OK)
			if got := m.Ops(); !slices.Equal(got, ops) {
				t.Errorf("Begin did %v, want %v", got, ops)
			}
			wantState(t, "Begin", j, true, 4-sectors, 8)
			if m.Device().Waiting() != 0 {
				t.Errorf("Begin: %d wait", m.Device().Waiting())
			}
			want(t, "one step more", m.Sync(), api.ErrPower)
			wantBank(t, "Begin", m, 1, baseOf(8, fill(sectors)))
			wantBank(t, "Begin", m, 3, baseOf(6, "old", "older"))
			wantBank(t, "Begin", m, 0, nil)
			wantBank(t, "Begin", m, 2, nil)
			wantBank(t, "Begin", m, 4, nil)
			m.Device().Restart(nil)
			opened(t, "behind", m, 1, 3, 8, fill(sectors))
		}
	}
}

// P9.2: bodies of all lengths that fit, from either bank to the other one, again and again.
func TestBeginAgainAndAgain(t *testing.T) {
	m := made(t, 66, 3, 64)
	j, _ := Open(m, 2, 0)
	last := uint64(0)
	for round, n := range []int{0, 1, 45, 46, 47, 4000, 3999, 0, 109, 110, 3951, 3952, 3953, 4000, 2000, 300} {
		for range 1 + round%2 {
			bank := []int{2, 0}[last%2]
			last++
			want(t, "Begin", j.Begin([]byte(bodyOf(n))), api.OK)
			l := baseOf(last, bodyOf(n))
			wantState(t, "Begin", j, true, m.Size(bank)-len(l), last)
			wantBank(t, "Begin", m, bank, l)
			opened(t, "Begin", m, 2, 0, last, bodyOf(n))
			wantBank(t, "Begin", m, 1, nil)
		}
	}
}

// P9.2: a body that doesn't fit, or is too long, changes nothing; ready stays ready.
func TestBeginOfWhatDoesNotFit(t *testing.T) {
	for _, sizes := range [][]int{{2, 5}, {5, 2}, {1, 1}, {64, 70}, {100, 100}} {
		room := min(sizes[0], sizes[1])
		most := min(63*room-17, 4000)
		m := made(t, sizes...)
		j, _ := Open(m, 0, 1)
		for round := range 4 {
			for _, n := range []int{most + 1, most + 63, 4001, 4015, 65536, 65546, 70000} {
				wantStays(t, "Begin of too much", m, j, func() {
					want(t, "Begin of too much", j.Begin(make([]byte, n)), api.ErrFull)
				})
			}
			want(t, "Begin of the most", j.Begin([]byte(bodyOf(most))), api.OK)
			opened(t, "Begin of the most", m, 0, 1, uint64(round)+1, bodyOf(most))
			wantState(t, "Begin of the most", j, true, sizes[round%2]-len(baseOf(1, bodyOf(most))), uint64(round)+1)
		}
		want(t, "Begin", j.Begin(nil), api.OK)
		left := j.Left()
		wantStays(t, "Begin of too much", m, j, func() {
			want(t, "Begin of too much", j.Begin(make([]byte, most+1)), api.ErrFull)
		})
		if left > 0 {
			want(t, "Append behind", j.Append([]byte("x")), api.OK)
			opened(t, "Append behind", m, 0, 1, 6, "", "x")
		}
	}
}

// P9.2: up to 2 to the power of 62 numbers are given; from there on there is no room.
func TestBeginAtTheGreatestNumbers(t *testing.T) {
	for _, last := range []uint64{1<<62 - 3, 1<<62 - 2, 1<<62 - 1, 1 << 62, 1<<62 + 1, 1<<63 - 1, 1 << 63, math.MaxUint64 - 1, math.MaxUint64} {
		m := made(t, 9, 9)
		lay(t, m, 0, 0, baseOf(last, "base"))
		j := opened(t, "ahead", m, 0, 1, last, "base")
		now, told := last, "base"
		for range 4 {
			if now >= 1<<62 {
				wantStays(t, "Begin", m, j, func() {
					want(t, "Begin", j.Begin([]byte("more")), api.ErrFull)
					want(t, "Begin", j.Begin(make([]byte, 4001)), api.ErrFull)
				})
				continue
			}
			now++
			told = fmt.Sprint("base ", now)
			want(t, "Begin", j.Begin([]byte(told)), api.OK)
			wantState(t, "Begin", j, true, 8, now)
		}
		opened(t, "behind", m, 0, 1, now, told)
	}
}

// P9.2: likewise at rows whose base is below that.
func TestBeginBehindALongRow(t *testing.T) {
	m := made(t, 9, 9)
	lay(t, m, 0, 0, baseOf(1<<62-2, "a", "b", "c"))
	j := opened(t, "ahead", m, 0, 1, 1<<62, "a", "b", "c")
	wantStays(t, "Begin", m, j, func() { want(t, "Begin", j.Begin(nil), api.ErrFull) })
	wantStays(t, "Append", m, j, func() { want(t, "Append", j.Append(nil), api.ErrJournal) })
}

// ahead: a Journal of two banks that both have something: a base 5 in the first, which counts, and one of 2 in the second.
func ahead(t *testing.T, wear int) (*part.Map, *Journal) {
	t.Helper()
	m := worn(t, wear, 1, 5, 4, 1)
	lay(t, m, 1, 0, baseOf(5, "old", "older"))
	lay(t, m, 2, 0, baseOf(2, "oldest", "x", "y"))
	return m, opened(t, "ahead", m, 1, 2, 6, "old", "older")
}

// P9.2: the power ends at each step; behind it what waits is just what was done since the last Sync, and all is as promised.
func TestBeginWithoutPower(t *testing.T) {
	// Three to be erased, a Sync, two to be written, a Sync.
	waiting := []int{0, 1, 2, 3, 0, 1, 2}
	for steps, wait := range waiting {
		for _, readied := range []bool{false, true} {
			m, j := ahead(t, 100)
			last, told, bank := uint64(6), []string{"old", "older"}, 2
			if readied {
				// Twice, so that the second bank has three sectors again.
				want(t, "Begin", j.Begin([]byte("again")), api.OK)
				want(t, "Begin", j.Begin([]byte(fill(3))), api.OK)
				want(t, "Begin", j.Begin([]byte(fill(3))), api.OK)
				want(t, "Begin", j.Begin([]byte("old")), api.OK)
				want(t, "Append", j.Append([]byte("older")), api.OK)
				last, bank = 11, 2
			}
			m.Ops()
			m.Device().Budget(steps)
			want(t, "Begin", j.Begin([]byte(fill(2))), api.ErrPower)
			what := fmt.Sprint("Begin with steps ", steps)
			wantState(t, what, j, false, 0, last)
			want(t, what+": Append", j.Append([]byte("x")), api.ErrJournal)
			if !m.Device().Down() || m.Device().Waiting() != wait {
				t.Errorf("%s: down %v, waiting %d, want %d", what, m.Device().Down(), m.Device().Waiting(), wait)
			}
			for _, op := range m.Ops() {
				if op.Part != bank {
					t.Errorf("%s: %v", what, op)
				}
			}
			// All that was written is there, if the power ended just at the last Sync.
			if steps == len(waiting)-1 {
				opened(t, what, m, 1, 2, last+1, fill(2))
			} else {
				opened(t, what, m, 1, 2, last, told...)
			}
			want(t, what+": down", j.Begin(nil), api.ErrPower)
			wantState(t, what, j, false, 0, last)
			m.Device().Restart(nil)
			opened(t, what, m, 1, 2, last, told...)
			wantState(t, what, j, false, 0, last)
			want(t, what+": Append", j.Append([]byte("x")), api.ErrJournal)
			wantNext(t, what, m, j, bank)
			wantBank(t, what, m, bank, baseOf(last+1, "next"))
			wantState(t, what, j, true, 3, last+1)
		}
	}
}

// P9.2: likewise of a base that was kept, though its Begin had an error: it's in its bank still, and begins with the same number anew.
func TestBeginBehindALostAnswer(t *testing.T) {
	m, j := ahead(t, 100)
	m.Device().Budget(6)
	want(t, "Begin", j.Begin([]byte(fill(2))), api.ErrPower)
	m.Device().Restart(whole(m))
	opened(t, "kept", m, 1, 2, 7, fill(2))
	wantState(t, "kept", j, false, 0, 6)
	wantNext(t, "kept", m, j, 2)
	wantBank(t, "kept", m, 2, baseOf(7, "next"))
	wantBank(t, "kept", m, 1, baseOf(5, "old", "older"))
	opened(t, "anew", m, 1, 2, 7, "next")
}

// P9.2: a blank bank needs no step to be wiped, but one to be synced.
func TestBeginInABlankBankWithoutPower(t *testing.T) {
	for steps := range 4 {
		m := made(t, 3, 3)
		j, _ := Open(m, 0, 1)
		m.Device().Budget(steps)
		e := j.Begin([]byte("a"))
		if steps < 3 {
			want(t, "Begin", e, api.ErrPower)
			wantState(t, "Begin", j, false, 0, 0)
		} else {
			want(t, "Begin", e, api.OK)
			wantState(t, "Begin", j, true, 2, 1)
		}
		if m.Device().Down() != (steps < 3) || m.Device().Waiting() != steps/2*(3-steps) {
			t.Errorf("%d steps: down %v, waiting %d", steps, m.Device().Down(), m.Device().Waiting())
		}
	}
}

// P9.2: no room is told ahead of the device's errors.
func TestBeginOfTooMuchWhileDown(t *testing.T) {
	m, j := ahead(t, 100)
	m.Device().Budget(0)
	wantStays(t, "Begin of too much", m, j, func() {
		want(t, "Begin of too much", j.Begin([]byte(fill(4)+"x")), api.ErrFull)
	})
	want(t, "Begin", j.Begin(nil), api.ErrPower)
	wantStays(t, "Begin of too much while down", m, j, func() {
		want(t, "Begin of too much while down", j.Begin([]byte(fill(4)+"x")), api.ErrFull)
	})
}

// P9.2: a sector that was erased too often, at each place of the other bank.
func TestBeginInAWornBank(t *testing.T) {
	for place := range 3 {
		m, j := ahead(t, 2)
		s, _ := m.Read(2, place)
		for range 2 {
			want(t, "Erase", m.Erase(2, place), api.OK)
			want(t, "Program", m.Program(2, place, s), api.OK)
		}
		want(t, "Sync", m.Sync(), api.OK)
		m.Ops()
		for range 2 {
			want(t, "Begin", j.Begin([]byte("new")), api.ErrWorn)
			wantState(t, "Begin", j, false, 0, 6)
			want(t, "Append", j.Append(nil), api.ErrJournal)
			opened(t, "worn", m, 1, 2, 6, "old", "older")
		}
		m.Device().Restart(nil)
		opened(t, "worn", m, 1, 2, 6, "old", "older")
		want(t, "Begin", j.Begin([]byte("new")), api.ErrWorn)
	}
}

// P9.2: again and again until the sectors are worn; what was begun last is told.
func TestBeginUntilWorn(t *testing.T) {
	m := worn(t, 3, 2, 2)
	j, _ := Open(m, 0, 1)
	count := uint64(0)
	for ; j.Begin([]byte(fmt.Sprint("base ", count))) == api.OK; count++ {
		if count > 100 {
			t.Fatal("never worn")
		}
	}
	if count != 8 {
		t.Errorf("%d times, want 8", count)
	}
	wantState(t, "worn", j, false, 0, count)
	opened(t, "worn", m, 0, 1, count, fmt.Sprint("base ", count-1))
}

// P9.2: a Begin without an error readies again, behind an error of each sort.
func TestBeginReadiesAgain(t *testing.T) {
	m := made(t, 3, 3)
	j, _ := Open(m, 0, 1)
	for round := range 5 {
		want(t, "Begin", j.Begin([]byte("a")), api.OK)
		want(t, "Append", j.Append([]byte("b")), api.OK)
		m.Device().Budget(round % 3)
		if round%2 == 0 {
			want(t, "Begin", j.Begin([]byte("c")), api.ErrPower)
		} else {
			want(t, "Append", j.Append([]byte("c")), api.ErrPower)
		}
		wantState(t, "without power", j, false, 0, uint64(2*round+2))
		m.Device().Restart(nil)
	}
}

// Rules: what is handed in isn't changed, spare room included, and not kept.
func TestBodiesAreNotKept(t *testing.T) {
	for _, n := range []int{0, 1, 46, 47, 110, 300} {
		m := made(t, 9, 9)
		j, _ := Open(m, 0, 1)
		row := []byte(bodyOf(n + 100))
		want(t, "Begin", j.Begin(row[:n]), api.OK)
		if string(row) != bodyOf(n+100) {
			t.Errorf("Begin of %d bytes changed them, or what is behind", n)
		}
		clear(row)
		opened(t, "Begin", m, 0, 1, 1, bodyOf(n))
		more := []byte(bodyOf(n + 100))
		size := len(baseOf(1, bodyOf(n)))
		if size > j.Left() {
			continue
		}
		want(t, "Append", j.Append(more[:n]), api.OK)
		if string(more) != bodyOf(n+100) {
			t.Errorf("Append of %d bytes changed them, or what is behind", n)
		}
		clear(more)
		opened(t, "Append", m, 0, 1, 2, bodyOf(n), bodyOf(n))
	}
}

// Rules: nil and empty are one.
func TestOfNoBytes(t *testing.T) {
	for _, none := range [][]byte{nil, {}, make([]byte, 0, 100)} {
		m := made(t, 2, 2)
		j, _ := Open(m, 0, 1)
		want(t, "Begin", j.Begin(none), api.OK)
		want(t, "Append", j.Append(none), api.OK)
		wantBank(t, "no bytes", m, 0, baseOf(1, "", ""))
		opened(t, "no bytes", m, 0, 1, 2, "", "")
	}
}

// P9.2: a body of bytes that are all 255 leaves no sector blank, so that the next one comes behind it.
func TestBodiesLikeBlank(t *testing.T) {
	m := made(t, 8, 8)
	j, _ := Open(m, 0, 1)
	ones := bytes.Repeat([]byte{255}, 200)
	want(t, "Begin", j.Begin(ones), api.OK)
	want(t, "Append", j.Append(ones[:150]), api.OK)
	opened(t, "like blank", m, 0, 1, 2, string(ones), string(ones[:150]))
	if s, _ := m.Read(0, 1); s == flash.Blank() {
		t.Error("a sector of a frame is blank")
	}
}
