package journal

import (
	"bytes"
	"math"
	"math/rand/v2"
	"slices"
	"testing"

	"bootjack/api"
	"bootjack/flash"
	"bootjack/part"
)

// pairs: two parts of four, as banks.
var pairs = [][2]int{{0, 1}, {1, 0}, {1, 2}, {2, 1}, {0, 3}, {3, 0}, {1, 3}, {3, 2}}

// P9.1: of two blank banks nothing is told; it is in b, so that the first base comes into a.
func TestOpenOfBlank(t *testing.T) {
	for _, sizes := range [][]int{{1, 1, 1, 1}, {3, 1, 4, 2}, {70, 64, 65, 63}} {
		for _, p := range pairs {
			m := made(t, sizes...)
			j := opened(t, "blank", m, p[0], p[1], 0)
			wantStays(t, "Append", m, j, func() {
				want(t, "Append", j.Append([]byte("x")), api.ErrJournal)
				want(t, "Append", j.Append(nil), api.ErrJournal)
				want(t, "Append", j.Append(make([]byte, 5000)), api.ErrJournal)
			})
			wantNext(t, "blank", m, j, p[0])
			wantBank(t, "blank", m, p[0], baseOf(1, "next"))
		}
	}
}

// P9.1: of one bank that counts all is told, whatever its numbers are; a base comes into the other one.
func TestOpenOfOneThatCounts(t *testing.T) {
	rows := [][]string{{""}, {"base"}, {"base", "one"}, {"", "", ""}, {fill(1), fill(2), "x", bodyOf(100), ""}, {bodyOf(200)}}
	for _, p := range pairs {
		for _, base := range []uint64{0, 1, 2, 255, 256, 1 << 32, 1<<62 - 100} {
			for _, row := range rows {
				for which := range 2 {
					m := made(t, 9, 11, 8, 9)
					lay(t, m, p[which], 0, baseOf(base, row...))
					j := opened(t, "one that counts", m, p[0], p[1], base+uint64(len(row))-1, row...)
					wantNext(t, "one that counts", m, j, p[1-which])
					wantBank(t, "one that counts", m, p[1-which], baseOf(base+uint64(len(row)), "next"))
				}
			}
		}
	}
}

// P9.1: of two that count the one whose base has the greater number; b, if it is the same.
func TestOpenOfTwoThatCount(t *testing.T) {
	numbers := []uint64{0, 1, 2, 9, 10, 11, 255, 256, 1 << 32, 1<<62 - 7, 1<<62 - 1, 1 << 62, 1<<63 - 1, 1 << 63, math.MaxUint64 - 3, math.MaxUint64 - 2}
	rows := [2][]string{{"in a", "more of a", "yet more"}, {"in b"}}
	for _, na := range numbers {
		for _, nb := range numbers {
			for longer := range 2 {
				m := made(t, 2, 5, 5)
				lay(t, m, 1, 0, baseOf(na, rows[longer]...))
				lay(t, m, 2, 0, baseOf(nb, rows[1-longer]...))
				counts, last, next := rows[1-longer], nb+uint64(len(rows[1-longer]))-1, 1
				if na > nb {
					counts, last, next = rows[longer], na+uint64(len(rows[longer]))-1, 2
				}
				j := opened(t, "two that count", m, 1, 2, last, counts...)
				if last < 1<<62 {
					wantNext(t, "two that count", m, j, next)
				}
			}
		}
	}
}

// P9.1: the same number: b is the second part that is handed in, not the one behind.
func TestOpenOfTheSameNumber(t *testing.T) {
	for _, p := range pairs {
		m := made(t, 2, 3, 2, 4)
		lay(t, m, p[0], 0, baseOf(7, "a", "more"))
		lay(t, m, p[1], 0, baseOf(7, "b"))
		j := opened(t, "the same number", m, p[0], p[1], 7, "b")
		wantNext(t, "the same number", m, j, p[0])
	}
}

// P9.1: a bank that begins with another kind than 1 doesn't count, whatever stands behind.
func TestOpenOfAnotherFirstKind(t *testing.T) {
	for kind := range 256 {
		if kind == 1 {
			continue
		}
		for _, first := range []uint64{0, 4, 5, 1 << 40} {
			m := made(t, 6, 6)
			lay(t, m, 0, 0, slices.Concat(frameOf(byte(kind), first, "no base"), baseOf(first+1, "base", "more")))
			opened(t, "another first kind alone", m, 0, 1, 0)
			opened(t, "another first kind alone", m, 1, 0, 0)
			lay(t, m, 1, 0, baseOf(3, "small"))
			j := opened(t, "another first kind beside one that counts", m, 1, 0, 3, "small")
			wantNext(t, "another first kind", m, j, 0)
			wantBank(t, "another first kind", m, 0, baseOf(4, "next"))
		}
	}
}

// P9.1: behind a base only frames of the kind 2 are told; another one ends it, though right ones follow.
func TestOpenOfAnotherKindBehind(t *testing.T) {
	for kind := range 256 {
		for ahead := range 3 {
			row := []string{"base", "one", "two"}[:ahead+1]
			last := 10 + uint64(ahead)
			l := slices.Concat(baseOf(10, row...), frameOf(byte(kind), last+1, "odd"), frameOf(2, last+2, "behind"), frameOf(2, last+1, "beside"))
			m := made(t, 9, 9)
			lay(t, m, 0, 0, l)
			if kind == 2 {
				opened(t, "the kind 2", m, 0, 1, last+2, append(slices.Clone(row), "odd", "behind")...)
			} else {
				opened(t, "another kind", m, 0, 1, last, row...)
			}
		}
	}
}

// P9.1: a number that isn't one more ends it, too.
func TestOpenOfAnotherNumberBehind(t *testing.T) {
	for _, last := range []uint64{0, 1, 5, 255, 256, 1<<32 - 1, 1<<62 - 1, 1 << 62, 1<<63 - 1, 1 << 63, math.MaxUint64 - 1, math.MaxUint64} {
		for _, step := range []uint64{0, 1, 2, 3, 255, 256, 257, 1 << 32, 1<<32 + 1, 1 << 63, 1<<63 + 1, math.MaxUint64, math.MaxUint64 - 1} {
			l := slices.Concat(frameOf(1, last, "base"), frameOf(2, last+step, "odd"), frameOf(2, last+step+1, "behind"), frameOf(2, last+1, "beside"))
			m := made(t, 9, 9)
			lay(t, m, 1, 0, l)
			switch {
			case step != 1 || last == math.MaxUint64:
				opened(t, "another number", m, 0, 1, last, "base")
			case last == math.MaxUint64-1:
				opened(t, "the greatest number", m, 0, 1, last+1, "base", "odd")
			default:
				opened(t, "one more", m, 0, 1, last+2, "base", "odd", "behind")
			}
		}
	}
}

// P9.1: a second base in the same bank ends it, whatever its number is.
func TestOpenOfTwoBasesInOneBank(t *testing.T) {
	for _, seq := range []uint64{0, 4, 5, 6, 7, 8, 1 << 50} {
		m := made(t, 9, 9)
		lay(t, m, 0, 0, slices.Concat(baseOf(5, "base", "one"), baseOf(seq, "second", "more")))
		lay(t, m, 1, 0, baseOf(4, "other"))
		opened(t, "two bases", m, 0, 1, 6, "base", "one")
	}
}

// torn: sectors, of which one was written only up to some place.
func torn(l []api.Sector, at, upTo int) []api.Sector {
	l = slices.Clone(l)
	s := flash.Blank()
	copy(s[:upTo], l[at][:])
	l[at] = s
	return l
}

// P9.1: a frame of which any sector was half written is none, and ends it; a base that is, is none.
func TestOpenOfTornFrames(t *testing.T) {
	row := []string{"base", bodyOf(100), "c"}
	starts := []int{0, 1, 3, 4}
	l := baseOf(20, row...)
	for at := range l {
		for upTo := range 64 {
			m := made(t, 5, 5)
			lay(t, m, 0, 0, torn(l, at, upTo))
			lay(t, m, 1, 0, baseOf(7, "old", "older"))
			left := 0
			for starts[left+1] <= at {
				left++
			}
			if left == 0 {
				opened(t, "a torn base", m, 0, 1, 8, "old", "older")
			} else {
				opened(t, "torn", m, 0, 1, 19+uint64(left), row[:left]...)
			}
		}
	}
}

// P9.1: what was written from the beginning on, but not up to its end.
func TestOpenOfTooFewSectors(t *testing.T) {
	l := baseOf(20, bodyOf(150), bodyOf(150), bodyOf(150))
	for n := range len(l) + 1 {
		m := made(t, 9, 9)
		lay(t, m, 1, 0, l[:n])
		row := []string{bodyOf(150), bodyOf(150), bodyOf(150)}[:n/3]
		last := uint64(0)
		if len(row) > 0 {
			last = 19 + uint64(len(row))
		}
		opened(t, "too few", m, 0, 1, last, row...)
	}
}

// P9.1: sectors of other bytes ahead of all, or behind a frame, end it; blank ones too.
func TestOpenOfOtherBytes(t *testing.T) {
	r := rand.New(rand.NewPCG(9, 1))
	random := func() api.Sector {
		var s api.Sector
		for i := range s {
			s[i] = byte(r.Uint32())
		}
		return s
	}
	ends := api.Sector{'B', 'J', 2, 12, 63: 0}
	for range 200 {
		for _, s := range []api.Sector{{}, ends, random(), random()} {
			m := made(t, 6, 6)
			lay(t, m, 0, 0, slices.Concat([]api.Sector{s}, baseOf(10, "a", "b")))
			lay(t, m, 1, 0, slices.Concat(baseOf(10, "a", "b"), []api.Sector{s}, frameOf(2, 12, "c")))
			opened(t, "other bytes ahead", m, 0, 1, 11, "a", "b")
			opened(t, "other bytes ahead", m, 1, 0, 11, "a", "b")
		}
	}
	for gap := 1; gap < 3; gap++ {
		m := made(t, 6, 6)
		lay(t, m, 0, gap, baseOf(10, "a", "b"))
		opened(t, "blank ones ahead", m, 0, 1, 0)
		lay(t, m, 1, 0, baseOf(5, "c"))
		lay(t, m, 1, 1+gap, frameOf(2, 6, "d"))
		opened(t, "blank ones between", m, 0, 1, 5, "c")
	}
}

// P9.1: a frame whose end lies in the part behind is none, and one that ends with its bank is told.
func TestOpenAtTheBanksEnd(t *testing.T) {
	for over := range 3 {
		m := made(t, 4, 4, 4)
		l := baseOf(3, "base", fill(3+over))
		for at, s := range l {
			want(t, "Program", m.Device().Program(4+at, s), api.OK)
		}
		if over == 0 {
			opened(t, "up to the end", m, 1, 2, 4, "base", fill(3))
		} else {
			opened(t, "over the end", m, 1, 2, 3, "base")
		}
	}
	m := made(t, 1, 1)
	for at, s := range baseOf(3, fill(2)) {
		want(t, "Program", m.Device().Program(at, s), api.OK)
	}
	opened(t, "over the end of a part of one sector", m, 0, 1, 0)
}

// P9.1: parts of different sizes, of one sector, and the longest bodies.
func TestOpenOfSizes(t *testing.T) {
	for _, p := range [][2]int{{0, 1}, {1, 0}} {
		m := made(t, 1, 200)
		lay(t, m, 0, 0, baseOf(8, "one sector"))
		opened(t, "one sector", m, p[0], p[1], 8, "one sector")
		lay(t, m, 1, 0, baseOf(9, bodyOf(4000), bodyOf(3999), bodyOf(3952), ""))
		opened(t, "the longest", m, p[0], p[1], 12, bodyOf(4000), bodyOf(3999), bodyOf(3952), "")
		m = made(t, 1, 200)
		lay(t, m, 0, 0, baseOf(30, "one sector"))
		lay(t, m, 1, 0, baseOf(9, bodyOf(4000), bodyOf(3999)))
		opened(t, "one sector that counts", m, p[0], p[1], 30, "one sector")
	}
}

// P9.1: as many frames as a device has room for.
func TestOpenOfMany(t *testing.T) {
	m := made(t, 1, 4095)
	row := make([]string, 4095)
	for i := range row {
		row[i] = bodyOf(i % 47)
	}
	lay(t, m, 1, 0, baseOf(1, row...))
	opened(t, "many", m, 0, 1, 4095, row...)
}

// P9.1, layer 6: what was done is told, kept or not, and whether the device is down or not.
func TestOpenOfWhatIsNotKept(t *testing.T) {
	m := made(t, 4, 4)
	lay(t, m, 0, 0, baseOf(1, "kept"))
	for at, s := range baseOf(2, "not kept", "nor this") {
		want(t, "Program", m.Program(1, at, s), api.OK)
	}
	opened(t, "not kept", m, 0, 1, 3, "not kept", "nor this")
	m.Device().Budget(0)
	want(t, "Sync", m.Sync(), api.ErrPower)
	opened(t, "down", m, 0, 1, 3, "not kept", "nor this")
	m.Device().Restart([]byte{64})
	opened(t, "one was kept", m, 0, 1, 2, "not kept")
	want(t, "Erase", m.Erase(1, 0), api.OK)
	opened(t, "erased", m, 0, 1, 1, "kept")
	m.Device().Restart([]byte{1})
	opened(t, "erased in part", m, 0, 1, 1, "kept")
}

// Rules: what Open tells is new memory, spare room too; writing into it changes nothing.
func TestOpenTellsNewMemory(t *testing.T) {
	m := made(t, 8, 8)
	row := []string{"base", "", fill(1), fill(2), "z"}
	lay(t, m, 0, 0, baseOf(1, row...))
	j, first := Open(m, 0, 1)
	_, second := Open(m, 0, 1)
	for k, b := range first {
		for i := range b[:cap(b)] {
			b[:cap(b)][i] ^= 255
		}
		for other, c := range first {
			if other > k && string(c) != row[other] {
				t.Errorf("bodies %d and %d share memory", k, other)
			}
		}
	}
	for i := range first[:cap(first)] {
		first[:cap(first)][i] = []byte("other")
	}
	if !slices.Equal(texts(second), row) {
		t.Error("two answers share memory")
	}
	opened(t, "behind its answer was written over", m, 0, 1, 5, row...)
	wantState(t, "behind its answer was written over", j, false, 0, 5)
	want(t, "Begin", j.Begin([]byte("new")), api.OK)
	want(t, "Append", j.Append([]byte("more")), api.OK)
	opened(t, "anew", m, 0, 1, 7, "new", "more")
	if !slices.Equal(texts(second), row) {
		t.Error("what was told changes with the banks")
	}
}

// Rules: it is known for whom it is done, and a Journal leaves that as it was.
func TestForWhom(t *testing.T) {
	m := made(t, 3, 3)
	m.As(7)
	j, _ := Open(m, 0, 1)
	want(t, "Begin", j.Begin([]byte("a")), api.OK)
	m.As(8)
	want(t, "Append", j.Append([]byte("b")), api.OK)
	ops := m.Ops()
	if !slices.Equal(ops, []api.Op{{Kind: 2, Part: 0, At: 0, By: 7}, {Kind: 2, Part: 0, At: 1, By: 8}}) || m.As(0) != 8 {
		t.Errorf("Ops() = %v", ops)
	}
}

// Rules: two Journals of one Map have what stands there in common, and nothing else.
func TestTwoJournalsOfOneMap(t *testing.T) {
	m := made(t, 4, 4, 4, 4)
	j, _ := Open(m, 0, 1)
	k, _ := Open(m, 2, 3)
	want(t, "Begin", j.Begin([]byte("a")), api.OK)
	wantState(t, "the other one", k, false, 0, 0)
	want(t, "Append", k.Append(nil), api.ErrJournal)
	want(t, "Begin", k.Begin([]byte("b")), api.OK)
	want(t, "Append", j.Append([]byte("c")), api.OK)
	want(t, "Append", j.Append([]byte("d")), api.OK)
	wantState(t, "the first one", j, true, 1, 3)
	wantState(t, "the other one", k, true, 3, 1)
	opened(t, "the first one", m, 0, 1, 3, "a", "c", "d")
	opened(t, "the other one", m, 2, 3, 1, "b")
}

// P1: of parts that there aren't, and of one part twice, each call ends.
func TestOfOtherPartsAllEnds(t *testing.T) {
	twice := [][2]int{{0, 0}, {1, 1}}
	for _, k := range outside(2) {
		twice = append(twice, [2]int{0, k}, [2]int{k, 1}, [2]int{k, k})
	}
	for _, p := range twice {
		for _, laid := range [][]api.Sector{nil, baseOf(1, "a", "b"), baseOf(1<<63, "a")} {
			m := made(t, 3, 3)
			lay(t, m, 0, 0, laid)
			lay(t, m, 1, 0, laid)
			j, _ := Open(m, p[0], p[1])
			for round := range 8 {
				if round == 5 {
					m.Device().Budget(2)
				}
				allCalls(j, m)
			}
		}
	}
}

// allCalls: each one, at arguments of all sorts.
func allCalls(j *Journal, m *part.Map) {
	for _, n := range []int{0, 1, 46, 47, 4000, 4001} {
		j.Append(make([]byte, n))
		j.Begin(make([]byte, n))
		j.Append(bytes.Repeat([]byte{255}, n))
		j.Fits(n)
	}
	j.Ready()
	j.Left()
	j.Last()
	Open(m, 0, 1)
}
