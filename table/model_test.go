package table

import (
	"bytes"
	"fmt"
	"math/rand/v2"
	"slices"
	"testing"

	"bootjack/api"
	"bootjack/journal"
	"bootjack/part"
)

// plain: a second Store, on a device of its own, of the tests' own bytes on layer 9's calls.
type plain struct {
	m     *part.Map
	j     *journal.Journal
	table api.Table
}

func openPlain(m *part.Map, a, b int, first api.Table) *plain {
	j, l := journal.Open(m, a, b)
	p := &plain{m: m, j: j, table: first}
	for i, b := range l {
		var e api.Errno
		var changes []api.Change
		table := p.table
		if i == 0 {
			table, e = plainParse(b)
		} else if changes, e = plainGet(b); e == api.OK {
			table, e = plainApply(table, changes)
		}
		if e != api.OK {
			break
		}
		p.table = table
	}
	return p
}

func (p *plain) do(l []api.Change) api.Errno {
	table, e := plainApply(p.table, l)
	if e != api.OK {
		return e
	}
	e = api.ErrFull
	if p.j.Ready() {
		e = p.j.Append(plainPut(l))
	}
	if e == api.ErrFull {
		e = p.j.Begin(plainBytes(table))
	}
	if e == api.OK {
		p.table = table
	}
	return e
}

// pair: a Store and a plain one, and the Map of each.
type pair struct {
	m    *part.Map
	s    *Store
	p    *plain
	a, b int
}

// open: both anew.
func (x *pair) open(t *testing.T, what string, first api.Table) {
	t.Helper()
	s, e := Open(x.m, x.a, x.b, first)
	want(t, what, e, api.OK)
	x.s, x.p = s, openPlain(x.p.m, x.a, x.b, first)
}

// both: something that is done to both devices.
func (x *pair) both(do func(m *part.Map) api.Errno) (api.Errno, api.Errno) {
	return do(x.m), do(x.p.m)
}

// foreign: a frame from elsewhere stands in a bank, perhaps one that counts.
func (x *pair) foreign(r *rand.Rand) (api.Errno, api.Errno) {
	body := [][]byte{nil, {0}, {1, 2, 1}, {1, 2, 2}, plainBytes(anyTable(r)), make([]byte, 102), make([]byte, 20)}[r.IntN(7)]
	bank, at := r.IntN(2), r.IntN(4)
	l := frameOf(byte(1+r.IntN(2)), x.p.j.Last()+uint64(r.IntN(3)), body)
	return x.both(func(m *part.Map) api.Errno {
		e := api.OK
		for i, s := range l {
			e = max(e, m.Program(bank, at+i, s))
		}
		return e
	})
}

// turn: the same thing of both, and what is told behind it.
func (x *pair) turn(t *testing.T, r *rand.Rand, what string) {
	t.Helper()
	var e, pe api.Errno
	switch k := r.IntN(30); {
	case k < 18:
		l := anyChanges(r, x.p.table.Floor)
		e, pe = x.s.Do(l...), x.p.do(l)
	case k < 20:
		steps := r.IntN(14) - 1
		e, pe = x.both(func(m *part.Map) api.Errno { m.Device().Budget(steps); return api.OK })
	case k < 23 || x.m.Device().Down():
		kept := make([]byte, r.IntN(9))
		for i := range kept {
			kept[i] = byte(r.IntN(5) * 16)
		}
		e, pe = x.both(func(m *part.Map) api.Errno { m.Device().Restart(kept); return api.OK })
	case k < 26:
		x.open(t, what, anyTable(r))
	case k < 27:
		e, pe = x.both(func(m *part.Map) api.Errno { return m.Sync() })
	case k < 29:
		e, pe = x.foreign(r)
	case k < 30:
		bank, at := r.IntN(2), r.IntN(4)
		e, pe = x.both(func(m *part.Map) api.Errno { return m.Erase(bank, at) })
	}
	if e != pe {
		t.Fatalf("%s: %d, want %d", what, e, pe)
	}
	if x.s.Table() != x.p.table || x.s.Left() != x.p.j.Left() {
		t.Fatalf("%s: %v, %d left, want %v, %d", what, x.s.Table(), x.s.Left(), x.p.table, x.p.j.Left())
	}
	if !slices.Equal(x.m.Ops(), x.p.m.Ops()) || !bytes.Equal(content(x.m), content(x.p.m)) {
		t.Fatalf("%s: something else was done", what)
	}
	if x.m.Device().Waiting() != x.p.m.Device().Waiting() || x.m.Device().Down() != x.p.m.Device().Down() {
		t.Fatalf("%s: something else waits", what)
	}
}

// P11.3, P11.4: long rows of calls of all sorts, the same ones each time, against a second Store.
func TestAgainstPlain(t *testing.T) {
	for seed := range uint64(300) {
		r := seeded(1000 + seed)
		sizes := []int{1 + r.IntN(16), 1 + r.IntN(16)}
		wear := 2 + r.IntN(60)
		x := &pair{m: worn(t, wear, sizes...), a: r.IntN(2)}
		x.b = 1 - x.a
		x.p = &plain{m: worn(t, wear, sizes...)}
		x.open(t, "blank", anyTable(r))
		for turn := range 150 {
			x.turn(t, r, fmt.Sprint(seed, ".", turn, " "))
		}
	}
}
