package journal

import (
	"bytes"
	"encoding/binary"
	"fmt"
	"math/rand/v2"
	"slices"
	"testing"

	"bootjack/api"
	"bootjack/part"
)

// plain: a second Journal, on a device of its own; where it is in its bank it works out anew each time.
type plain struct {
	m     *part.Map
	banks [2]int
	in    int
	last  uint64
	ready bool
}

// plainGet: the frame at a place of a part, found by trying which body's sectors stand there.
func plainGet(m *part.Map, bank, at int) (kind byte, seq uint64, body string, size int) {
	var row []byte
	var l []api.Sector
	for ; at < m.Size(bank); at++ {
		s, _ := m.Read(bank, at)
		row, l = append(row, s[:63]...), append(l, s)
	}
	if len(row) < 17 || string(row[:2]) != "BJ" {
		return 0, 0, "", 0
	}
	for length := 0; length <= 4000 && 17+length <= len(row); length++ {
		if int(binary.LittleEndian.Uint16(row[11:])) != length {
			continue
		}
		try := frameOf(row[2], binary.LittleEndian.Uint64(row[3:]), string(row[13:13+length]))
		if len(try) <= len(l) && slices.Equal(try, l[:len(try)]) {
			return row[2], binary.LittleEndian.Uint64(row[3:]), string(row[13 : 13+length]), len(try)
		}
	}
	return 0, 0, "", 0
}

// plainRow: the bodies of a bank, its base's number, and where they end.
func plainRow(m *part.Map, bank int) (bodies []string, base uint64, end int) {
	for {
		kind, seq, body, size := plainGet(m, bank, end)
		count := uint64(len(bodies))
		switch {
		case size == 0:
			return bodies, base, end
		case count == 0 && kind == 1:
			base = seq
		case count == 0 || kind != 2 || seq != base+count || base+count < base:
			return bodies, base, end
		}
		bodies = append(bodies, body)
		end += size
	}
}

func openPlain(m *part.Map, a, b int) (*plain, []string) {
	la, na, _ := plainRow(m, a)
	lb, nb, _ := plainRow(m, b)
	p := &plain{m: m, banks: [2]int{a, b}, in: 1}
	if len(la) == 0 && len(lb) == 0 {
		return p, nil
	}
	if len(lb) == 0 || len(la) > 0 && na > nb {
		p.in, p.last = 0, na+uint64(len(la))-1
		return p, la
	}
	p.last = nb + uint64(len(lb)) - 1
	return p, lb
}

// put: each thing by itself, up to the first error.
func (p *plain) put(bank, at int, l []api.Sector) api.Errno {
	for i, s := range l {
		if e := p.m.Program(bank, at+i, s); e != api.OK {
			return e
		}
	}
	return p.m.Sync()
}

func (p *plain) begin(body string) api.Errno {
	a, b := p.m.Size(p.banks[0]), p.m.Size(p.banks[1])
	if !fits(a, len(body)) || !fits(b, len(body)) || p.last >= 1<<62 {
		return api.ErrFull
	}
	p.ready = false
	bank := p.banks[1-p.in]
	e := p.m.Wipe(bank)
	if e == api.OK {
		e = p.m.Sync()
	}
	if e == api.OK {
		e = p.put(bank, 0, frameOf(1, p.last+1, body))
	}
	if e == api.OK {
		p.in, p.last, p.ready = 1-p.in, p.last+1, true
	}
	return e
}

func (p *plain) append(body string) api.Errno {
	if !p.ready {
		return api.ErrJournal
	}
	if !fits(p.left(), len(body)) || p.last >= 1<<62 {
		return api.ErrFull
	}
	_, _, end := plainRow(p.m, p.banks[p.in])
	e := p.put(p.banks[p.in], end, frameOf(2, p.last+1, body))
	if e != api.OK {
		p.ready = false
		return e
	}
	p.last++
	return e
}

func (p *plain) left() int {
	if !p.ready {
		return 0
	}
	_, _, end := plainRow(p.m, p.banks[p.in])
	return p.m.Size(p.banks[p.in]) - end
}

// pair: a Journal and a plain one, and the Map of each.
type pair struct {
	m    *part.Map
	j    *Journal
	p    *plain
	a, b int
}

// open: both anew.
func (x *pair) open(t *testing.T, what string) {
	t.Helper()
	j, l := Open(x.m, x.a, x.b)
	p, told := openPlain(x.p.m, x.a, x.b)
	if !slices.Equal(texts(l), told) {
		t.Fatalf("%s: Open tells %q, want %q", what, short(texts(l)), short(told))
	}
	x.j, x.p = j, p
}

// both: something that is done to both devices.
func (x *pair) both(do func(m *part.Map) api.Errno) (api.Errno, api.Errno) {
	return do(x.m), do(x.p.m)
}

// turn: the same thing of both, and what is told behind it.
func (x *pair) turn(t *testing.T, r *rand.Rand, what string) {
	t.Helper()
	var e, pe api.Errno
	body := fmt.Sprint(what, bodyOf(r.IntN(190)))
	switch k := r.IntN(30); {
	case k < 7:
		e, pe = x.j.Begin([]byte(body)), x.p.begin(body)
	case k < 20:
		e, pe = x.j.Append([]byte(body)), x.p.append(body)
	case k < 22:
		steps := r.IntN(12) - 1
		e, pe = x.both(func(m *part.Map) api.Errno { m.Device().Budget(steps); return api.OK })
	case k < 24 || x.m.Device().Down():
		kept := make([]byte, r.IntN(9))
		for i := range kept {
			kept[i] = byte(r.IntN(5) * 16)
		}
		e, pe = x.both(func(m *part.Map) api.Errno { m.Device().Restart(kept); return api.OK })
	case k < 26:
		x.open(t, what)
	case k < 27:
		e, pe = x.both(func(m *part.Map) api.Errno { return m.Sync() })
	case k < 28 && !x.j.Ready():
		// In a bank that is being written a plain one wouldn't know its place.
		bank, at, l := r.IntN(2), r.IntN(3), frameOf(byte(r.IntN(3)), x.p.last+uint64(r.IntN(3)), "from elsewhere")
		e, pe = x.both(func(m *part.Map) api.Errno { return m.Program(bank, at, l[0]) })
	case k < 29 && !x.j.Ready():
		bank, at := r.IntN(2), r.IntN(4)
		e, pe = x.both(func(m *part.Map) api.Errno { return m.Erase(bank, at) })
	}
	if e != pe {
		t.Fatalf("%s: %d, want %d", what, e, pe)
	}
	wantState(t, what, x.j, x.p.ready, x.p.left(), x.p.last)
	if !slices.Equal(x.m.Ops(), x.p.m.Ops()) || !bytes.Equal(content(x.m), content(x.p.m)) {
		t.Fatalf("%s: something else was done", what)
	}
	if x.m.Device().Waiting() != x.p.m.Device().Waiting() || x.m.Device().Down() != x.p.m.Device().Down() {
		t.Fatalf("%s: something else waits", what)
	}
}

// P9.1 to P9.3: long rows of calls of all sorts, the same ones each time, against a second Journal.
func TestAgainstPlain(t *testing.T) {
	for seed := range uint64(250) {
		r := rand.New(rand.NewPCG(seed, 9))
		sizes := []int{1 + r.IntN(12), 1 + r.IntN(12)}
		wear := 2 + r.IntN(60)
		x := &pair{m: worn(t, wear, sizes...), a: r.IntN(2)}
		x.b = 1 - x.a
		x.p = &plain{m: worn(t, wear, sizes...)}
		x.open(t, "blank")
		for turn := range 150 {
			x.turn(t, r, fmt.Sprint(seed, ".", turn, " "))
		}
	}
}
