package part

import (
	"bytes"
	"math/rand/v2"
	"slices"
	"testing"

	"bootjack/api"
	"bootjack/flash"
)

// plain: a second Map, on a device of its own; it goes through the parts one by one, each time it is asked.
type plain struct {
	d     *flash.Device
	sizes []int
	by    int
	ops   []api.Op
}

// place: where a part's sector lies.
func (p *plain) place(part, at int) (int, api.Errno) {
	begin := 0
	for k, size := range p.sizes {
		for n := range size {
			if k == part && n == at {
				return begin + n, api.OK
			}
		}
		if k == part {
			return 0, api.ErrPlace
		}
		begin += size
	}
	return 0, api.ErrPart
}

// do: one of the two that leave an operation.
func (p *plain) do(c call) api.Errno {
	place, e := p.place(c.part, c.at)
	if e != api.OK {
		return e
	}
	op := api.Op{Kind: 1, Part: c.part, At: c.at, By: p.by}
	if c.name == "Erase" {
		e = p.d.Erase(place)
	} else {
		op.Kind = 2
		e = p.d.Program(place, c.s)
	}
	if e == api.OK {
		p.ops = append(p.ops, op)
	}
	return e
}

func (p *plain) wipe(part int) api.Errno {
	if _, e := p.place(part, 0); e != api.OK {
		return e
	}
	for at := range p.sizes[part] {
		place, _ := p.place(part, at)
		if s, _ := p.d.Read(place); s == flash.Blank() {
			continue
		}
		if e := p.do(call{name: "Erase", part: part, at: at}); e != api.OK {
			return e
		}
	}
	return api.OK
}

// call: one of a Map, or of its device, by its name.
type call struct {
	name        string
	part, at, n int
	s           api.Sector
	kept        []byte
}

// of: what a Map answers, and the number that As does.
func (c call) of(m *Map) (api.Errno, int) {
	switch c.name {
	case "Erase":
		return m.Erase(c.part, c.at), 0
	case "Program":
		return m.Program(c.part, c.at, c.s), 0
	case "Sync":
		return m.Sync(), 0
	case "Wipe":
		return m.Wipe(c.part), 0
	case "As":
		return api.OK, m.As(c.n)
	case "Budget":
		m.Device().Budget(c.n)
	case "Restart":
		m.Device().Restart(c.kept)
	}
	return api.OK, 0
}

// ofPlain: likewise, of the second one.
func (c call) ofPlain(p *plain) (api.Errno, int) {
	switch c.name {
	case "Erase", "Program":
		return p.do(c), 0
	case "Sync":
		return p.d.Sync(), 0
	case "Wipe":
		return p.wipe(c.part), 0
	case "As":
		was := p.by
		p.by = c.n
		return api.OK, was
	case "Budget":
		p.d.Budget(c.n)
	case "Restart":
		p.d.Restart(c.kept)
	}
	return api.OK, 0
}

// holdUp: the same call of both, and what can be read behind it.
func holdUp(t *testing.T, m *Map, p *plain, c call) {
	t.Helper()
	e, n := c.of(m)
	if pe, pn := c.ofPlain(p); e != pe || n != pn {
		t.Fatalf("%v: %d and %d, want %d and %d", c, e, n, pe, pn)
	}
	var all []byte
	for part := -1; part <= len(p.sizes); part++ {
		all = append(all, m.All(part)...)
		for at := -1; at <= m.Size(part); at++ {
			got, e := m.Read(part, at)
			place, pe := p.place(part, at)
			var s api.Sector
			if pe == api.OK {
				s, _ = p.d.Read(place)
			}
			if got != s || e != pe {
				t.Fatalf("behind %v: Read(%d, %d) = %v, %d, want %v, %d", c, part, at, got, e, s, pe)
			}
		}
	}
	if !bytes.Equal(all, content(p.d)[:len(all)]) || !bytes.Equal(content(m.Device()), content(p.d)) {
		t.Fatalf("behind %v: another content", c)
	}
}

func holdUpOps(t *testing.T, m *Map, p *plain) {
	t.Helper()
	if got := m.Ops(); !slices.Equal(got, p.ops) {
		t.Fatalf("Ops() = %v, want %v", got, p.ops)
	}
	p.ops = nil
}

// P7.1, P7.2: each row of up to three calls, of a Map with something written already.
func TestCallsInAnyOrder(t *testing.T) {
	calls := []call{
		{name: "Erase", part: 0}, {name: "Erase", part: 1, at: 1}, {name: "Erase", part: 1, at: 2}, {name: "Erase", part: 2},
		{name: "Program", part: 0, s: rising(1)}, {name: "Program", part: 1, s: rising(2)}, {name: "Program", part: 1, at: 1, s: flash.Blank()}, {name: "Program", part: 0, at: -1},
		{name: "Sync"}, {name: "Wipe", part: 0}, {name: "Wipe", part: 1}, {name: "Wipe", part: -1},
		{name: "As", n: 5}, {name: "As", n: -5},
		{name: "Budget", n: -1}, {name: "Budget", n: 0}, {name: "Budget", n: 1},
		{name: "Restart"}, {name: "Restart", kept: []byte{64, 5, 255, 0}},
	}
	for row := range len(calls) * len(calls) * len(calls) {
		m := made(t, flash.New(4, 1), 1, 2)
		p := &plain{d: flash.New(4, 1), sizes: []int{1, 2}}
		holdUp(t, m, p, call{name: "Program", part: 1, s: rising(99)})
		holdUp(t, m, p, call{name: "Program", part: 1, at: 1, s: rising(98)})
		for k := row; ; k /= len(calls) {
			holdUp(t, m, p, calls[k%len(calls)])
			if k < len(calls) {
				break
			}
		}
		holdUpOps(t, m, p)
		holdUpOps(t, m, p)
	}
}

// someCall: with what ends the power, or begins anew, now and then.
func someCall(r *rand.Rand, sizes []int) call {
	c := call{part: r.IntN(len(sizes)+2) - 1, at: r.IntN(6) - 1, n: r.IntN(9) - 3, s: rising(byte(r.IntN(256)))}
	switch k := r.IntN(40); {
	case k < 8:
		c.name = "Erase"
	case k < 27:
		c.name = "Program"
	case k < 30:
		c.name = "Sync"
	case k < 33:
		c.name = "Wipe"
	case k < 36:
		c.name = "As"
	case k < 38:
		c.name, c.n = "Budget", r.IntN(20)-2
	default:
		c.name = "Restart"
		c.kept = make([]byte, r.IntN(20))
		for i := range c.kept {
			c.kept[i] = byte(r.IntN(90))
		}
	}
	return c
}

// P7.1, P7.2: long rows of calls, the same ones each time.
func TestLongRows(t *testing.T) {
	for seed := range uint64(40) {
		r := rand.New(rand.NewPCG(seed, 7))
		total := r.IntN(3)
		sizes := make([]int, 1+r.IntN(4))
		for k := range sizes {
			sizes[k] = 1 + r.IntN(4)
			total += sizes[k]
		}
		wear := r.IntN(20)
		m := made(t, flash.New(total, wear), sizes...)
		p := &plain{d: flash.New(total, wear), sizes: sizes}
		for range 300 {
			holdUp(t, m, p, someCall(r, sizes))
			if r.IntN(10) == 0 {
				holdUpOps(t, m, p)
			}
		}
		holdUpOps(t, m, p)
	}
}
