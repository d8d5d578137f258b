package flash

import (
	"math/rand/v2"
	"testing"

	"bootjack/api"
)

// plain: a second device, that remembers what was done alone, and works out a sector each time it is asked.
type plain struct {
	size, most int
	laid       []layer // kept, the oldest first
	done       []layer
	erased     []int // the place of each Erase
	left       []int // a budget, if there is one
	down       bool
}

// layer: so many bytes from a sector's beginning on.
type layer struct {
	at, count int
	s         api.Sector
}

func (p *plain) read(at int) api.Sector {
	s := full(255)
	for _, row := range [][]layer{p.laid, p.done} {
		for _, l := range row {
			if l.at == at {
				s = laid(s, l.s, l.count)
			}
		}
	}
	return s
}

func (p *plain) wear(at int) int {
	n := 0
	for _, e := range p.erased {
		if e == at {
			n++
		}
	}
	return n
}

// step: one call, and what it tells.
func (p *plain) step(c call) api.Errno {
	switch c.name {
	case "Budget":
		p.left = nil
		if c.n >= 0 {
			p.left = []int{c.n}
		}
		return api.OK
	case "Restart":
		for k, l := range p.done {
			if l.count = 0; k < len(c.kept) {
				l.count = min(int(c.kept[k]), 64)
			}
			p.laid = append(p.laid, l)
		}
		p.done, p.left, p.down = nil, nil, false
		return api.OK
	}
	if c.name != "Sync" && (c.n < 0 || c.n >= p.size) {
		return api.ErrPlace
	}
	if p.down {
		return api.ErrPower
	}
	if c.name == "Erase" && p.wear(c.n) == p.most {
		return api.ErrWorn
	}
	if c.name == "Program" && p.read(c.n) != full(255) {
		return api.ErrDirty
	}
	if p.left != nil && p.left[0] == 0 {
		p.down = true
		return api.ErrPower
	}
	if p.left != nil {
		p.left[0]--
	}
	p.do(c)
	return api.OK
}

func (p *plain) do(c call) {
	switch c.name {
	case "Erase":
		p.erased = append(p.erased, c.n)
		p.done = append(p.done, layer{c.n, 64, full(255)})
	case "Program":
		p.done = append(p.done, layer{c.n, 64, c.s})
	case "Sync":
		p.laid = append(p.laid, p.done...)
		p.done = nil
	}
}

func (p *plain) look() seen {
	s := seen{size: p.size, waiting: len(p.done), down: p.down}
	for at := range p.size {
		s.sectors = append(s.sectors, p.read(at))
		s.wear = append(s.wear, p.wear(at))
	}
	return s
}

// call: one of a Device, by its name.
type call struct {
	name string
	n    int
	s    api.Sector
	kept []byte
}

func (c call) of(d *Device) api.Errno {
	switch c.name {
	case "Erase":
		return d.Erase(c.n)
	case "Program":
		return d.Program(c.n, c.s)
	case "Sync":
		return d.Sync()
	case "Budget":
		d.Budget(c.n)
	case "Restart":
		d.Restart(c.kept)
	}
	return api.OK
}

// holdUp: the same call of both, and all that can be asked behind it.
func holdUp(t *testing.T, d *Device, p *plain, c call) {
	t.Helper()
	if got, e := c.of(d), p.step(c); got != e {
		t.Fatalf("%s(%d, %v): %d, want %d", c.name, c.n, c.kept, got, e)
	}
	if got, s := look(d), p.look(); !got.same(s) {
		t.Fatalf("behind %s(%d, %v): %v, want %v", c.name, c.n, c.kept, got, s)
	}
}

// P6.1 to P6.3: each row of up to four calls, of a Device that has something kept already.
func TestCallsInAnyOrder(t *testing.T) {
	calls := []call{
		{name: "Erase", n: 0}, {name: "Erase", n: 1}, {name: "Erase", n: 2},
		{name: "Program", n: 0, s: rising(1)}, {name: "Program", n: 1, s: rising(2)}, {name: "Program", n: 1, s: full(255)}, {name: "Program", n: -1},
		{name: "Sync"},
		{name: "Budget", n: -1}, {name: "Budget", n: 0}, {name: "Budget", n: 1}, {name: "Budget", n: 2},
		{name: "Restart"}, {name: "Restart", kept: []byte{1}}, {name: "Restart", kept: []byte{64, 5, 255, 0}}, {name: "Restart", kept: []byte{0, 63, 64}},
	}
	for row := range len(calls) * len(calls) * len(calls) * len(calls) {
		d, p := New(2, 1), &plain{size: 2, most: 1}
		holdUp(t, d, p, call{name: "Program", s: rising(99)})
		holdUp(t, d, p, call{name: "Sync"})
		for k := row; ; k /= len(calls) {
			holdUp(t, d, p, calls[k%len(calls)])
			if k < len(calls) {
				break
			}
		}
	}
}

// someCall: with a Sync, a Budget or a Restart now and then, so that enough is done between them.
func someCall(r *rand.Rand, size int) call {
	c := call{n: r.IntN(size+2) - 1, s: rising(byte(r.IntN(256)))}
	switch k := r.IntN(40); {
	case k < 15:
		c.name = "Erase"
	case k < 34:
		c.name = "Program"
		if k < 18 {
			c.s = full(255)
		}
	case k < 36:
		c.name = "Sync"
	case k < 38:
		c.name, c.n = "Budget", r.IntN(20)-2
	default:
		c.name = "Restart"
		c.kept = make([]byte, r.IntN(25))
		for i := range c.kept {
			c.kept[i] = byte(r.IntN(90))
		}
	}
	return c
}

// P6.1 to P6.3: long rows of calls, the same ones each time.
func TestLongRows(t *testing.T) {
	for seed := range uint64(40) {
		r := rand.New(rand.NewPCG(seed, 6))
		size, most := r.IntN(5), r.IntN(30)
		d, p := New(size, most), &plain{size: size, most: most}
		for range 300 {
			holdUp(t, d, p, someCall(r, size))
		}
	}
}
