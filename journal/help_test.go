package journal

import (
	"bytes"
	"encoding/binary"
	"hash/crc32"
	"math"
	"slices"
	"strings"
	"testing"

	"bootjack/api"
	"bootjack/flash"
	"bootjack/part"
)

// frameOf: the sectors of a frame as layer 8's promise has them, by no call of the project.
func frameOf(kind byte, seq uint64, body string) []api.Sector {
	row := []byte{'B', 'J', kind}
	row = binary.LittleEndian.AppendUint64(row, seq)
	row = binary.LittleEndian.AppendUint16(row, uint16(len(body)))
	row = append(row, body...)
	row = binary.LittleEndian.AppendUint32(row, crc32.ChecksumIEEE(row))
	for len(row)%63 != 0 {
		row = append(row, 255)
	}
	var l []api.Sector
	for at := 0; at < len(row); at += 63 {
		l = append(l, api.Sector(append(slices.Clone(row[at:at+63]), 0)))
	}
	return l
}

// baseOf: a base, and what was appended to it.
func baseOf(seq uint64, bodies ...string) []api.Sector {
	var l []api.Sector
	for i, body := range bodies {
		kind := byte(2)
		if i == 0 {
			kind = 1
		}
		l = append(l, frameOf(kind, seq+uint64(i), body)...)
	}
	return l
}

// bodyOf: so many bytes, no two beside each other the same.
func bodyOf(length int) string {
	b := make([]byte, length)
	for i := range b {
		b[i] = byte(i*7 + i/256 + 3)
	}
	return string(b)
}

// fill: a body of which a frame has so many sectors, and one byte more would have one more.
func fill(sectors int) string { return bodyOf(63*sectors - 17) }

// made: a Map of such parts, on a device that has no more than these.
func made(t *testing.T, sizes ...int) *part.Map { return worn(t, 1000, sizes...) }

// worn: likewise, of which each sector may be erased so often.
func worn(t *testing.T, wear int, sizes ...int) *part.Map {
	t.Helper()
	total := 0
	for _, size := range sizes {
		total += size
	}
	m, e := part.New(flash.New(total, wear), sizes...)
	if e != api.OK {
		t.Fatalf("parts of %v: %d", sizes, e)
	}
	return m
}

// lay: sectors stand in a part from a place on, and are kept; no operation of it is told any more.
func lay(t *testing.T, m *part.Map, bank, at int, sectors []api.Sector) {
	t.Helper()
	for i, s := range sectors {
		want(t, "lay", m.Program(bank, at+i, s), api.OK)
	}
	want(t, "lay", m.Sync(), api.OK)
	m.Ops()
}

// want: the error that a call should have told.
func want(t *testing.T, what string, got, e api.Errno) {
	t.Helper()
	if got != e {
		t.Errorf("%s: %d, want %d", what, got, e)
	}
}

// wantState: what a Journal should tell of itself.
func wantState(t *testing.T, what string, j *Journal, ready bool, left int, last uint64) {
	t.Helper()
	if j.Ready() != ready || j.Left() != left || j.Last() != last {
		t.Errorf("%s: Ready %v, Left %d, Last %d, want %v, %d, %d", what, j.Ready(), j.Left(), j.Last(), ready, left, last)
	}
}

// texts: bodies as texts.
func texts(l [][]byte) []string {
	var all []string
	for _, b := range l {
		all = append(all, string(b))
	}
	return all
}

// short: bodies, as a fault of a test tells them.
func short(l []string) string {
	var all []string
	for _, s := range l {
		if len(s) > 12 {
			s = s[:12] + "..."
		}
		all = append(all, s)
	}
	return strings.Join(all, "|")
}

// opened: what Open tells; it must be these bodies, nothing may be done, and it isn't ready.
func opened(t *testing.T, what string, m *part.Map, a, b int, last uint64, bodies ...string) *Journal {
	t.Helper()
	m.Ops()
	before, waiting := content(m), m.Device().Waiting()
	j, l := Open(m, a, b)
	if got := texts(l); !slices.Equal(got, bodies) {
		t.Errorf("%s: Open tells %d: %q, want %d: %q", what, len(got), short(got), len(bodies), short(bodies))
	}
	wantState(t, what, j, false, 0, last)
	if got := m.Ops(); len(got) != 0 || !bytes.Equal(content(m), before) || m.Device().Waiting() != waiting {
		t.Errorf("%s: Open did %v", what, got)
	}
	return j
}

// wantNext: a Begin comes into that part.
func wantNext(t *testing.T, what string, m *part.Map, j *Journal, bank int) {
	t.Helper()
	m.Ops()
	want(t, what+": Begin", j.Begin([]byte("next")), api.OK)
	ops := m.Ops()
	for _, op := range ops {
		if op.Part != bank {
			t.Errorf("%s: Begin did %v, of another part than %d", what, op, bank)
		}
	}
	if len(ops) == 0 {
		t.Errorf("%s: Begin did nothing", what)
	}
}

// content: the bytes of all parts.
func content(m *part.Map) []byte {
	var all []byte
	for k := range m.Parts() {
		all = append(all, m.All(k)...)
	}
	return all
}

// wantStays: a call that changes nothing, of the device or of the Journal.
func wantStays(t *testing.T, what string, m *part.Map, j *Journal, call func()) {
	t.Helper()
	m.Ops()
	before, waiting, down := content(m), m.Device().Waiting(), m.Device().Down()
	ready, left, last := j.Ready(), j.Left(), j.Last()
	call()
	if ops := m.Ops(); len(ops) != 0 || !bytes.Equal(content(m), before) || m.Device().Waiting() != waiting || m.Device().Down() != down {
		t.Errorf("%s did %v", what, ops)
	}
	wantState(t, what, j, ready, left, last)
}

// wantBank: sectors stand at the beginning of a part, and all behind them are blank.
func wantBank(t *testing.T, what string, m *part.Map, bank int, sectors []api.Sector) {
	t.Helper()
	for at := range m.Size(bank) {
		s := flash.Blank()
		if at < len(sectors) {
			s = sectors[at]
		}
		if got, _ := m.Read(bank, at); got != s {
			t.Errorf("%s: sector %d of part %d is %v, want %v", what, at, bank, got, s)
		}
	}
	if len(sectors) > m.Size(bank) {
		t.Errorf("%s: part %d is too small", what, bank)
	}
}

// outside: numbers of parts of which a Map of so many has none.
func outside(count int) []int {
	return []int{math.MinInt, math.MinInt + 1, -count, -2, -1, count, count + 1, 4096, math.MaxInt32, math.MaxInt - 1, math.MaxInt}
}

// whole: of all that waits each sector's all bytes.
func whole(m *part.Map) []byte {
	return bytes.Repeat([]byte{64}, m.Device().Waiting())
}
