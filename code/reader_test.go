package code

import (
	"bytes"
	"encoding/binary"
	"math"
	"strconv"
	"strings"
	"testing"

	"bootjack/api"
)

// wantState: how many are left, the error, and what End says of both; twice, since none of the three changes anything.
func wantState(t *testing.T, r *Reader, left int, e api.Errno) {
	t.Helper()
	end := e
	if e == api.OK && left > 0 {
		end = api.ErrForm
	}
	for range 2 {
		if r.Left() != left || r.Err() != e || r.End() != end {
			t.Errorf("Left %d, Err %d, End %d; want %d, %d, %d", r.Left(), r.Err(), r.End(), left, e, end)
		}
	}
}

// wantFailed: that error stays, whatever is asked, and each call answers nothing.
func wantFailed(t *testing.T, r *Reader, e api.Errno) {
	t.Helper()
	wantState(t, r, 0, e)
	for _, n := range []int{math.MinInt, -1, 0, 1, 2, 3, 8, 9, 65535, 65536, math.MaxInt} {
		if number := r.Fixed(n); number != 0 {
			t.Errorf("behind an error Fixed(%d) = %d", n, number)
		}
		wantState(t, r, 0, e)
		if s := r.Text(n); s != "" {
			t.Errorf("behind an error Text(%d) = %q", n, s)
		}
		wantState(t, r, 0, e)
		if b := r.Raw(n); len(b) != 0 {
			t.Errorf("behind an error Raw(%d) = %q", n, b)
		}
		wantState(t, r, 0, e)
	}
}

// P5.2: a new Reader has all bytes, and no error.
func TestNew(t *testing.T) {
	wantState(t, New(nil), 0, api.OK)
	wantState(t, New([]byte{}), 0, api.OK)
	wantState(t, New(make([]byte, 0, 9)), 0, api.OK)
	wantState(t, New([]byte{0}), 1, api.OK)
	wantState(t, New(make([]byte, 70000)), 70000, api.OK)
	wantState(t, New(make([]byte, 3, 9)), 3, api.OK)
}

// P5.2: the number of so many bytes at each size, with none, one too few, just enough, and more than enough.
func TestReaderFixed(t *testing.T) {
	all := []byte{0x81, 0x72, 0x63, 0x54, 0x45, 0x36, 0x27, 0x98, 0xa9, 0xba, 0xcb}
	for size, count := range sizes() {
		for n := range len(all) + 1 {
			r := New(all[:n:n])
			got := r.Fixed(size)
			if n < count {
				if got != 0 {
					t.Errorf("Fixed(%d) of %d bytes = %x", size, n, got)
				}
				wantFailed(t, r, api.ErrShort)
				continue
			}
			var whole [8]byte
			copy(whole[:], all[:count])
			if want := binary.LittleEndian.Uint64(whole[:]); got != want {
				t.Errorf("Fixed(%d) of %d bytes = %x, want %x", size, n, got, want)
			}
			wantState(t, r, n-count, api.OK)
		}
	}
}

// P5.2: what stands behind the row's end is none of the Reader's.
func TestReaderMindsTheEnd(t *testing.T) {
	row := []byte{1, 0, 'a', 'b'}
	r := New(row[:1])
	if n := r.Fixed(2); n != 0 {
		t.Errorf("Fixed: %x", n)
	}
	wantFailed(t, r, api.ErrShort)
	r = New(row[:2])
	if b := r.Raw(3); len(b) != 0 {
		t.Errorf("Raw: %q", b)
	}
	wantFailed(t, r, api.ErrShort)
	r = New(row[:2])
	if s := r.Text(9); s != "" {
		t.Errorf("Text: %q", s)
	}
	wantFailed(t, r, api.ErrShort)
}

// P5.1, P5.2: what Fixed has written is read again, but for what was cut off.
func TestFixedAndBack(t *testing.T) {
	for _, n := range numbers() {
		for size, count := range sizes() {
			want := n
			if count < 8 {
				want = n % (1 << (8 * count))
			}
			r := New(append(Fixed(nil, n, size), 'x'))
			if got := r.Fixed(size); got != want {
				t.Errorf("%x in %d: %x, want %x", n, size, got, want)
			}
			wantState(t, r, 1, api.OK)
		}
	}
}

// P5.2: so many bytes, none below 1, with none, one too few, just enough, and more than enough.
func TestReaderRaw(t *testing.T) {
	all := []byte("abcdefghijkl")
	for n := range len(all) + 1 {
		for _, size := range []int{math.MinInt, math.MinInt32, -256, -2, -1, 0, 1, 2, 3, 7, 8, 9, 11, 12, 13, 256, math.MaxInt32, math.MaxInt} {
			r := New(all[:n:n])
			got := r.Raw(size)
			count := max(size, 0)
			if n < count {
				if len(got) != 0 {
					t.Errorf("Raw(%d) of %d bytes = %q", size, n, got)
				}
				wantFailed(t, r, api.ErrShort)
				continue
			}
			if string(got) != string(all[:count]) {
				t.Errorf("Raw(%d) of %d bytes = %q", size, n, got)
			}
			wantState(t, r, n-count, api.OK)
		}
	}
}

// P5.2: what Raw tells is new memory, and what the Reader looks at is not changed.
func TestReaderRawIsNew(t *testing.T) {
	const row = "abcdefgh"
	for size := range len(row) + 1 {
		b := []byte(row)
		r := New(b)
		first, second := r.Raw(size), New(b).Raw(size)
		fill(first)
		if string(b) != row {
			t.Errorf("%d: the answer is in the row: %q", size, b)
		}
		if string(second) != row[:size] {
			t.Errorf("%d: the first answer is in the second: %q", size, second)
		}
		if rest := r.Raw(len(row) - size); string(rest) != row[size:] {
			t.Errorf("%d: the rest is %q", size, rest)
		}
		fill(b)
		if string(second) != row[:size] {
			t.Errorf("%d: the row is in the answer: %q", size, second)
		}
	}
}

// P5.2: a text is kept as it was, whatever becomes of the row.
func TestReaderTextIsNew(t *testing.T) {
	b := Text(nil, "abc")
	s := New(b).Text(3)
	fill(b)
	if s != "abc" {
		t.Errorf("%q", s)
	}
}

// P5.2: a length about the most that it may be, with none of the text behind it, one byte too few, just enough, and more.
func TestReaderText(t *testing.T) {
	for _, length := range []int{0, 1, 2, 3, 255, 256, 257, 4660, 65534, 65535} {
		for _, behind := range []int{0, length - 1, length, length + 1, length + 300} {
			if behind < 0 {
				continue
			}
			text := strings.Repeat("é\xff", behind/3+1)[:behind]
			row := append(Fixed(nil, uint64(length), 2), text...)
			for _, most := range []int{math.MinInt, -65536, -1, 0, 1, length - 1, length, length + 1, 65535, 65536, math.MaxInt} {
				r := New(row)
				got := r.Text(most)
				want, e := "", api.OK
				switch {
				case length > most:
					e = api.ErrForm
				case length > behind:
					e = api.ErrShort
				default:
					want = text[:length]
				}
				if got != want {
					t.Errorf("length %d, %d behind it, most %d: %.10q, want %.10q", length, behind, most, got, want)
				}
				if e != api.OK {
					wantFailed(t, r, e)
				} else {
					wantState(t, r, behind-length, api.OK)
				}
			}
		}
	}
}

// P5.2: where there is no length, nothing is above most, whatever most is.
func TestReaderTextWithoutLength(t *testing.T) {
	for _, row := range [][]byte{nil, {}, {0}, {1}, {255}} {
		for _, most := range []int{math.MinInt, -1, 0, 1, 255, 65535, math.MaxInt} {
			r := New(row)
			if s := r.Text(most); s != "" {
				t.Errorf("%v, most %d: %q", row, most, s)
			}
			wantFailed(t, r, api.ErrShort)
		}
	}
}

// P5.1, P5.2: texts that Text has written are read again, one behind the other.
func TestTextAndBack(t *testing.T) {
	texts := []string{"", "ab", "é", "\xff\x00", strings.Repeat("x", 256), "", strings.Repeat("z", 65535)}
	r := New(Text(nil, texts...))
	for i, want := range texts {
		if got := r.Text(len(want)); got != want {
			t.Errorf("%d: %.10q", i, got)
		}
	}
	wantState(t, r, 0, api.OK)
}

// P5.1, P5.2: of a text of more than 65535 bytes just what its length tells is read.
func TestLongTextAndBack(t *testing.T) {
	s := "abc" + strings.Repeat("x", 65536)
	r := New(Text(nil, s))
	if got := r.Text(65535); got != "abc" {
		t.Errorf("%.10q", got)
	}
	wantState(t, r, 65536, api.OK)
}

// P5.2: the first error stays, also where a later call would have had the other one.
func TestFirstErrorStays(t *testing.T) {
	r := New([]byte{3, 0, 'a', 'b', 'c', 'd'})
	r.Text(2)
	wantFailed(t, r, api.ErrForm)
	r = New([]byte{3, 0, 'a', 'b'})
	r.Text(3)
	wantFailed(t, r, api.ErrShort)
	r = New([]byte{3, 0, 'a', 'b'})
	r.Raw(5)
	r.Text(-1)
	wantFailed(t, r, api.ErrShort)
}

// P5.2: the ErrForm that End tells is none of the Reader's: it reads on, and End tells of what it has then.
func TestEndChangesNothing(t *testing.T) {
	r := New([]byte("abc"))
	for i, want := range []string{"a", "b", "c"} {
		if e := r.End(); e != api.ErrForm {
			t.Errorf("End ahead of %d: %d", i, e)
		}
		if r.Err() != api.OK || r.Left() != 3-i {
			t.Errorf("behind End, ahead of %d: Err %d, Left %d", i, r.Err(), r.Left())
		}
		if got := r.Raw(1); string(got) != want {
			t.Errorf("%d: %q", i, got)
		}
	}
	wantState(t, r, 0, api.OK)
	r.Fixed(1)
	wantFailed(t, r, api.ErrShort)
}

// P5.2: reads of nothing are no errors, at the end and ahead of it.
func TestReadsOfNothing(t *testing.T) {
	for _, n := range []int{0, 1, 9} {
		r := New(make([]byte, n))
		for _, size := range []int{math.MinInt, -1, 0} {
			if number := r.Fixed(size); number != 0 {
				t.Errorf("Fixed(%d) = %d", size, number)
			}
			if b := r.Raw(size); len(b) != 0 {
				t.Errorf("Raw(%d) = %q", size, b)
			}
			wantState(t, r, n, api.OK)
		}
	}
}

// P2: two Readers of one row don't know of each other, and an error of one is none of another's.
func TestReadersAreTheirOwn(t *testing.T) {
	b := []byte("abcd")
	x, y := New(b), New(b)
	x.Raw(2)
	wantState(t, y, 4, api.OK)
	x.Raw(3)
	wantFailed(t, x, api.ErrShort)
	wantState(t, y, 4, api.OK)
	wantState(t, New(b), 4, api.OK)
	if got := y.Raw(4); string(got) != "abcd" {
		t.Errorf("%q", got)
	}
}

// Rules: no call of a Reader changes its row, spare room included.
func TestRowStays(t *testing.T) {
	whole := []byte("\x02\x00abcdefgh\x09\x00ijkl")
	want := bytes.Clone(whole)
	r := New(whole[:14:16])
	r.Text(2)
	r.Fixed(3)
	r.Raw(2)
	r.End()
	r.Text(100)
	r.Text(100)
	if !bytes.Equal(whole, want) {
		t.Errorf("%q", whole)
	}
}

// plain: a second reader, that has a place in the row, and asks for its error ahead of all else.
type plain struct {
	row []byte
	at  int
	e   api.Errno
}

// step: one call, by its name, and what it tells.
func (p *plain) step(name string, n int) string {
	count, answer := 0, ""
	switch name {
	case "Fixed":
		count, answer = sizes()[n], "0"
	case "Raw":
		count = max(n, 0)
	case "Text":
		count = 2
	}
	if p.e != api.OK {
		return answer
	}
	rest := p.row[p.at:]
	if name == "Text" && len(rest) >= 2 {
		if count = 2 + int(rest[0]) + 256*int(rest[1]); count-2 > n {
			p.e = api.ErrForm
			return answer
		}
	}
	if len(rest) < count {
		p.e = api.ErrShort
		return answer
	}
	p.at += count
	switch name {
	case "Fixed":
		number := uint64(0)
		for i := count - 1; i >= 0; i-- {
			number = number*256 + uint64(rest[i])
		}
		return strconv.FormatUint(number, 10)
	case "Text":
		return string(rest[2:count])
	}
	return string(rest[:count])
}

// left: none behind an error.
func (p *plain) left() int {
	if p.e != api.OK {
		return 0
	}
	return len(p.row) - p.at
}

// stepOf: the same call of a Reader.
func stepOf(r *Reader, name string, n int) string {
	switch name {
	case "Fixed":
		return strconv.FormatUint(r.Fixed(n), 10)
	case "Raw":
		return string(r.Raw(n))
	}
	return r.Text(n)
}

// P5.2: each row of up to four calls, with all that can be asked behind each, of each beginning of some bytes.
func TestCallsInAnyOrder(t *testing.T) {
	type call struct {
		name string
		n    int
	}
	calls := []call{
		{"Fixed", -1}, {"Fixed", 0}, {"Fixed", 1}, {"Fixed", 2}, {"Fixed", 8}, {"Fixed", 9},
		{"Raw", -1}, {"Raw", 0}, {"Raw", 1}, {"Raw", 3},
		{"Text", -1}, {"Text", 0}, {"Text", 1}, {"Text", 65535},
	}
	whole := []byte{1, 0, 1, 0, 0, 7, 2, 0, 0, 0, 3, 1}
	for n := range len(whole) + 1 {
		for row := range len(calls) * len(calls) * len(calls) * len(calls) {
			r, p := New(whole[:n]), &plain{row: whole[:n]}
			for k := row; ; k /= len(calls) {
				c := calls[k%len(calls)]
				if got, want := stepOf(r, c.name, c.n), p.step(c.name, c.n); got != want {
					t.Fatalf("%d bytes, row %d: %s(%d) = %q, want %q", n, row, c.name, c.n, got, want)
				}
				wantState(t, r, p.left(), p.e)
				if t.Failed() {
					t.Fatalf("%d bytes, row %d, behind %s(%d)", n, row, c.name, c.n)
				}
				if k < len(calls) {
					break
				}
			}
		}
	}
}
