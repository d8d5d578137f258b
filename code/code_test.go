package code

import (
	"bytes"
	"encoding/binary"
	"math"
	"strings"
	"testing"
)

// numbers: the least and the greatest of each size, and one whose bytes all differ.
func numbers() []uint64 {
	all := []uint64{0, 0x0123456789abcdef, 0xfedcba9876543210, 0x8877665544332211, math.MaxUint64}
	for bit := range 64 {
		all = append(all, 1<<bit, 1<<bit-1, ^uint64(1<<bit))
	}
	return all
}

// sizes: each that a number can have, and some that it can't, with the nearer of those that it can.
func sizes() map[int]int {
	all := map[int]int{
		-1: 0, -2: 0, -8: 0, -256: 0, math.MinInt32: 0, math.MinInt: 0, math.MinInt + 1: 0,
		9: 8, 10: 8, 16: 8, 64: 8, 255: 8, 256: 8, 257: 8, math.MaxInt32: 8, math.MaxInt: 8,
	}
	for size := range 9 {
		all[size] = size
	}
	return all
}

// heads: what may stand ahead.
func heads() []string {
	return []string{"", "x", "\x00\xff", strings.Repeat("head", 100)}
}

// P5.1: the lowest bytes, the lowest first, behind what is there; higher ones are cut off.
func TestFixed(t *testing.T) {
	for _, head := range heads() {
		for _, n := range numbers() {
			all := binary.LittleEndian.AppendUint64(nil, n)
			for size, count := range sizes() {
				want := head + string(all[:count])
				if got := Fixed([]byte(head), n, size); string(got) != want {
					t.Errorf("Fixed(%.5q, %x, %d) = %q, want %q", head, n, size, got, want)
				}
			}
		}
	}
}

// P5.1: the bytes written out, at each size.
func TestFixedOfKnown(t *testing.T) {
	const all = "\x88\x77\x66\x55\x44\x33\x22\x11"
	for size := range 9 {
		if got := Fixed(nil, 0x1122334455667788, size); string(got) != all[:size] {
			t.Errorf("%d: %q", size, got)
		}
	}
	for size, want := range map[int]string{-1: "", 0: "", 1: "\x01", 2: "\x01\x00", 8: "\x01\x00\x00\x00\x00\x00\x00\x00", 9: "\x01\x00\x00\x00\x00\x00\x00\x00"} {
		if got := Fixed([]byte{}, 1, size); string(got) != want {
			t.Errorf("1 in %d: %q", size, got)
		}
	}
}

// P5.1: no text, one and several, empty ones among them, and texts of any bytes.
func TestText(t *testing.T) {
	for i, c := range []struct {
		l    []string
		want string
	}{
		{nil, ""},
		{[]string{}, ""},
		{[]string{""}, "\x00\x00"},
		{[]string{"ab"}, "\x02\x00ab"}, // the chapter's example
		{[]string{"é"}, "\x02\x00\xc3\xa9"},
		{[]string{"\xff\x00"}, "\x02\x00\xff\x00"},
		{[]string{"", ""}, "\x00\x00\x00\x00"},
		{[]string{"a", "", "bcd"}, "\x01\x00a\x00\x00\x03\x00bcd"},
		{[]string{"", "ab", ""}, "\x00\x00\x02\x00ab\x00\x00"},
		{[]string{"b", "a"}, "\x01\x00b\x01\x00a"},
	} {
		for _, head := range heads() {
			if got := Text([]byte(head), c.l...); string(got) != head+c.want {
				t.Errorf("%d behind %.5q: %q, want %q", i, head, got, c.want)
			}
		}
	}
	if got := Text(nil); len(got) != 0 {
		t.Errorf("nothing: %q", got)
	}
}

// P5.1: lengths about those where a byte, or both, are full: the lowest sixteen bits, and all of the text.
func TestTextAtLengths(t *testing.T) {
	for n, length := range map[int]string{
		1: "\x01\x00", 255: "\xff\x00", 256: "\x00\x01", 257: "\x01\x01", 4660: "\x34\x12",
		65534: "\xfe\xff", 65535: "\xff\xff", 65536: "\x00\x00", 65537: "\x01\x00", 65792: "\x00\x01",
		131071: "\xff\xff", 131072: "\x00\x00", 1 << 20: "\x00\x00", 1<<20 + 258: "\x02\x01",
	} {
		s := strings.Repeat("a", n-1) + "z"
		if got := string(Text([]byte("x"), s, "b")); got != "x"+length+s+"\x01\x00b" {
			t.Errorf("%d: %d bytes, %.5q at first", n, len(got), got)
		}
	}
}

// P5.1: no list, one and several, empty ones among them.
func TestRaw(t *testing.T) {
	for i, c := range []struct {
		l    [][]byte
		want string
	}{
		{nil, ""},
		{[][]byte{}, ""},
		{[][]byte{nil}, ""},
		{[][]byte{{}}, ""},
		{[][]byte{nil, {}, nil}, ""},
		{[][]byte{{0}}, "\x00"},
		{[][]byte{[]byte("abc")}, "abc"},
		{[][]byte{[]byte("ab"), []byte("c")}, "abc"},
		{[][]byte{[]byte("c"), []byte("ab")}, "cab"},
		{[][]byte{nil, []byte("a"), {}, nil, []byte("bc"), {255}, nil}, "abc\xff"},
		{[][]byte{bytes.Repeat([]byte{7}, 70000), {8}}, strings.Repeat("\x07", 70000) + "\x08"},
	} {
		for _, head := range heads() {
			if got := Raw([]byte(head), c.l...); string(got) != head+c.want {
				t.Errorf("%d behind %.5q: %.20q, want %.20q", i, head, got, c.want)
			}
		}
	}
	if got := Raw(nil); len(got) != 0 {
		t.Errorf("nothing: %q", got)
	}
}

// P5.1: what is handed in more than once, or stands in the row behind b, is told as it was.
func TestRawOfItself(t *testing.T) {
	row := []byte("abcdefgh")
	b := row[:2]
	if got := Raw(b, b, row[2:5], row, b); string(got) != "ababcdeabcdefghab" {
		t.Errorf("%q", got)
	}
	if string(row) != "abcdefgh" {
		t.Errorf("the row: %q", row)
	}
}

// writers: each call that writes, with nothing and with something to be put behind.
func writers() map[string]func(b []byte) []byte {
	return map[string]func(b []byte) []byte{
		"Fixed -1":  func(b []byte) []byte { return Fixed(b, 5, -1) },
		"Fixed 0":   func(b []byte) []byte { return Fixed(b, 5, 0) },
		"Fixed 1":   func(b []byte) []byte { return Fixed(b, 5, 1) },
		"Fixed 8":   func(b []byte) []byte { return Fixed(b, 5, 8) },
		"Fixed 9":   func(b []byte) []byte { return Fixed(b, 5, 9) },
		"Text none": func(b []byte) []byte { return Text(b) },
		"Text one":  func(b []byte) []byte { return Text(b, "") },
		"Text two":  func(b []byte) []byte { return Text(b, "a", "bc") },
		"Raw none":  func(b []byte) []byte { return Raw(b) },
		"Raw empty": func(b []byte) []byte { return Raw(b, nil, []byte{}) },
		"Raw two":   func(b []byte) []byte { return Raw(b, []byte("ab"), []byte("c")) },
	}
}

// fill writes over all of an answer, its spare room too.
func fill(b []byte) {
	b = b[:cap(b)]
	for i := range b {
		b[i] = '!'
	}
}

// P5.1: neither b nor what stands behind it in its row changes, by the call or by what is done to the answer.
func TestAnswersAreNew(t *testing.T) {
	const row = "ahead, b, and what is behind it"
	for name, write := range writers() {
		for size := range len(row) - 6 {
			whole := []byte(row)
			b := whole[6 : 6+size]
			first := write(b)
			if string(whole) != row {
				t.Errorf("%s, %d: the call made it %q", name, size, whole)
			}
			want := string(first)
			second := write(b)
			fill(second)
			if string(first) != want {
				t.Errorf("%s, %d: the second answer is in the first", name, size)
			}
			if string(whole) != row {
				t.Errorf("%s, %d: the answer is in it: %q", name, size, whole)
			}
			fill(whole)
			if string(first) != want {
				t.Errorf("%s, %d: it is in the answer: %q, was %q", name, size, first, want)
			}
		}
	}
}

// P5.1: two answers behind one b, that has room, don't write over each other.
func TestAnswersBehindOne(t *testing.T) {
	b := make([]byte, 1, 100)
	x, y := Fixed(b, 1, 2), Fixed(b, 2, 2)
	v, w := Text(b, "v"), Text(b, "w")
	p, q := Raw(b, []byte("p")), Raw(b, []byte("q"))
	got := []string{string(x), string(y), string(v), string(w), string(p), string(q)}
	for i, want := range []string{"\x00\x01\x00", "\x00\x02\x00", "\x00\x01\x00v", "\x00\x01\x00w", "\x00p", "\x00q"} {
		if got[i] != want {
			t.Errorf("%d: %q, want %q", i, got[i], want)
		}
	}
	if room := b[:100]; !bytes.Equal(room, make([]byte, 100)) {
		t.Errorf("the room: %q", room)
	}
}

// Rules: the lists are neither changed nor kept, spare room included, and an answer shares nothing with them.
func TestListsStay(t *testing.T) {
	whole := []byte("one two three")
	room := [][]byte{whole[:3], nil, whole[4:7], whole[8:]}
	got := Raw(nil, room[:3]...)
	for i, want := range []string{"one", "", "two", "three"} {
		if string(room[i]) != want {
			t.Errorf("list %d: %q", i, room[i])
		}
	}
	fill(Raw(nil, whole))
	fill(Raw(nil, whole[:3], nil))
	fill(Raw([]byte{}, nil, whole[:3]))
	if string(whole) != "one two three" {
		t.Errorf("an answer is in the lists: %q", whole)
	}
	fill(whole)
	if string(got) != "onetwo" {
		t.Errorf("the lists are in the answer: %q", got)
	}
	texts := []string{"a", "b", "c"}
	Text(nil, texts[:2]...)
	if texts[0] != "a" || texts[1] != "b" || texts[2] != "c" {
		t.Errorf("texts: %q", texts)
	}
}

// P2: an answer hangs on nothing that other calls did.
func TestNothingIsKept(t *testing.T) {
	for name, write := range writers() {
		first := write([]byte("b"))
		for _, other := range writers() {
			other([]byte("other"))
		}
		if again := write([]byte("b")); !bytes.Equal(first, again) {
			t.Errorf("%s: %q, then %q", name, first, again)
		}
	}
}
