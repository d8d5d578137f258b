package crc

import (
	"bytes"
	"hash/crc32"
	"testing"
)

// allBytes: every byte there is, so that each bit of one is met both ways.
func allBytes() []byte {
	b := make([]byte, 256)
	for i := range b {
		b[i] = byte(i)
	}
	return b
}

// known: texts and their sums, as they are known from elsewhere.
func known() map[string]uint32 {
	return map[string]uint32{
		"":                 0,
		"a":                0xE8B7BE43,
		"abc":              0x352441C2,
		"123456789":        0xCBF43926,
		"\x00":             0xD202EF8D,
		"\xff":             0xFF000000,
		"\x00\x00\x00\x00": 0x2144DF1C,
		"\xff\xff\xff\xff": 0xFFFFFFFF,
		"message digest":   0x20159D7F,
		"The quick brown fox jumps over the lazy dog": 0x414FA339,
	}
}

// P1.1: the chapter's example, and others that are known.
func TestSumOfKnown(t *testing.T) {
	for s, want := range known() {
		if got := Sum([]byte(s)); got != want {
			t.Errorf("Sum(%q) = %08X, want %08X", s, got, want)
		}
	}
}

// P1.1: of no bytes the register is turned as it was at first, however the nothing is handed in.
func TestSumOfNothing(t *testing.T) {
	for i, parts := range [][][]byte{nil, {}, {nil}, {{}}, {nil, {}, nil}} {
		if got := Sum(parts...); got != 0 {
			t.Errorf("%d: %08X, want 0", i, got)
		}
	}
	if got := Sum(); got != 0 {
		t.Errorf("no parts: %08X, want 0", got)
	}
}

// P1.1: parts without bytes change nothing, wherever they stand.
func TestSumWithEmptyParts(t *testing.T) {
	const want = 0xCBF43926
	for i, parts := range [][][]byte{
		{nil, []byte("123456789")},
		{[]byte("123456789"), nil},
		{{}, []byte("123456789"), {}},
		{[]byte("1234"), nil, {}, []byte("56789")},
	} {
		if got := Sum(parts...); got != want {
			t.Errorf("%d: %08X, want %08X", i, got, want)
		}
	}
}

// P1.1: the same bytes in one part, in two cut anywhere, and in one a byte.
func TestSumIsOfAllParts(t *testing.T) {
	b := allBytes()
	want := crc32.ChecksumIEEE(b)
	var single [][]byte
	for i := range b {
		if got := Sum(b[:i], b[i:]); got != want {
			t.Errorf("cut at %d: %08X, want %08X", i, got, want)
		}
		single = append(single, b[i:i+1])
	}
	if got := Sum(b); got != want {
		t.Errorf("whole: %08X, want %08X", got, want)
	}
	if got := Sum(single...); got != want {
		t.Errorf("byte by byte: %08X, want %08X", got, want)
	}
}

// P1.1: parts come one behind the other, in their order.
func TestSumMindsTheOrder(t *testing.T) {
	if a, b := Sum([]byte("12"), []byte("34")), Sum([]byte("34"), []byte("12")); a == b {
		t.Errorf("both orders: %08X", a)
	}
}

// P1.1: each byte by itself, and each length up to some, as the library has them.
func TestSumAgainstLibrary(t *testing.T) {
	b := allBytes()
	for i := range b {
		if got, want := Sum(b[i:i+1]), crc32.ChecksumIEEE(b[i:i+1]); got != want {
			t.Errorf("byte %d: %08X, want %08X", i, got, want)
		}
		if got, want := Sum(b[:i]), crc32.ChecksumIEEE(b[:i]); got != want {
			t.Errorf("first %d: %08X, want %08X", i, got, want)
		}
	}
	long := bytes.Repeat(b, 1024)
	if got, want := Sum(long), crc32.ChecksumIEEE(long); got != want {
		t.Errorf("long: %08X, want %08X", got, want)
	}
}

// P1.1: one turned bit is always told.
func TestSumTellsOneBit(t *testing.T) {
	b := []byte("123456789")
	for i := range len(b) * 8 {
		c := bytes.Clone(b)
		c[i/8] ^= 1 << (i % 8)
		if Sum(c) == Sum(b) {
			t.Errorf("bit %d isn't told", i)
		}
	}
}

// P1.2: others behind some, cut anywhere: none ahead and none behind are the edges.
func TestMore(t *testing.T) {
	for s, want := range known() {
		for i := range len(s) + 1 {
			if got := More(Sum([]byte(s[:i])), []byte(s[i:])); got != want {
				t.Errorf("%q cut at %d: %08X, want %08X", s, i, got, want)
			}
		}
	}
}

// P1.2: with none behind the sum stays, whatever it is: each number of 32 bits is the sum of some bytes.
func TestMoreWithNone(t *testing.T) {
	for _, sum := range []uint32{0, 1, 0xCBF43926, 0x80000000, 0xFFFFFFFE, 0xFFFFFFFF} {
		if got := More(sum, nil); got != sum {
			t.Errorf("nil behind %08X: %08X", sum, got)
		}
		if got := More(sum, []byte{}); got != sum {
			t.Errorf("empty behind %08X: %08X", sum, got)
		}
	}
}

// P1.2: with none ahead it is the Sum of what is behind.
func TestMoreOfNone(t *testing.T) {
	b := allBytes()
	if got, want := More(Sum(), b), Sum(b); got != want {
		t.Errorf("%08X, want %08X", got, want)
	}
}

// P1.2: any sum is gone on with as the library does.
func TestMoreOfAnySum(t *testing.T) {
	b := allBytes()
	for _, sum := range []uint32{0, 1, 0xDEADBEEF, 0x80000000, 0xFFFFFFFF} {
		if got, want := More(sum, b), crc32.Update(sum, crc32.IEEETable, b); got != want {
			t.Errorf("behind %08X: %08X, want %08X", sum, got, want)
		}
	}
}

// P1.2: piece by piece, as often as there are pieces.
func TestMoreAgainAndAgain(t *testing.T) {
	b := allBytes()
	for size := 1; size <= len(b); size++ {
		sum := Sum()
		for at := 0; at < len(b); at += size {
			sum = More(sum, b[at:min(at+size, len(b))])
		}
		if want := Sum(b); sum != want {
			t.Errorf("pieces of %d: %08X, want %08X", size, sum, want)
		}
	}
}

// Rules: what is handed in is not changed, spare room included.
func TestArgumentsStay(t *testing.T) {
	whole := allBytes()
	b := whole[10:20]
	parts := [][]byte{b, nil, b}
	Sum(parts...)
	More(7, b)
	if !bytes.Equal(whole, allBytes()) {
		t.Error("bytes were changed")
	}
	if len(parts) != 3 || &parts[0][0] != &b[0] || parts[1] != nil || &parts[2][0] != &b[0] {
		t.Error("the list of parts was changed")
	}
}

// P2: nothing is kept: a call answers the same, whatever came before, and what was handed in may be written over.
func TestNothingIsKept(t *testing.T) {
	b := []byte("123456789")
	first := Sum(b)
	More(first, allBytes())
	Sum(allBytes(), b)
	if again := Sum(b); again != first {
		t.Errorf("%08X, then %08X", first, again)
	}
	clear(b)
	if got, want := Sum(b), crc32.ChecksumIEEE(make([]byte, 9)); got != want {
		t.Errorf("written over: %08X, want %08X", got, want)
	}
}
