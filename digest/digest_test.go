package digest

import (
	"bytes"
	"crypto/sha256"
	"strings"
	"testing"

	"bootjack/api"
)

// someBytes: n bytes among which each one is met, in an order in which no two blocks are the same.
func someBytes(n int) []byte {
	b := make([]byte, n)
	for i := range b {
		b[i] = byte(i*7 + i/256*3 + i/64)
	}
	return b
}

// edges: lengths at which the noughts, or the blocks, become others.
func edges() []int {
	return []int{0, 1, 54, 55, 56, 57, 62, 63, 64, 65, 118, 119, 120, 121, 127, 128, 129, 183, 184, 191, 192, 1000}
}

// written: a Digest into which that was written at once.
func written(b []byte) *Digest {
	d := New()
	d.Write(b)
	return d
}

// P2.1: the chapter's example, and others that are known.
func TestSumOfKnown(t *testing.T) {
	for s, want := range map[string]string{
		"":    "e3b0c44298fc1c149afbf4c8996fb92427ae41e4649b934ca495991b7852b855",
		"a":   "ca978112ca1bbdcafac231b39a23dc4da786eff8147c4e72b9807785afee48bb",
		"abc": "ba7816bf8f01cfea414140de5dae2223b00361a396177a9cb410ff61f20015ad",
		"abcdbcdecdefdefgefghfghighijhijkijkljklmklmnlmnomnopnopq":                                                         "248d6a61d20638b8e5c026930c3e6039a33ce45964ff2167f6ecedd419db06c1",
		"abcdefghbcdefghicdefghijdefghijkefghijklfghijklmghijklmnhijklmnoijklmnopjklmnopqklmnopqrlmnopqrsmnopqrstnopqrstu": "cf5b16a778af8380036ce59e7b0492370b249b11e8f07a51afac45037afee9d1",
		strings.Repeat("a", 1000000): "cdc76e5c9914fb9281a1c7e284d73e67f1809a48a497200e046d39ccc7112cd0",
	} {
		if got := Text(Sum([]byte(s))); got != want {
			t.Errorf("Sum of %d bytes (%.10q): %s, want %s", len(s), s, got, want)
		}
	}
}

// P2.1: no parts, and parts without bytes, are no bytes.
func TestSumOfNothing(t *testing.T) {
	want := api.Hash(sha256.Sum256(nil))
	for i, parts := range [][][]byte{nil, {}, {nil}, {{}}, {nil, {}, nil}} {
		if got := Sum(parts...); got != want {
			t.Errorf("%d: %s", i, Text(got))
		}
	}
	if got := Sum(); got != want {
		t.Errorf("no parts: %s", Text(got))
	}
}

// P2.1: each length over several blocks, as the library has it.
func TestSumAtEachLength(t *testing.T) {
	b := someBytes(400)
	for n := range len(b) + 1 {
		if got, want := Sum(b[:n]), api.Hash(sha256.Sum256(b[:n])); got != want {
			t.Errorf("%d bytes: %s, want %s", n, Text(got), Text(want))
		}
	}
}

// P2.1: the number of bits stands in more than one byte, and in more than two, where it must.
func TestSumOfLong(t *testing.T) {
	for _, n := range []int{31, 32, 8191, 8192, 65536, 2097151, 2097152, 2097153} {
		b := someBytes(n)
		if got, want := Sum(b), api.Hash(sha256.Sum256(b)); got != want {
			t.Errorf("%d bytes: %s, want %s", n, Text(got), Text(want))
		}
	}
}

// P2.1: each byte by itself, so that none is taken for another.
func TestSumOfEachByte(t *testing.T) {
	for c := range 256 {
		b := []byte{byte(c)}
		if got, want := Sum(b), api.Hash(sha256.Sum256(b)); got != want {
			t.Errorf("byte %d: %s, want %s", c, Text(got), Text(want))
		}
	}
}

// P2.1: the same bytes in one part, in two cut anywhere, in three, in one a byte, and with empty ones between.
func TestSumIsOfAllParts(t *testing.T) {
	for _, n := range edges() {
		b := someBytes(n)
		want := api.Hash(sha256.Sum256(b))
		var single [][]byte
		for i := range n + 1 {
			if got := Sum(b[:i], b[i:]); got != want {
				t.Errorf("%d bytes cut at %d: %s", n, i, Text(got))
			}
			if got := Sum(nil, b[:i/2], b[i/2:i], []byte{}, b[i:], nil); got != want {
				t.Errorf("%d bytes cut at %d and %d: %s", n, i/2, i, Text(got))
			}
		}
		for i := range b {
			single = append(single, b[i:i+1], nil)
		}
		if got := Sum(single...); got != want {
			t.Errorf("%d bytes one by one: %s", n, Text(got))
		}
	}
}

// P2.1: parts come one behind the other, in their order.
func TestSumMindsTheOrder(t *testing.T) {
	if Sum([]byte("ab"), []byte("c")) == Sum([]byte("c"), []byte("ab")) {
		t.Error("both orders are the same")
	}
}

// P2.1: any one bit that is turned is told.
func TestSumTellsOneBit(t *testing.T) {
	b := someBytes(130)
	seen := map[api.Hash]int{Sum(b): -1}
	for i := range len(b) * 8 {
		c := bytes.Clone(b)
		c[i/8] ^= 1 << (i % 8)
		h := Sum(c)
		if other, ok := seen[h]; ok {
			t.Errorf("bits %d and %d are told alike", i, other)
		}
		seen[h] = i
	}
}

// P2.2: nothing is written into a new one, and a new one is no other's.
func TestNew(t *testing.T) {
	d := New()
	if d.Len() != 0 || d.Sum() != Sum() {
		t.Errorf("at first: %d, %s", d.Len(), Text(d.Sum()))
	}
	d.Write([]byte("abc"))
	if e := New(); e.Len() != 0 || e.Sum() != Sum() {
		t.Errorf("behind another was written: %d, %s", e.Len(), Text(e.Sum()))
	}
}

// P2.2: bytes in pieces of each size, with Sum and Len asked behind each piece, twice.
func TestWriteInPieces(t *testing.T) {
	b := someBytes(300)
	for size := 1; size <= len(b); size++ {
		d := New()
		for at := 0; at < len(b); at += size {
			end := min(at+size, len(b))
			d.Write(b[at:end])
			want := api.Hash(sha256.Sum256(b[:end]))
			if first, again := d.Sum(), d.Sum(); first != want || again != want {
				t.Fatalf("pieces of %d, behind %d: %s, then %s", size, end, Text(first), Text(again))
			}
			if d.Len() != uint64(end) {
				t.Fatalf("pieces of %d, behind %d: Len %d", size, end, d.Len())
			}
		}
	}
}

// P2.2: pieces of sizes that change, without anything asked in between.
func TestWriteInPiecesOfAnySizes(t *testing.T) {
	b := someBytes(5000)
	for first := range 130 {
		d := New()
		for at, size := 0, first; at < len(b); size = (size*5 + 13) % 131 {
			end := min(at+size, len(b))
			d.Write(b[at:end])
			at = end
		}
		if d.Len() != uint64(len(b)) || d.Sum() != sha256.Sum256(b) {
			t.Errorf("from %d on: %d, %s", first, d.Len(), Text(d.Sum()))
		}
	}
}

// P2.2: one piece of many blocks, behind a beginning of each size.
func TestWriteOfManyBlocks(t *testing.T) {
	b := someBytes(64*5 + 200)
	for n := range 130 {
		d := written(b[:n])
		d.Write(b[n:])
		if d.Sum() != sha256.Sum256(b) {
			t.Errorf("behind %d: %s", n, Text(d.Sum()))
		}
	}
}

// P2.2: a piece without bytes changes nothing.
func TestWriteOfNothing(t *testing.T) {
	for _, n := range edges() {
		b := someBytes(n)
		d := written(b)
		d.Write(nil)
		d.Write([]byte{})
		if d.Len() != uint64(n) || d.Sum() != sha256.Sum256(b) {
			t.Errorf("behind %d: %d, %s", n, d.Len(), Text(d.Sum()))
		}
		d.Write([]byte("x"))
		if d.Len() != uint64(n)+1 || d.Sum() != Sum(b, []byte("x")) {
			t.Errorf("one behind %d: %d, %s", n, d.Len(), Text(d.Sum()))
		}
	}
}

// P2.2: Len is of bytes beyond what one block, or a count of 16 bits, holds.
func TestLen(t *testing.T) {
	d := New()
	b := someBytes(65537)
	for i := range 70 {
		if d.Len() != uint64(i)*65537 {
			t.Fatalf("behind %d: %d", i, d.Len())
		}
		d.Write(b)
	}
}

// P2.2: a Copy has all that was written, and what is written into either of the two is not in the other.
func TestCopy(t *testing.T) {
	for _, n := range edges() {
		b := someBytes(n)
		d := written(b)
		e := d.Copy()
		if e == d || e.Len() != uint64(n) || e.Sum() != Sum(b) {
			t.Errorf("%d bytes: %d, %s", n, e.Len(), Text(e.Sum()))
		}
		more, other := []byte("more"), someBytes(100)
		e.Write(more)
		if d.Len() != uint64(n) || d.Sum() != Sum(b) {
			t.Errorf("%d bytes, the copy written: %d, %s", n, d.Len(), Text(d.Sum()))
		}
		d.Write(other)
		if e.Len() != uint64(n+4) || e.Sum() != Sum(b, more) {
			t.Errorf("%d bytes, the first written: the copy %d, %s", n, e.Len(), Text(e.Sum()))
		}
		if d.Len() != uint64(n+100) || d.Sum() != Sum(b, other) {
			t.Errorf("%d bytes, both written: the first %d, %s", n, d.Len(), Text(d.Sum()))
		}
	}
}

// P2.2: a Copy of a Copy is by itself too.
func TestCopyOfCopy(t *testing.T) {
	d := written([]byte("a"))
	e := d.Copy()
	f := e.Copy()
	e.Write([]byte("b"))
	f.Write([]byte("c"))
	if d.Sum() != Sum([]byte("a")) || e.Sum() != Sum([]byte("ab")) || f.Sum() != Sum([]byte("ac")) {
		t.Error(Text(d.Sum()), Text(e.Sum()), Text(f.Sum()))
	}
}

// Rules: what is handed in is not changed, spare room included, and may be written over behind the call.
func TestArgumentsStay(t *testing.T) {
	whole := someBytes(300)
	b := whole[10:150]
	parts := [][]byte{b, nil, b}
	Sum(parts...)
	d := written(b)
	want := d.Sum()
	d.Copy().Write(b)
	if !bytes.Equal(whole, someBytes(300)) {
		t.Error("bytes were changed")
	}
	if len(parts) != 3 || &parts[0][0] != &b[0] || parts[1] != nil || &parts[2][0] != &b[0] {
		t.Error("the list of parts was changed")
	}
	clear(whole)
	if d.Sum() != want {
		t.Error("bytes were kept")
	}
}

// P2: an answer hangs on nothing that other calls did.
func TestNothingIsKept(t *testing.T) {
	first := Sum([]byte("abc"))
	d := written(someBytes(77))
	Sum(someBytes(200), nil)
	d.Sum()
	if again := Sum([]byte("abc")); again != first {
		t.Errorf("%s, then %s", Text(first), Text(again))
	}
}
