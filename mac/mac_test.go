package mac

import (
	"bytes"
	"crypto/hmac"
	"crypto/sha256"
	"testing"

	"bootjack/api"
	"bootjack/digest"
)

// someBytes: n bytes among which each one is met, in an order in which no two blocks are the same.
func someBytes(n int) []byte {
	b := make([]byte, n)
	for i := range b {
		b[i] = byte(i*7 + i/256*3 + i/64 + 1)
	}
	return b
}

// library: what the library's HMAC tells.
func library(key []byte, parts ...[]byte) api.Hash {
	h := hmac.New(sha256.New, key)
	for _, b := range parts {
		h.Write(b)
	}
	return api.Hash(h.Sum(nil))
}

// P3.1: the chapter's example, and others that are known.
func TestSumOfKnown(t *testing.T) {
	rising := make([]byte, 25)
	for i := range rising {
		rising[i] = byte(i + 1)
	}
	for i, c := range []struct {
		key, b []byte
		want   string
	}{
		{[]byte("Jefe"), []byte("what do ya want for nothing?"), "5bdcc146bf60754e6a042426089575c75a003f089d2739839dec58b964ec3843"},
		{nil, nil, "b613679a0814d9ec772f95d778c35fc5ff1697c493715653c6c712144292c5ad"},
		{bytes.Repeat([]byte{0x0b}, 20), []byte("Hi There"), "b0344c61d8db38535ca8afceaf0bf12b881dc200c9833da726e9376c2e32cff7"},
		{bytes.Repeat([]byte{0xaa}, 20), bytes.Repeat([]byte{0xdd}, 50), "773ea91e36800e46854db8ebd09181a72959098b3ef8c122d9635514ced565fe"},
		{rising, bytes.Repeat([]byte{0xcd}, 50), "82558a389a443c0ea4cc819899f2083a85f0faa3e578f8077a2e3ff46729665b"},
		{bytes.Repeat([]byte{0xaa}, 131), []byte("Test Using Larger Than Block-Size Key - Hash Key First"), "60e431591ee0b67f0d8a26aacbf5b77f8e0bc6213728c5140546040f0ee37f54"},
		{bytes.Repeat([]byte{0xaa}, 131), []byte("This is a test using a larger than block-size key and a larger than block-size data. The key needs to be hashed before being used by the HMAC algorithm."), "9b09ffa71b942fcb27635fbcd5b0e944bfdc63644f0713938a7f51535c3a35e2"},
	} {
		if got := digest.Text(Sum(c.key, c.b)); got != c.want {
			t.Errorf("%d: %s, want %s", i, got, c.want)
		}
	}
}

// P3.1: a key of each length, none and 63, 64 and 65 bytes among them, as the library has it.
func TestSumAtEachKey(t *testing.T) {
	b := []byte("what do ya want for nothing?")
	for n := range 300 {
		key := someBytes(n)
		if got, want := Sum(key, b), library(key, b); got != want {
			t.Errorf("a key of %d bytes: %s, want %s", n, digest.Text(got), digest.Text(want))
		}
	}
	for _, n := range []int{1000, 65536} {
		key := someBytes(n)
		if got, want := Sum(key, b), library(key, b); got != want {
			t.Errorf("a key of %d bytes: %s, want %s", n, digest.Text(got), digest.Text(want))
		}
	}
}

// P3.1: of a key of more than 64 bytes the Sum counts, of one of 64 or fewer the key itself.
func TestSumOfLongKeyCounts(t *testing.T) {
	b := []byte("abc")
	for n := range 200 {
		key := someBytes(n)
		short := digest.Sum(key)
		if same := Sum(key, b) == Sum(short[:], b); same != (n > 64) {
			t.Errorf("a key of %d bytes and the Sum of it are told alike: %v", n, same)
		}
	}
}

// P3.1: noughts stand behind a key, up to 64 bytes, and not beyond.
func TestSumFillsTheKey(t *testing.T) {
	b := []byte("abc")
	for _, n := range []int{0, 1, 32, 63, 64} {
		key := someBytes(n)
		for more := range 70 {
			longer := append(bytes.Clone(key), make([]byte, more)...)
			if same := Sum(key, b) == Sum(longer, b); same != (more == 0 || n+more <= 64) {
				t.Errorf("a key of %d bytes, and with %d noughts behind it, are told alike: %v", n, more, same)
			}
		}
	}
}

// P3.1: no key is nil, or empty.
func TestSumOfNoKey(t *testing.T) {
	b := []byte("abc")
	want := library(nil, b)
	if got := Sum(nil, b); got != want {
		t.Errorf("nil: %s", digest.Text(got))
	}
	if got := Sum([]byte{}, b); got != want {
		t.Errorf("empty: %s", digest.Text(got))
	}
}

// P3.1: no parts, and parts without bytes, are no bytes, whatever the key.
func TestSumOfNothing(t *testing.T) {
	for _, n := range []int{0, 1, 63, 64, 65, 200} {
		key := someBytes(n)
		want := library(key)
		if got := Sum(key); got != want {
			t.Errorf("a key of %d bytes, no parts: %s", n, digest.Text(got))
		}
		for i, parts := range [][][]byte{nil, {}, {nil}, {{}}, {nil, {}, nil}} {
			if got := Sum(key, parts...); got != want {
				t.Errorf("a key of %d bytes, %d: %s", n, i, digest.Text(got))
			}
		}
	}
}

// P3.1: bytes of each length over several blocks.
func TestSumAtEachLength(t *testing.T) {
	b := someBytes(300)
	for _, key := range [][]byte{nil, []byte("Jefe"), someBytes(64), someBytes(65)} {
		for n := range len(b) + 1 {
			if got, want := Sum(key, b[:n]), library(key, b[:n]); got != want {
				t.Errorf("a key of %d bytes, %d bytes: %s, want %s", len(key), n, digest.Text(got), digest.Text(want))
			}
		}
	}
}

// P3.1: the same bytes in one part, in two cut anywhere, in three, in one a byte, and with empty ones between.
func TestSumIsOfAllParts(t *testing.T) {
	key := []byte("key")
	for _, n := range []int{1, 55, 56, 63, 64, 65, 200} {
		b := someBytes(n)
		want := library(key, b)
		var single [][]byte
		for i := range n + 1 {
			if got := Sum(key, b[:i], b[i:]); got != want {
				t.Errorf("%d bytes cut at %d: %s", n, i, digest.Text(got))
			}
			if got := Sum(key, nil, b[:i/2], b[i/2:i], []byte{}, b[i:], nil); got != want {
				t.Errorf("%d bytes cut at %d and %d: %s", n, i/2, i, digest.Text(got))
			}
		}
		for i := range b {
			single = append(single, b[i:i+1], nil)
		}
		if got := Sum(key, single...); got != want {
			t.Errorf("%d bytes one by one: %s", n, digest.Text(got))
		}
	}
}

// P3.1: parts come one behind the other, in their order, and the key is none of them.
func TestSumMindsTheOrder(t *testing.T) {
	a, b, c := []byte("ab"), []byte("c"), []byte("d")
	seen := map[api.Hash]string{}
	for name, h := range map[string]api.Hash{
		"ab: c d": Sum(a, b, c),
		"ab: d c": Sum(a, c, b),
		"c: ab d": Sum(b, a, c),
		"d: c ab": Sum(c, b, a),
		"abc: d":  Sum([]byte("abc"), c),
		"a: bcd":  Sum([]byte("a"), []byte("bcd")),
	} {
		if other, ok := seen[h]; ok {
			t.Errorf("%s and %s are told alike", name, other)
		}
		seen[h] = name
	}
}

// P3.1: any one bit that is turned, of a key of either kind or of the bytes, is told.
func TestSumTellsOneBit(t *testing.T) {
	for _, n := range []int{1, 64, 65, 100} {
		key, b := someBytes(n), someBytes(70)
		seen := map[api.Hash]int{Sum(key, b): -1}
		for i := range (n + len(b)) * 8 {
			both := append(bytes.Clone(key), b...)
			both[i/8] ^= 1 << (i % 8)
			h := Sum(both[:n], both[n:])
			if other, ok := seen[h]; ok {
				t.Errorf("a key of %d bytes: bits %d and %d are told alike", n, i, other)
			}
			seen[h] = i
		}
	}
}

// Rules: neither the key nor the parts are changed, spare room included.
func TestArgumentsStay(t *testing.T) {
	for _, n := range []int{0, 10, 63, 64, 65, 100} {
		keys, whole := someBytes(300), someBytes(300)
		key, b := keys[5:5+n], whole[10:150]
		room := [][]byte{b, nil, b, key, b}
		parts := room[:3]
		Sum(key, parts...)
		if !bytes.Equal(keys, someBytes(300)) {
			t.Errorf("a key of %d bytes was changed", n)
		}
		if !bytes.Equal(whole, someBytes(300)) {
			t.Errorf("a key of %d bytes: the parts' bytes were changed", n)
		}
		for i, want := range [][]byte{b, nil, b, key, b} {
			if got := room[i]; len(got) != len(want) || len(want) > 0 && &got[0] != &want[0] {
				t.Errorf("a key of %d bytes: the list of parts was changed at %d", n, i)
			}
		}
	}
}

// P3.1: the key's own bytes may be a part too.
func TestKeyAsPart(t *testing.T) {
	for _, n := range []int{0, 10, 64, 65, 100} {
		key := someBytes(n)
		if got, want := Sum(key, key, key), library(key, key, key); got != want {
			t.Errorf("%d bytes: %s, want %s", n, digest.Text(got), digest.Text(want))
		}
	}
}

// P2: an answer hangs on nothing that other calls did, nor on what is written over behind them.
func TestNothingIsKept(t *testing.T) {
	key, b := someBytes(30), someBytes(100)
	first := Sum(key, b)
	kept := first
	clear(key)
	clear(b)
	Sum(key, b)
	Sum(someBytes(100), nil, b)
	if first != kept {
		t.Error("the answer has changed")
	}
	if again := Sum(someBytes(30), someBytes(100)); again != first {
		t.Errorf("%s, then %s", digest.Text(first), digest.Text(again))
	}
}

// hashes: some, of which no two are the same.
func hashes() []api.Hash {
	all := []api.Hash{{}, Sum(nil), digest.Sum()}
	var full api.Hash
	for i := range full {
		full[i] = 255
	}
	return append(all, full)
}

// P3.2: each is the same as itself, and as no other one.
func TestEqual(t *testing.T) {
	for i, a := range hashes() {
		for k, b := range hashes() {
			if got := Equal(a, b); got != (i == k) {
				t.Errorf("%d and %d: %v", i, k, got)
			}
		}
	}
}

// P3.2: two that differ in one byte, at each place, by each of what it may differ by, either way round.
func TestEqualTellsOneByte(t *testing.T) {
	for _, a := range hashes() {
		for at := range a {
			for by := 1; by < 256; by++ {
				b := a
				b[at] ^= byte(by)
				if Equal(a, b) || Equal(b, a) {
					t.Fatalf("%s and %s are the same", digest.Text(a), digest.Text(b))
				}
			}
		}
	}
}

// P3.2: two that differ in two bytes, alike or so that the one makes up for the other.
func TestEqualTellsTwoBytes(t *testing.T) {
	a := Sum([]byte("key"), []byte("abc"))
	for i := range a {
		for k := range i {
			alike, swapped, moved := a, a, a
			alike[i] ^= 0x55
			alike[k] ^= 0x55
			swapped[i], swapped[k] = a[k], a[i]
			moved[i]++
			moved[k]--
			for _, b := range []api.Hash{alike, swapped, moved} {
				if Equal(a, b) != (a == b) || Equal(b, a) != (a == b) {
					t.Errorf("%s and %s: %v", digest.Text(a), digest.Text(b), Equal(a, b))
				}
			}
		}
	}
}
