package digest

import (
	"encoding/hex"
	"strings"
	"testing"

	"bootjack/api"
)

// eachByte: Hashes in which, together, each byte stands at each place.
func eachByte() []api.Hash {
	hashes := make([]api.Hash, 256)
	for i := range hashes {
		for k := range hashes[i] {
			hashes[i][k] = byte(i + 11*k)
		}
	}
	return hashes
}

// P2.2: the digits of each byte, the higher one first, at its place; and Parse back.
func TestTextAndBack(t *testing.T) {
	for _, h := range eachByte() {
		s := Text(h)
		if want := hex.EncodeToString(h[:]); s != want {
			t.Errorf("%s, want %s", s, want)
		}
		if got, ok := Parse(s); !ok || got != h {
			t.Errorf("Parse(%s) = %x, %v", s, got, ok)
		}
	}
}

// P2.2: the least and the greatest Hash: noughts are a Hash like others, told by the true beside it.
func TestTextAtTheEdges(t *testing.T) {
	var least, greatest api.Hash
	for i := range greatest {
		greatest[i] = 255
	}
	for s, h := range map[string]api.Hash{strings.Repeat("0", 64): least, strings.Repeat("f", 64): greatest} {
		if got := Text(h); got != s {
			t.Errorf("Text: %s, want %s", got, s)
		}
		if got, ok := Parse(s); !ok || got != h {
			t.Errorf("Parse(%s) = %x, %v", s, got, ok)
		}
	}
}

// refused fails unless that is no Text of any Hash.
func refused(t *testing.T, s string) {
	t.Helper()
	if h, ok := Parse(s); ok || h != (api.Hash{}) {
		t.Errorf("Parse(%q) = %x, %v", s, h, ok)
	}
}

// P2.2: each length but the one, of digits alone.
func TestParseOfOtherLengths(t *testing.T) {
	digits := strings.Repeat("1a", 100)
	for n := range len(digits) + 1 {
		if n != 64 {
			refused(t, digits[:n])
		}
	}
	refused(t, strings.Repeat("1a", 1<<16))
}

// P2.2: each byte that is no digit, at each place; of the letters, capital ones too.
func TestParseOfOtherLetters(t *testing.T) {
	text := Text(Sum([]byte("abc")))
	for c := range 256 {
		if strings.IndexByte("0123456789abcdef", byte(c)) >= 0 {
			continue
		}
		for at := range len(text) {
			refused(t, text[:at]+string([]byte{byte(c)})+text[at+1:])
		}
	}
}

// P2.2: texts that other readers would take.
func TestParseOfNearlyTexts(t *testing.T) {
	text := Text(Sum([]byte("abc")))
	for _, s := range []string{
		strings.ToUpper(text),
		"0x" + text[2:],
		"+" + text[1:],
		"-" + text[1:],
		" " + text[1:],
		text[:63] + "\n",
		text + "\n",
		" " + text,
		text[:31] + "_" + text[32:],
		text + text,
		strings.Repeat("é", 32),
		strings.Repeat("é", 64),
		strings.Repeat("１", 64),
		strings.Repeat("\xff", 64),
		strings.Repeat("\x00", 64),
	} {
		refused(t, s)
	}
}
