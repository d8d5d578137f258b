package slot

import (
	"fmt"
	"math/big"
	"regexp"
	"strconv"
	"strings"
	"testing"

	"bootjack/api"
)

// plainText: of a slot that can be.
func plainText(s api.Slot) string {
	switch s.Status {
	case 0:
		return "empty"
	case 1:
		return "dirty"
	case 2:
		return fmt.Sprintf("ready %d %d %x %d", s.Version, s.Size, s.Digest[:], s.Tries)
	case 3:
		return fmt.Sprintf("good %d %d %x", s.Version, s.Size, s.Digest[:])
	}
	return "bad"
}

var form = regexp.MustCompile(`\A(?:empty|dirty|bad|(?:good ([1-9][0-9]*) ([1-9][0-9]*) ([0-9a-f]{64}))|(?:ready ([1-9][0-9]*) ([1-9][0-9]*) ([0-9a-f]{64}) ([0-7])))\z`)

// plainParse: by a pattern, and numbers of any length.
func plainParse(text string) (api.Slot, bool) {
	for status, word := range []string{0: "empty", 1: "dirty", 4: "bad"} {
		if text == word && word != "" {
			return api.Slot{Status: status}, true
		}
	}
	l := form.FindStringSubmatch(text)
	if l == nil {
		return api.Slot{}, false
	}
	s := api.Slot{Status: 3}
	version, size, digest := l[1], l[2], l[3]
	if version == "" {
		s.Status, version, size, digest = 2, l[4], l[5], l[6]
		s.Tries, _ = strconv.Atoi(l[7])
	}
	v, _ := new(big.Int).SetString(version, 10)
	n, _ := new(big.Int).SetString(size, 10)
	if v.Cmp(big.NewInt(1<<48)) > 0 || n.Cmp(big.NewInt(65536)) > 0 {
		return api.Slot{}, false
	}
	s.Version, s.Size = v.Uint64(), int(n.Int64())
	for i := range s.Digest {
		c, _ := strconv.ParseUint(digest[2*i:2*i+2], 16, 8)
		s.Digest[i] = byte(c)
	}
	return s, true
}

func wantParse(t *testing.T, text string) {
	t.Helper()
	want, ok := plainParse(text)
	got, e := Parse(text)
	fault := api.OK
	if !ok {
		fault = api.ErrSlot
	}
	if got != want || e != fault {
		t.Errorf("Parse(%.200q) = %v, %d; want %v, %d", text, got, e, want, fault)
	}
}

// P10.3: of each slot that can be its Text, and back; of others an empty one.
func TestText(t *testing.T) {
	for _, s := range someSlots() {
		want := ""
		if plainRight(s) {
			want = plainText(s)
		}
		got := Text(s)
		if got != want {
			t.Errorf("Text(%v) = %q, want %q", s, got, want)
		}
		if want != "" {
			back, e := Parse(got)
			wantSlot(t, "Parse", got, back, e, s, true)
		}
	}
}

// P10.3: the texts written out, the chapter's example among them.
func TestTextOfKnown(t *testing.T) {
	noughts := strings.Repeat("0", 64)
	var digest api.Hash
	for i := range digest {
		digest[i] = byte(i)<<3 | 7
	}
	for i, c := range []struct {
		s    api.Slot
		text string
	}{
		{api.Slot{}, "empty"},
		{api.Slot{Status: 1}, "dirty"},
		{api.Slot{Status: 4}, "bad"},
		{api.Slot{Status: 3, Version: 7, Size: 100}, "good 7 100 " + noughts},
		{api.Slot{Status: 3, Version: 1, Size: 1}, "good 1 1 " + noughts},
		{api.Slot{Status: 3, Version: 281474976710656, Size: 65536}, "good 281474976710656 65536 " + noughts},
		{api.Slot{Status: 2, Version: 10, Size: 20, Digest: api.Hash{0xab, 31: 0x0c}}, "ready 10 20 ab" + noughts[:60] + "0c 0"},
		{api.Slot{Status: 2, Version: 9, Size: 10, Tries: 7, Digest: digest}, "ready 9 10 070f171f272f373f474f575f676f777f878f979fa7afb7bfc7cfd7dfe7eff7ff 7"},
	} {
		if got := Text(c.s); got != c.text {
			t.Errorf("%d: %q, want %q", i, got, c.text)
		}
		got, e := Parse(c.text)
		wantSlot(t, "Parse", c.text, got, e, c.s, true)
	}
}

// P10.3: numbers of each length, up to those of the limits and beyond.
func TestNumbers(t *testing.T) {
	noughts := strings.Repeat("0", 64)
	limit, _ := new(big.Int).SetString("1"+strings.Repeat("0", 40), 10)
	for n := big.NewInt(1); n.Cmp(limit) < 0; n.Mul(n, big.NewInt(10)) {
		for _, d := range []int64{-1, 0, 1, 5} {
			number := new(big.Int).Add(n, big.NewInt(d)).String()
			wantParse(t, "good "+number+" 1 "+noughts)
			wantParse(t, "good 1 "+number+" "+noughts)
			wantParse(t, "ready 1 1 "+noughts+" "+number)
		}
	}
	// those about the limits, and those that would be one if but their lowest 16, 32 or 64 bits counted
	for bit := range uint(130) {
		for _, d := range []int64{-2, -1, 0, 1, 2} {
			n := new(big.Int).Lsh(big.NewInt(1), bit)
			number := n.Add(n, big.NewInt(d)).String()
			wantParse(t, "good "+number+" 1 "+noughts)
			wantParse(t, "good 1 "+number+" "+noughts)
			wantParse(t, "ready "+number+" 2 "+noughts+" 3")
			wantParse(t, "ready 2 "+number+" "+noughts+" 3")
			wantParse(t, "ready 2 2 "+noughts+" "+number)
		}
	}
}

// P10.3: texts that are none of a slot, each with the one thing that is wrong.
func TestParseOfOthers(t *testing.T) {
	d := strings.Repeat("0123456789abcdef", 4)
	for _, text := range []string{
		"", " ", "  ", "    ", "\n", "\x00", "0", "2", "none", "slot",
		"Empty", "EMPTY", "empt", "emptyy", "empty ", " empty", "empty empty", "empty 0", "empty 0 0 " + strings.Repeat("0", 64), "empty\n", "empty\x00", "empty\xff", "\xffempty",
		"Dirty", "DIRTY", "dirty ", " dirty", "dirty 1 1 " + d, "Bad", "BAD", "bad ", " bad", "bad 1 1 " + d, "bad 1 1 " + d + " 0",
		"good", "good ", "good 1", "good 1 ", "good 1 1", "good 1 1 ", "good 1 1  ", "good  1 1 " + d, "good 1  1 " + d, "good 1 1  " + d, "good 1 1 " + d + " ", " good 1 1 " + d,
		"Good 1 1 " + d, "GOOD 1 1 " + d, "goo 1 1 " + d, "goods 1 1 " + d, "fine 1 1 " + d, "1 1 " + d, "1 1 " + d + " 3", " 1 1 " + d,
		"good 0 1 " + d, "good 01 1 " + d, "good 001 1 " + d, "good 00 1 " + d, "good +1 1 " + d, "good -1 1 " + d, "good -0 1 " + d, "good 1. 1 " + d, "good 1.0 1 " + d, "good 1e1 1 " + d, "good 0x1 1 " + d, "good 1_0 1 " + d, "good a 1 " + d, "good ١ 1 " + d, "good １ 1 " + d,
		"good 1 0 " + d, "good 1 01 " + d, "good 1 001 " + d, "good 1 +1 " + d, "good 1 -1 " + d, "good 1 1. " + d, "good 1 0x1 " + d, "good 1 1_0 " + d, "good 1 a " + d, "good 1 ٣ " + d,
		"good 281474976710657 1 " + d, "good 2814749767106560 1 " + d, "good 18446744073709551615 1 " + d, "good 18446744073709551616 1 " + d, "good 18446744073709551617 1 " + d, "good 340282366920938463463374607431768211457 1 " + d,
		"good 1 65537 " + d, "good 1 655360 " + d, "good 1 4294967297 " + d, "good 1 18446744073709551615 " + d, "good 1 18446744073709551616 " + d, "good 1 18446744073709551617 " + d,
		"good 1 1 " + d[1:], "good 1 1 " + d + "0", "good 1 1 " + strings.ToUpper(d), "good 1 1 A" + d[1:], "good 1 1 g" + d[1:], "good 1 1 0x" + d[2:], "good 1 1 \xff" + d[1:], "good 1 1 é" + d[2:], "good 1 1 " + d[:32], "good 1 1 " + d + d, "good 1 1 " + d[:32] + " " + d[32:],
		"good 1 1 " + d + " 0", "good 1 1 " + d + " 3", "good 1 1 " + d + " 3 3",
		"ready 1 1 " + d, "ready 1 1 " + d + " ", "ready 1 1 " + d + "  3", "ready 1 1 " + d + " 3 ", "ready 1 1 " + d + " 3 3", "ready 1 1 " + d + " 8", "ready 1 1 " + d + " 9", "ready 1 1 " + d + " 10", "ready 1 1 " + d + " 00", "ready 1 1 " + d + " 07", "ready 1 1 " + d + " 77", "ready 1 1 " + d + " +3", "ready 1 1 " + d + " -0", "ready 1 1 " + d + " -1", "ready 1 1 " + d + " x", "ready 1 1 " + d + " \xff", "ready 1 1 " + d + " ٣", "ready 1 1 " + d + " 18446744073709551616", "ready 1 1 " + d + " 18446744073709551619",
		"ready 3 1 1 " + d, "Ready 1 1 " + d + " 3", "READY 1 1 " + d + " 3", "ready 0 1 " + d + " 3", "ready 1 0 " + d + " 3", "ready", "ready ", "ready 1", "ready 1 1", "ready 1 1 1 1",
		"good\t1 1 " + d, "good 1\t1 " + d, "good 1 1\t" + d, "good\n1 1 " + d, "good\u00a01 1 " + d, "good\u20031 1 " + d, "good\x001 1 " + d, "good\xff1 1 " + d, "good 1\xff1 " + d, "good 1 1 " + d + "\n", "good 1 1 " + d + "\xff", "\xffgood 1 1 " + d, "good,1,1," + d,
	} {
		got, e := Parse(text)
		wantSlot(t, "Parse", strconv.Quote(text), got, e, api.Slot{}, false)
	}
}

// P10.3: each text with a rune, or a byte that is none, taken off, put in or put there instead, at each place.
func TestParseOfNearOnes(t *testing.T) {
	pieces := []string{" ", "  ", "0", "1", "7", "8", "9", "a", "f", "g", "A", "F", "G", "R", "y", "+", "-", "_", ".", "\t", "\n", "\x00", "é", "٣", "１", "\u00a0", "\ufffd", "\xff", "\xc2", "\x80", " 0", " 3"}
	for _, s := range fewSlots() {
		text := Text(s)
		for at := range len(text) + 1 {
			wantParse(t, text[:at])
			wantParse(t, text[at:])
			for _, piece := range pieces {
				wantParse(t, text[:at]+piece+text[at:])
			}
			if at == len(text) {
				continue
			}
			wantParse(t, text[:at]+text[at+1:])
			wantParse(t, text[:at]+strings.ToUpper(text[at:at+1])+text[at+1:])
			for _, piece := range pieces {
				wantParse(t, text[:at]+piece+text[at+1:])
			}
		}
	}
}

// P10.3: any rows of words that may stand in a Text, with one blank between.
func TestParseOfRows(t *testing.T) {
	d := strings.Repeat("f0", 32)
	words := []string{"", "empty", "dirty", "ready", "good", "bad", "0", "1", "7", "8", "65537", d}
	var row func(text string, n int)
	row = func(text string, n int) {
		for _, word := range words {
			wantParse(t, text+word)
			if n > 1 {
				row(text+word+" ", n-1)
			}
		}
	}
	row("", 4)
	row("ready ", 4)
	row("ready 1 7 ", 3)
	row("ready 1 7 "+d+" ", 3)
	row("good 7 1 ", 3)
}

// P10.3: slots of any numbers, there and back, and with some bytes turned.
func TestParseOfAny(t *testing.T) {
	r := seeded(2)
	for range 5000 {
		s := anySlot(r)
		text := Text(s)
		if text != plainText(s) {
			t.Errorf("Text(%v) = %q", s, text)
		}
		wantParse(t, text)
		b := []byte(text)
		for range 1 + r.IntN(3) {
			b[r.IntN(len(b))] = " 0123456789abcdef\xff"[r.IntN(18)]
		}
		wantParse(t, string(b))
	}
}

// P1: great texts end, too: of one word, of blanks alone, of as many words as there is room for.
func TestParseOfGreatOnes(t *testing.T) {
	const n = 1 << 22
	d := strings.Repeat("0", 64)
	for _, text := range []string{
		strings.Repeat(" ", n), strings.Repeat("1", n), strings.Repeat("\xff", n), strings.Repeat("good ", n/5),
		"good " + strings.Repeat("0", n) + "1 1 " + d, "good 1 " + strings.Repeat("1", n) + " " + d, "good 1 1 " + strings.Repeat("0", n),
		"good 1 1 " + d + strings.Repeat(" ", n), "ready 1 1 " + d + " " + strings.Repeat("0", n), "ready 1 1 " + d + " 1" + strings.Repeat(" 1", n/2),
	} {
		got, e := Parse(text)
		wantSlot(t, "Parse", text[:20], got, e, api.Slot{}, false)
	}
}
