package slot

import (
	"math"
	"strings"
	"testing"
	"unicode/utf8"

	"bootjack/api"
)

// The limits and numbers on which the chapter's words and this folder's tests hang.
func TestGiven(t *testing.T) {
	if api.MaxTries != 7 || api.MaxVersion != 281474976710656 || api.MaxImage != 65536 || api.HashSize != 32 {
		t.Error("limits", api.MaxTries, uint64(api.MaxVersion), api.MaxImage, api.HashSize)
	}
	if api.SlotEmpty != 0 || api.SlotDirty != 1 || api.SlotReady != 2 || api.SlotGood != 3 || api.SlotBad != 4 || api.ErrSlot != 101 {
		t.Error("numbers")
	}
}

// P10.1: Right and Bootable of each Status with each other field at its limits and beside them.
func TestRightAndBootable(t *testing.T) {
	right, bootable := 0, 0
	for _, s := range someSlots() {
		want := plainRight(s)
		boots := want && (s.Status == 3 || s.Status == 2 && s.Tries > 0)
		if got := Right(s); got != want {
			t.Errorf("Right(%v) = %v", s, got)
		}
		if got := Bootable(s); got != boots {
			t.Errorf("Bootable(%v) = %v", s, got)
		}
		if want {
			right++
		}
		if boots {
			bootable++
		}
	}
	// six versions, four sizes and six digests that can be; of a ready slot five counts of tries, one of them 0; and three slots without an image
	if image := 6 * 4 * 6; right != 3+image+5*image || bootable != image+4*image {
		t.Error("so many can be, and be booted:", right, bootable)
	}
}

// P10.1: some of which the chapter's words say at once what they are.
func TestRightOfKnown(t *testing.T) {
	for i, c := range []struct {
		s           api.Slot
		right, boot bool
	}{
		{api.Slot{}, true, false},
		{api.Slot{Status: 1}, true, false},
		{api.Slot{Status: 2}, false, false},
		{api.Slot{Status: 3}, false, false},
		{api.Slot{Status: 4}, true, false},
		{api.Slot{Status: 5}, false, false},
		{api.Slot{Status: -1}, false, false},
		{api.Slot{Status: math.MinInt}, false, false},
		{api.Slot{Status: math.MaxInt}, false, false},
		{api.Slot{Status: 5, Version: 1, Size: 1}, false, false},
		{api.Slot{Status: -1, Version: 1, Size: 1, Tries: 1}, false, false},
		{api.Slot{Status: 2, Version: 1, Size: 1}, true, false},
		{api.Slot{Status: 2, Version: 1, Size: 1, Tries: 1}, true, true},
		{api.Slot{Status: 2, Version: 1, Size: 1, Tries: 7}, true, true},
		{api.Slot{Status: 2, Version: 1, Size: 1, Tries: 8}, false, false},
		{api.Slot{Status: 2, Version: 1, Size: 1, Tries: -1}, false, false},
		{api.Slot{Status: 3, Version: 1, Size: 1}, true, true},
		{api.Slot{Status: 3, Version: 1, Size: 1, Digest: api.Hash{9}}, true, true},
		{api.Slot{Status: 3, Version: 1, Size: 1, Tries: 1}, false, false},
		{api.Slot{Status: 3, Version: 1, Size: 1, Tries: -1}, false, false},
		{api.Slot{Status: 3, Version: 0, Size: 1}, false, false},
		{api.Slot{Status: 3, Version: 1 << 48, Size: 65536}, true, true},
		{api.Slot{Status: 3, Version: 1<<48 + 1, Size: 65536}, false, false},
		{api.Slot{Status: 3, Version: math.MaxUint64, Size: 1}, false, false},
		{api.Slot{Status: 3, Version: 1, Size: 0}, false, false},
		{api.Slot{Status: 3, Version: 1, Size: -1}, false, false},
		{api.Slot{Status: 3, Version: 1, Size: 65537}, false, false},
		{api.Slot{Status: 3, Version: 1, Size: math.MinInt}, false, false},
		{api.Slot{Status: 3, Version: 1, Size: math.MaxInt}, false, false},
	} {
		if Right(c.s) != c.right || Bootable(c.s) != c.boot {
			t.Errorf("%d: %v: %v, %v", i, c.s, Right(c.s), Bootable(c.s))
		}
	}
}

// P10.1: of slots without an image each other field by itself, and each byte of the Digest, must be zero.
func TestRightOfNothingElse(t *testing.T) {
	for _, status := range []int{0, 1, 4} {
		others := []api.Slot{{Tries: 1}, {Tries: -1}, {Tries: 7}, {Version: 1}, {Version: 1 << 63}, {Size: 1}, {Size: -1}, {Size: math.MinInt}}
		for i := range api.HashSize {
			var s api.Slot
			s.Digest[i] = 1
			others = append(others, s)
		}
		if !Right(api.Slot{Status: status}) {
			t.Error(status)
		}
		for _, s := range others {
			s.Status = status
			if Right(s) || Bootable(s) || len(Bytes(s)) != 0 || Text(s) != "" {
				t.Errorf("%v can be", s)
			}
		}
	}
}

// wantSlot: that slot, or, where it is a zero slot with an error, that error.
func wantSlot(t *testing.T, what string, of any, got api.Slot, e api.Errno, want api.Slot, ok bool) {
	t.Helper()
	fault := api.OK
	if !ok {
		want, fault = api.Slot{}, api.ErrSlot
	}
	if got != want || e != fault {
		t.Errorf("%s of %v: %v, %d; want %v, %d", what, of, got, e, want, fault)
	}
}

// P10.2: Try, Good and Bad of each slot, right or not.
func TestMoves(t *testing.T) {
	for _, s := range someSlots() {
		right := plainRight(s)
		got, e := Try(s)
		wantSlot(t, "Try", s, got, e, api.Slot{Status: 2, Tries: s.Tries - 1, Version: s.Version, Size: s.Size, Digest: s.Digest}, right && s.Status == 2 && s.Tries != 0)
		got, e = Good(s)
		wantSlot(t, "Good", s, got, e, api.Slot{Status: 3, Version: s.Version, Size: s.Size, Digest: s.Digest}, right && (s.Status == 2 || s.Status == 3))
		got, e = Bad(s)
		wantSlot(t, "Bad", s, got, e, api.Slot{Status: 4}, right && (s.Status == 2 || s.Status == 3))
	}
}

// P10.2: Ready with each of the numbers, those that can be and those that can't.
func TestReady(t *testing.T) {
	for _, tries := range someTries() {
		for _, version := range someVersions() {
			for _, size := range someSizes() {
				for _, digest := range someDigests() {
					want := api.Slot{Status: 2, Tries: tries, Version: version, Size: size, Digest: digest}
					got, e := Ready(version, size, digest, tries)
					wantSlot(t, "Ready", want, got, e, want, plainRight(want))
				}
			}
		}
	}
}

// P10.2: Ready at each limit and beside it, all else as it can be.
func TestReadyOfKnown(t *testing.T) {
	for i, c := range []struct {
		version     uint64
		size, tries int
		ok          bool
	}{
		{1, 1, 0, true}, {1, 1, 7, true}, {1 << 48, 65536, 3, true},
		{0, 1, 3, false}, {1<<48 + 1, 1, 3, false}, {math.MaxUint64, 1, 3, false},
		{1, 0, 3, false}, {1, -1, 3, false}, {1, 65537, 3, false}, {1, math.MinInt, 3, false}, {1, math.MaxInt, 3, false},
		{1, 1, -1, false}, {1, 1, 8, false}, {1, 1, math.MinInt, false}, {1, 1, math.MaxInt, false},
		{0, 0, 0, false},
	} {
		got, e := Ready(c.version, c.size, api.Hash{5: 6}, c.tries)
		wantSlot(t, "Ready", i, got, e, api.Slot{Status: 2, Tries: c.tries, Version: c.version, Size: c.size, Digest: api.Hash{5: 6}}, c.ok)
	}
}

// P10.2: a slot of seven tries can be tried seven times, and be said to be good or bad behind each of them.
func TestTryTillNone(t *testing.T) {
	s, e := Ready(9, 640, api.Hash{3}, 7)
	for left := 6; left >= 0; left-- {
		if !Bootable(s) {
			t.Error("it isn't booted ahead of", left)
		}
		s, e = Try(s)
		wantSlot(t, "Try", left, s, e, api.Slot{Status: 2, Tries: left, Version: 9, Size: 640, Digest: api.Hash{3}}, true)
		good, e := Good(s)
		wantSlot(t, "Good", left, good, e, api.Slot{Status: 3, Version: 9, Size: 640, Digest: api.Hash{3}}, true)
		again, e := Good(good)
		wantSlot(t, "Good", left, again, e, good, true)
		bad, e := Bad(good)
		wantSlot(t, "Bad", left, bad, e, api.Slot{Status: 4}, true)
		tried, e := Try(good)
		wantSlot(t, "Try", good, tried, e, api.Slot{}, false)
	}
	if Bootable(s) {
		t.Error("it is booted behind its last try")
	}
	s, e = Try(s)
	wantSlot(t, "Try", "the last", s, e, api.Slot{}, false)
}

// P10.4: a and b, and nothing else, at any number.
func TestName(t *testing.T) {
	for i, want := range map[int]string{
		0: "a", 1: "b", 2: "", 3: "", -1: "", -2: "", 97: "", 255: "", 256: "", 257: "",
		1 << 32: "", 1<<32 + 1: "", math.MinInt: "", math.MinInt + 1: "", math.MaxInt: "",
	} {
		if got := Name(i); got != want {
			t.Errorf("Name(%d) = %q", i, got)
		}
	}
}

// P10.4: in small and in capital letters, and no other text.
func TestIndex(t *testing.T) {
	for name, want := range map[string]int{"a": 0, "A": 0, "b": 1, "B": 1} {
		if got := Index(name); got != want {
			t.Errorf("Index(%q) = %d", name, got)
		}
	}
	for _, name := range []string{
		"", "c", "C", "0", "1", " ", "aa", "ab", "ba", "bb", "AB", "a ", " a", "b ", " b", "a\x00", "\x00a", "a\n",
		"à", "á", "ä", "å", "a\u0301", "\u212b", "а", "А", "α", "Α", "β", "Β", "в", "В", "ａ", "Ａ", "ｂ", "ª", "𝐚", "ß",
		"\xff", "a\xff", "\xffa", "\x80", "\xc3", "b\xc3", "\xc3b", "\xe1", "\ufffd", "\xc1\xa1",
		"slot a", strings.Repeat("a", 1<<20), strings.Repeat("b", 1<<20),
	} {
		if got := Index(name); got != -1 {
			t.Errorf("Index(%.20q) = %d", name, got)
		}
	}
}

// P10.4: of each rune and each byte by itself; and back from what Name tells.
func TestIndexOfEach(t *testing.T) {
	known := map[string]int{"a": 0, "A": 0, "b": 1, "B": 1}
	want := func(name string) {
		i, ok := known[name]
		if !ok {
			i = -1
		}
		if got := Index(name); got != i {
			t.Errorf("Index(%q) = %d", name, got)
		}
	}
	for r := rune(0); r <= utf8.MaxRune; r++ {
		want(string(r))
	}
	for c := range 256 {
		want(string([]byte{byte(c)}))
		want("a" + string([]byte{byte(c)}))
	}
	for i := range 2 {
		if Index(Name(i)) != i {
			t.Error(i)
		}
	}
}

// P2: an answer hangs on nothing that other calls did.
func TestNothingIsKept(t *testing.T) {
	all := fewSlots()
	for _, s := range all {
		text, b := Text(s), string(Bytes(s))
		for _, other := range all {
			Text(other)
			Parse(Text(other))
			Bytes(other)
			Good(other)
			Bad(other)
			Try(other)
			Parse("no slot")
			if Text(s) != text || string(Bytes(s)) != b || !Right(s) {
				t.Errorf("%v behind %v", s, other)
			}
		}
	}
}
