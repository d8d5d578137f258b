package slot

import (
	"bytes"
	"slices"
	"testing"

	"bootjack/api"
	"bootjack/code"
)

// P10.1: of each slot that can be its 46 bytes, each where it belongs; of others none.
func TestBytes(t *testing.T) {
	for _, s := range someSlots() {
		var want []byte
		if plainRight(s) {
			want = plainBytes(s)
		}
		if got := Bytes(s); !bytes.Equal(got, want) {
			t.Errorf("Bytes(%v) = %v, want %v", s, got, want)
		}
	}
}

// P10.1: the bytes written out.
func TestBytesOfKnown(t *testing.T) {
	var digest api.Hash
	want := []byte{2, 7, 6, 5, 4, 3, 2, 1, 0, 0, 0xcd, 0xab, 0, 0}
	for i := range digest {
		digest[i] = byte(100 + i)
		want = append(want, byte(100+i))
	}
	if got := Bytes(api.Slot{Status: 2, Tries: 7, Version: 0x010203040506, Size: 0xabcd, Digest: digest}); !bytes.Equal(got, want) {
		t.Errorf("%v, want %v", got, want)
	}
	want = append([]byte{3, 0, 0, 0, 0, 0, 0, 0, 1, 0, 0, 0, 1, 0}, make([]byte, 32)...)
	if got := Bytes(api.Slot{Status: 3, Version: 1 << 48, Size: 65536}); !bytes.Equal(got, want) {
		t.Errorf("%v, want %v", got, want)
	}
	for _, status := range []int{0, 1, 4} {
		if got := Bytes(api.Slot{Status: status}); !bytes.Equal(got, append([]byte{byte(status)}, make([]byte, 45)...)) {
			t.Errorf("%d: %v", status, got)
		}
	}
}

// Rules: Bytes are new memory, spare room too.
func TestBytesAreNew(t *testing.T) {
	for _, s := range fewSlots() {
		first, second := Bytes(s), Bytes(s)
		spare := second[:cap(second)]
		for i := range spare {
			spare[i] = '!'
		}
		if !bytes.Equal(first, plainBytes(s)) || !bytes.Equal(Bytes(s), plainBytes(s)) {
			t.Errorf("%v", s)
		}
	}
}

// wantRead: what a Read answers, what it leaves, and the Reader's error behind it.
func wantRead(t *testing.T, what any, r *code.Reader, want api.Slot, e api.Errno, left int, first api.Errno) {
	t.Helper()
	got, fault := Read(r)
	if got != want || fault != e || r.Left() != left || r.Err() != first {
		t.Errorf("%v: %v, %d, %d left, and error %d; want %v, %d, %d, %d", what, got, fault, r.Left(), r.Err(), want, e, left, first)
	}
}

// P10.1: of what Bytes tells, with nothing and with something behind, that slot, and no more is taken.
func TestRead(t *testing.T) {
	for _, s := range rightSlots() {
		for _, behind := range [][]byte{nil, {9}, {0, 0, 0}, make([]byte, 46)} {
			wantRead(t, s, code.New(append(Bytes(s), behind...)), s, api.OK, len(behind), api.OK)
		}
	}
}

// P10.1: one behind the other, and behind what else a Reader was asked.
func TestReadOneByOne(t *testing.T) {
	all := fewSlots()
	b := code.Text(nil, "ahead")
	for _, s := range all {
		b = code.Raw(b, Bytes(s))
	}
	whole := slices.Clone(b)
	r := code.New(b)
	if r.Text(5) != "ahead" {
		t.Error("ahead")
	}
	for i, s := range all {
		wantRead(t, s, r, s, api.OK, 46*(len(all)-1-i), api.OK)
	}
	if e := r.End(); e != api.OK {
		t.Error("end", e)
	}
	wantRead(t, "behind all", r, api.Slot{}, api.ErrShort, 0, api.ErrShort)
	if !bytes.Equal(b, whole) {
		t.Error("the Reader's bytes are changed")
	}
}

// P10.1: of each length below 46, whether what is there could begin a slot or not.
func TestReadOfTooFew(t *testing.T) {
	wrong := bytes.Repeat([]byte{255}, 46)
	for _, b := range [][]byte{Bytes(fewSlots()[0]), Bytes(fewSlots()[5]), Bytes(fewSlots()[8]), wrong} {
		for size := range 46 {
			r := code.New(b[:size])
			wantRead(t, size, r, api.Slot{}, api.ErrShort, 0, api.ErrShort)
			wantRead(t, size, r, api.Slot{}, api.ErrShort, 0, api.ErrShort)
			if e := r.End(); e != api.ErrShort {
				t.Error(size, e)
			}
		}
	}
	wantRead(t, "none", code.New(nil), api.Slot{}, api.ErrShort, 0, api.ErrShort)
}

// P10.1: of a Reader that has an error already, that error, whichever it is, and whatever was behind.
func TestReadBehindAnError(t *testing.T) {
	for _, s := range fewSlots() {
		r := code.New(Bytes(s))
		r.Raw(47)
		wantRead(t, "short", r, api.Slot{}, api.ErrShort, 0, api.ErrShort)
		r = code.New(append(code.Text(nil, "text"), Bytes(s)...))
		r.Text(3)
		wantRead(t, "form", r, api.Slot{}, api.ErrForm, 0, api.ErrForm)
		wantRead(t, "form again", r, api.Slot{}, api.ErrForm, 0, api.ErrForm)
	}
}

// P10.1: 46 bytes that are no slot's: they are taken, but the Reader has no error, and goes on behind them.
func TestReadOfOthers(t *testing.T) {
	ready, good := Bytes(fewSlots()[8]), Bytes(fewSlots()[4])
	with := func(b []byte, changes ...byte) []byte {
		b = slices.Clone(b)
		for i := 0; i < len(changes); i += 2 {
			b[changes[i]] = changes[i+1]
		}
		return b
	}
	for i, b := range [][]byte{
		with(ready, 0, 5), with(ready, 0, 255), with(ready, 0, 0), with(ready, 0, 1), with(ready, 0, 4), with(ready, 0, 3),
		with(ready, 1, 8), with(ready, 1, 255), with(good, 1, 1), with(good, 1, 7),
		with(good, 2, 0), with(ready, 8, 1), with(ready, 9, 1), with(good, 9, 128), with(good, 2, 1, 8, 1),
		with(good, 10, 0), with(good, 12, 1), with(good, 10, 0, 12, 2), with(good, 13, 1), with(good, 13, 128),
		with(make([]byte, 46), 0, 2), with(make([]byte, 46), 0, 3), with(make([]byte, 46), 0, 5),
		bytes.Repeat([]byte{255}, 46),
	} {
		r := code.New(code.Raw(nil, b, good, []byte{1, 2}))
		wantRead(t, i, r, api.Slot{}, api.ErrSlot, 48, api.OK)
		wantRead(t, i, r, fewSlots()[4], api.OK, 2, api.OK)
		wantRead(t, i, r, api.Slot{}, api.ErrShort, 0, api.ErrShort)
	}
	for _, status := range []byte{0, 1, 4} {
		for at := byte(1); at < 46; at++ {
			for _, c := range []byte{1, 128, 255} {
				wantRead(t, at, code.New(with(make([]byte, 46), 0, status, at, c)), api.Slot{}, api.ErrSlot, 0, api.OK)
			}
		}
	}
}

// P10.1: each byte of some at each value: the slot whose Bytes they are, if there is one.
func TestReadOfEachByte(t *testing.T) {
	for _, s := range fewSlots() {
		for at := range 46 {
			for c := range 256 {
				b := Bytes(s)
				b[at] = byte(c)
				want, e := plainSlot(b), api.OK
				if !plainRight(want) {
					want, e = api.Slot{}, api.ErrSlot
				}
				wantRead(t, b, code.New(b), want, e, 0, api.OK)
			}
		}
	}
}

// P10.1: slots of any numbers, there and back.
func TestReadOfAny(t *testing.T) {
	r := seeded(1)
	for range 5000 {
		s := anySlot(r)
		b := Bytes(s)
		if !Right(s) || !bytes.Equal(b, plainBytes(s)) {
			t.Errorf("%v: %v", s, b)
		}
		wantRead(t, s, code.New(b), s, api.OK, 0, api.OK)
	}
}

// Rules: neither the slot nor the Reader's bytes are changed, and the slot that is answered keeps nothing of them.
func TestReadKeepsNothing(t *testing.T) {
	s := fewSlots()[8]
	b := Bytes(s)
	got, _ := Read(code.New(b))
	if !bytes.Equal(b, plainBytes(s)) {
		t.Error("the bytes are changed")
	}
	clear(b)
	if got != s {
		t.Error("the bytes are kept")
	}
}
