package frame

import (
	"bytes"
	"encoding/binary"
	"hash/crc32"
	"math"
	"slices"
	"testing"

	"bootjack/api"
)

// lengths: of bodies at which a frame has one sector more, those beside them, and the greatest.
var lengths = []int{0, 1, 2, 45, 46, 47, 48, 62, 63, 64, 108, 109, 110, 111, 171, 172, 173, 255, 256, 257, 2000, 3951, 3952, 3999, 4000}

var kinds = []byte{0, 1, 2, 'B', 128, 254, 255}

var numbers = []uint64{0, 1, 255, 256, 0x0123456789abcdef, 1<<63 - 1, 1 << 63, math.MaxUint64 - 1, math.MaxUint64}

// bodyOf: so many bytes, no two beside each other the same.
func bodyOf(length int) []byte {
	b := make([]byte, length)
	for i := range b {
		b[i] = byte(i*7 + i/256 + 3)
	}
	return b
}

// headed: a frame's bytes ahead of its sum, with a length that may be another one than its body's.
func headed(first, second, kind byte, seq uint64, length int, body []byte) []byte {
	row := []byte{first, second, kind}
	row = binary.LittleEndian.AppendUint64(row, seq)
	row = binary.LittleEndian.AppendUint16(row, uint16(length))
	return append(row, body...)
}

// summed: with the sum behind, worked out by the library.
func summed(row []byte) []byte {
	return binary.LittleEndian.AppendUint32(slices.Clone(row), crc32.ChecksumIEEE(row))
}

// laid: sectors, each of 63 bytes and a 0, with 255 where the row has ended.
func laid(row []byte) []api.Sector {
	var l []api.Sector
	for len(row)%63 != 0 {
		row = append(row, 255)
	}
	for at := 0; at < len(row); at += 63 {
		l = append(l, api.Sector(append(slices.Clone(row[at:at+63]), 0)))
	}
	return l
}

// plain: the sectors of a frame as the promise has them, by no call of the package.
func plain(kind byte, seq uint64, body []byte) []api.Sector {
	return laid(summed(headed('B', 'J', kind, seq, len(body), body)))
}

func blank() api.Sector {
	return api.Sector(bytes.Repeat([]byte{255}, 64))
}

// wantFrame: what Get should tell of sectors that begin with a frame.
func wantFrame(t *testing.T, what string, l []api.Sector, kind byte, seq uint64, body []byte, size int) {
	t.Helper()
	before := slices.Clone(l)
	k, s, b, n := Get(l)
	if k != kind || s != seq || !bytes.Equal(b, body) || n != size {
		t.Errorf("%s: Get = %d, %d, %d bytes, %d, want %d, %d, %d bytes, %d", what, k, s, len(b), n, kind, seq, len(body), size)
	}
	if !slices.Equal(l, before) {
		t.Errorf("%s: Get changed the sectors", what)
	}
}

// wantNone: what Get should tell of sectors that begin with none.
func wantNone(t *testing.T, what string, l []api.Sector) {
	t.Helper()
	wantFrame(t, what, l, 0, 0, nil, 0)
}

// P8.1: at the edges that the promise names, and at numbers that no body has.
func TestSizeAtEdges(t *testing.T) {
	for length, size := range map[int]int{
		math.MinInt: 0, math.MinInt + 1: 0, math.MinInt32: 0, -4000: 0, -63: 0, -18: 0, -17: 0, -2: 0, -1: 0,
		0: 1, 1: 1, 45: 1, 46: 1, 47: 2, 48: 2, 108: 2, 109: 2, 110: 3, 111: 3, 172: 3, 173: 4,
		3951: 63, 3952: 63, 3953: 64, 3999: 64, 4000: 64,
		4001: 0, 4014: 0, 4015: 0, 4016: 0, 65535: 0, 65536: 0, 65546: 0, 1 << 32: 0, 1<<32 + 46: 0,
		math.MaxInt32: 0, math.MaxInt - 63: 0, math.MaxInt - 17: 0, math.MaxInt - 1: 0, math.MaxInt: 0,
	} {
		if got := Size(length); got != size {
			t.Errorf("Size(%d) = %d, want %d", length, got, size)
		}
	}
}

// P8.1: at each length, as many as it takes till all bytes have a place.
func TestSizeOfAll(t *testing.T) {
	for length := -200; length < 9000; length++ {
		size := 0
		for length >= 0 && length <= 4000 && size*63 < 2+1+8+2+length+4 {
			size++
		}
		if got := Size(length); got != size {
			t.Errorf("Size(%d) = %d, want %d", length, got, size)
		}
	}
}

// P8.1: one frame, byte by byte, as it was written out by hand.
func TestPutByHand(t *testing.T) {
	var s api.Sector
	copy(s[:], []byte{'B', 'J', 7, 8, 9, 0, 0, 0, 0, 0, 128, 3, 0, 'a', 'b', 'c'})
	binary.LittleEndian.PutUint32(s[16:], crc32.ChecksumIEEE(s[:16]))
	for i := 20; i < 63; i++ {
		s[i] = 255
	}
	if got := Put(7, 1<<63+9*256+8, []byte("abc")); !slices.Equal(got, []api.Sector{s}) {
		t.Errorf("Put = %v, want %v", got, s)
	}
}

// P8.1: where the letters, the kind, the number, the length, the body, the sum, the 255 and the 0 stand.
func TestPutPlaces(t *testing.T) {
	for _, length := range []int{0, 46, 47, 109, 110, 4000} {
		body := bodyOf(length)
		l := Put(255, 1<<63, body)
		if len(l) != Size(length) {
			t.Fatalf("of %d bytes %d sectors, want %d", length, len(l), Size(length))
		}
		var row []byte
		for i, s := range l {
			if s[63] != 0 {
				t.Errorf("of %d bytes: sector %d ends in %d", length, i, s[63])
			}
			row = append(row, s[:63]...)
		}
		if string(row[:2]) != "BJ" || row[2] != 255 {
			t.Errorf("of %d bytes: it begins with %v", length, row[:3])
		}
		if !bytes.Equal(row[3:11], []byte{0, 0, 0, 0, 0, 0, 0, 128}) {
			t.Errorf("of %d bytes: its number is %v", length, row[3:11])
		}
		if row[11] != byte(length%256) || row[12] != byte(length/256) {
			t.Errorf("of %d bytes: its length is %v", length, row[11:13])
		}
		if !bytes.Equal(row[13:13+length], body) {
			t.Errorf("of %d bytes: its body is another one", length)
		}
		sum := crc32.ChecksumIEEE(row[:13+length])
		for i, c := range row[13+length : 17+length] {
			if c != byte(sum>>(8*i)) {
				t.Errorf("of %d bytes: byte %d of its sum is %d", length, i, c)
			}
		}
		for i, c := range row[17+length:] {
			if c != 255 {
				t.Errorf("of %d bytes: byte %d behind its sum is %d", length, i, c)
			}
		}
	}
}

// P8.1: at kinds, numbers and lengths of all sorts, as the tests' own have it; and as many as Size says.
func TestPutAll(t *testing.T) {
	for _, length := range lengths {
		for _, kind := range kinds {
			for _, seq := range numbers {
				body := bodyOf(length)
				got := Put(kind, seq, body)
				if !slices.Equal(got, plain(kind, seq, body)) {
					t.Errorf("Put(%d, %d, %d bytes) is another one", kind, seq, length)
				}
				if len(got) != Size(length) {
					t.Errorf("Put(%d, %d, %d bytes) is %d sectors, Size says %d", kind, seq, length, len(got), Size(length))
				}
			}
		}
	}
}

// P8.1: at each length there is, of bytes that are all 0, all 255, or look like a frame's.
func TestPutEachLength(t *testing.T) {
	rows := [][]byte{make([]byte, 4000), bytes.Repeat([]byte{255}, 4000), bytes.Repeat([]byte("BJ\x00"), 1334)[:4000], bodyOf(4000)}
	for length := range 4001 {
		row := rows[length%len(rows)]
		got := Put(byte(length), uint64(length)<<20, row[:length])
		if !slices.Equal(got, plain(byte(length), uint64(length)<<20, row[:length])) {
			t.Errorf("Put of %d bytes is another one", length)
		}
		wantFrame(t, "what was put", got, byte(length), uint64(length)<<20, row[:length], len(got))
	}
}

// P8.1: none of a body that is too long, though its lowest bits alone would tell a length that may be.
func TestPutTooLong(t *testing.T) {
	for _, length := range []int{4001, 4002, 4015, 4016, 8000, 65535, 65536, 65537, 65546, 65536 + 4000, 1 << 20} {
		if got := Put(1, 2, make([]byte, length)); len(got) != 0 {
			t.Errorf("Put of %d bytes is %d sectors", length, len(got))
		}
	}
}

// Rules: nil and empty are one.
func TestPutNilAndEmpty(t *testing.T) {
	none := plain(3, 4, nil)
	for what, body := range map[string][]byte{"nil": nil, "empty": {}, "with spare room": make([]byte, 0, 100), "at an end": bodyOf(5)[5:]} {
		if got := Put(3, 4, body); !slices.Equal(got, none) {
			t.Errorf("Put of a body that is %s: %v", what, got)
		}
	}
}

// Rules: the body isn't changed, spare room included, and nothing of it is kept.
func TestPutKeepsNothing(t *testing.T) {
	for _, length := range []int{0, 1, 46, 47, 110, 3990, 4000, 4001} {
		row := bodyOf(length + 200)
		body := row[:length]
		got := Put(5, 6, body)
		if !bytes.Equal(row, bodyOf(length+200)) {
			t.Errorf("Put of %d bytes changed its body, or what is behind", length)
		}
		was := slices.Clone(got)
		for i := range row {
			row[i] ^= 255
		}
		if !slices.Equal(got, was) {
			t.Errorf("Put of %d bytes: its sectors change with the body", length)
		}
	}
}

// Rules: what is answered is new memory each time, spare room too.
func TestPutIsNew(t *testing.T) {
	body := bodyOf(150)
	first, second := Put(1, 2, body), Put(1, 2, body)
	for i := range first[:cap(first)] {
		first[:cap(first)][i] = api.Sector{9}
	}
	want := plain(1, 2, body)
	if !slices.Equal(second, want) || !slices.Equal(Put(1, 2, body), want) {
		t.Error("a Put that was written over is told again")
	}
	if !bytes.Equal(body, bodyOf(150)) {
		t.Error("the body changes with its sectors")
	}
}
