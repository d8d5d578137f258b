package frame

import (
	"bytes"
	"encoding/binary"
	"hash/crc32"
	"math/rand/v2"
	"slices"
	"testing"

	"bootjack/api"
)

// P8.2: what was put, alone, and with others behind it of all sorts.
func TestGetWhatWasPut(t *testing.T) {
	for _, length := range lengths {
		for _, kind := range kinds {
			for _, seq := range numbers {
				body := bodyOf(length)
				l := plain(kind, seq, body)
				n := len(l)
				wantFrame(t, "alone", l, kind, seq, body, n)
				wantFrame(t, "with a blank one behind", append(slices.Clone(l), blank()), kind, seq, body, n)
				wantFrame(t, "with zeros behind", append(slices.Clone(l), api.Sector{}), kind, seq, body, n)
				wantFrame(t, "with itself behind", slices.Concat(l, l), kind, seq, body, n)
				wantFrame(t, "with another one behind", slices.Concat(l, plain(kind+1, seq+1, []byte("x"))), kind, seq, body, n)
			}
		}
	}
}

// P8.2: a frame is one, however many sectors are behind it.
func TestGetOfMany(t *testing.T) {
	l := plain(1, 2, bodyOf(4000))
	wantFrame(t, "with a whole device behind", append(slices.Clone(l), make([]api.Sector, 5000)...), 1, 2, bodyOf(4000), 64)
}

// P8.2: frames are read one behind the other, each from where the one ahead ends, and from nowhere else.
func TestGetOneByOne(t *testing.T) {
	var l []api.Sector
	for i, length := range lengths {
		l = append(l, plain(byte(i), uint64(i), bodyOf(length))...)
	}
	at := 0
	for i, length := range lengths {
		size := (17 + length + 62) / 63
		wantFrame(t, "the next one", l[at:], byte(i), uint64(i), bodyOf(length), size)
		for inside := 1; inside < size; inside++ {
			wantNone(t, "from inside of it", l[at+inside:])
		}
		at += size
	}
	wantNone(t, "behind the last", l[at:])
}

// P8.2: no sectors, blank ones, those that are all 0, and a frame that isn't at the beginning.
func TestGetOfNothing(t *testing.T) {
	wantNone(t, "nil", nil)
	wantNone(t, "empty", []api.Sector{})
	for _, count := range []int{1, 2, 63, 64, 65, 1041, 4096} {
		l := slices.Repeat([]api.Sector{blank()}, count)
		wantNone(t, "blank", l)
		wantNone(t, "zeros", make([]api.Sector, count))
		for i := range l {
			l[i][63] = 0
		}
		wantNone(t, "blank, and ending in 0", l)
	}
	frame := plain(1, 2, []byte("abc"))
	wantNone(t, "a blank one ahead", slices.Concat([]api.Sector{blank()}, frame))
	wantNone(t, "zeros ahead", slices.Concat(make([]api.Sector, 1), frame))
}

// P8.2: with fewer sectors than it has, however few.
func TestGetOfTooFew(t *testing.T) {
	for _, length := range lengths {
		l := plain(9, 8, bodyOf(length))
		for n := range len(l) {
			// What is behind the list's end in memory is none of it.
			wantNone(t, "the first so many", l[:n])
			wantNone(t, "the first so many, and blank ones", append(slices.Clone(l[:n]), slices.Repeat([]api.Sector{blank()}, len(l)-n)...))
			wantNone(t, "the first so many, and zeros", append(slices.Clone(l[:n]), make([]api.Sector, len(l)-n)...))
			if n > 0 {
				wantNone(t, "all but the first", l[1:])
			}
		}
	}
}

// P8.2: with each byte turned by itself, to each other value, there is none.
func TestGetWithAByteTurned(t *testing.T) {
	for _, length := range []int{0, 3, 46, 47, 100, 109, 110} {
		l := plain(1, 0x0102030405060708, bodyOf(length))
		for i := range l {
			for at := range l[i] {
				was := l[i][at]
				for turn := 1; turn < 256; turn++ {
					l[i][at] = was ^ byte(turn)
					if k, s, b, n := Get(l); k != 0 || s != 0 || len(b) != 0 || n != 0 {
						t.Errorf("of %d bytes, sector %d, byte %d, %d as %d: Get = %d, %d, %v, %d", length, i, at, was, l[i][at], k, s, b, n)
					}
				}
				l[i][at] = was
			}
		}
		wantFrame(t, "with none turned", l, 1, 0x0102030405060708, bodyOf(length), len(l))
	}
}

// P8.2: the same of the longest, by one bit each.
func TestGetOfTheLongestWithABitTurned(t *testing.T) {
	l := plain(200, 1<<63, bodyOf(4000))
	for i := range l {
		for at := range l[i] {
			l[i][at] ^= 1 << (at % 8)
			wantNone(t, "with a bit turned", l)
			l[i][at] ^= 1 << (at % 8)
		}
	}
}

// P8.2: what is wrong is told though the sum is right: the letters, and only these.
func TestGetWithOtherLetters(t *testing.T) {
	for a := range 256 {
		for b := range 256 {
			l := laid(summed(headed(byte(a), byte(b), 1, 2, 3, []byte("abc"))))
			if a == 'B' && b == 'J' {
				wantFrame(t, "BJ", l, 1, 2, []byte("abc"), 1)
			} else {
				wantNone(t, "other letters", l)
			}
		}
	}
}

// P8.2: the kind, the number and the body may be any, if the sum is that of them.
func TestGetWithTheSumMended(t *testing.T) {
	for v := range 256 {
		seq := uint64(v) * 0x0101010101010101
		body := bytes.Repeat([]byte{byte(v)}, 60)
		l := laid(summed(headed('B', 'J', byte(v), seq, 60, body)))
		wantFrame(t, "with the sum mended", l, byte(v), seq, body, 2)
	}
}

// P8.2: a sum of anything else than all ahead is none.
func TestGetWithAnotherSum(t *testing.T) {
	row := headed('B', 'J', 1, 2, 30, bodyOf(30))
	right := crc32.ChecksumIEEE(row)
	for what, sum := range map[string]uint32{
		"none": 0, "ones": 1<<32 - 1, "turned": ^right, "one more": right + 1,
		"of the body":          crc32.ChecksumIEEE(row[13:]),
		"of all but letters":   crc32.ChecksumIEEE(row[2:]),
		"of all but the last":  crc32.ChecksumIEEE(row[:len(row)-1]),
		"by another one":       crc32.Checksum(row, crc32.MakeTable(crc32.Castagnoli)),
		"the highest first":    right<<24 | right>>24 | right<<8&0xff0000 | right>>8&0xff00,
		"with the 255s behind": crc32.ChecksumIEEE(append(slices.Clone(row), 255)),
	} {
		wantNone(t, "a sum that is "+what, laid(binary.LittleEndian.AppendUint32(slices.Clone(row), sum)))
	}
	wantFrame(t, "the right sum", laid(summed(row)), 1, 2, bodyOf(30), 1)
}

// P8.2: a length that isn't the body's.
func TestGetWithAnotherLength(t *testing.T) {
	for _, length := range []int{0, 1, 46, 47, 110, 3999, 4000} {
		for _, said := range []int{0, 1, 2, 45, 46, 47, 109, 110, 3998, 3999, 4000} {
			if said == length {
				continue
			}
			l := laid(summed(headed('B', 'J', 1, 2, said, bodyOf(length))))
			wantNone(t, "alone", l)
			wantNone(t, "with enough behind", append(l, make([]api.Sector, 70)...))
		}
	}
}

// P8.2: above MaxBody there is none, though all else is right; at MaxBody there is.
func TestGetAboveTheLongest(t *testing.T) {
	for _, length := range []int{4001, 4002, 4014, 4015, 4016, 4078, 8192, 32767, 32768, 65534, 65535} {
		l := laid(summed(headed('B', 'J', 1, 2, length, bodyOf(length))))
		wantNone(t, "too long", l)
		wantNone(t, "too long, and blank ones behind", append(l, blank(), blank()))
	}
	l := laid(summed(headed('B', 'J', 1, 2, 4000, bodyOf(4000))))
	wantFrame(t, "the longest", l, 1, 2, bodyOf(4000), 64)
}

// P8.2: 255s are as few as may be; one sector more of them is behind the frame.
func TestGetWithMoreBehindTheSum(t *testing.T) {
	for _, length := range []int{0, 45, 46, 47, 109, 110} {
		row := append(summed(headed('B', 'J', 1, 2, length, bodyOf(length))), bytes.Repeat([]byte{255}, 63)...)
		l := laid(row)
		size := (17 + length + 62) / 63
		if len(l) != size+1 {
			t.Fatal(len(l))
		}
		wantFrame(t, "with a sector of 255s", l, 1, 2, bodyOf(length), size)
	}
}

// P8.2: a sector that is written only up to any place of it, with nothing there before.
func TestGetOfTornSectors(t *testing.T) {
	bodies := [][]byte{nil, bodyOf(3), bodyOf(46), bodyOf(47), bodyOf(200), bytes.Repeat([]byte{255}, 46), bytes.Repeat([]byte{255}, 150), make([]byte, 150)}
	for _, body := range bodies {
		whole := plain(255, 1<<64-1, body)
		for i := range whole {
			for upTo := range 64 {
				l := slices.Clone(whole)
				l[i] = blank()
				copy(l[i][:upTo], whole[i][:])
				wantNone(t, "torn", l)
				wantNone(t, "torn, and written behind", append(l, whole...))
			}
		}
	}
}

// P8.2: a sector of another frame among one's own, which ends in 0 too.
func TestGetOfMixedSectors(t *testing.T) {
	old, young := plain(1, 1, bodyOf(200)), plain(1, 2, bytes.Repeat([]byte{9}, 200))
	for pick := range 1 << len(old) {
		l := slices.Clone(old)
		for i := range l {
			if pick>>i&1 == 1 {
				l[i] = young[i]
			}
		}
		switch pick {
		case 0:
			wantFrame(t, "the old one", l, 1, 1, bodyOf(200), 4)
		case 1<<len(old) - 1:
			wantFrame(t, "the young one", l, 1, 2, bytes.Repeat([]byte{9}, 200), 4)
		default:
			wantNone(t, "of both", l)
		}
	}
}

// Rules: the body that is answered is new memory, spare room too; the sectors aren't kept.
func TestGetKeepsNothing(t *testing.T) {
	for _, length := range []int{0, 1, 46, 47, 150, 4000} {
		l := plain(1, 2, bodyOf(length))
		_, _, first, _ := Get(l)
		_, _, second, _ := Get(l)
		for i := range first[:cap(first)] {
			first[:cap(first)][i] ^= 255
		}
		if !bytes.Equal(second, bodyOf(length)) {
			t.Errorf("of %d bytes: two answers share a body", length)
		}
		wantFrame(t, "behind its answer was written over", l, 1, 2, bodyOf(length), len(l))
		for i := range l {
			l[i] = api.Sector{}
		}
		if !bytes.Equal(second, bodyOf(length)) {
			t.Errorf("of %d bytes: the body changes with the sectors", length)
		}
	}
}

// plainGet: the frame as the promise has it, found by trying which body's sectors these begin with.
func plainGet(l []api.Sector) (byte, uint64, []byte, int) {
	var row []byte
	for _, s := range l {
		row = append(row, s[:63]...)
	}
	for length := 0; length <= 4000 && 13+length <= len(row); length++ {
		body := row[13 : 13+length]
		try := plain(row[2], binary.LittleEndian.Uint64(row[3:]), body)
		if len(try) <= len(l) && slices.Equal(try, l[:len(try)]) {
			return row[2], binary.LittleEndian.Uint64(row[3:]), body, len(try)
		}
	}
	return 0, 0, nil, 0
}

// P8.1, P8.2: rows of frames, hurt at random or not, against a reader that tries all bodies.
func TestGetAgainstPlain(t *testing.T) {
	r := rand.New(rand.NewPCG(8, 2))
	found := 0
	for range 6000 {
		var l []api.Sector
		for range 1 + r.IntN(3) {
			l = append(l, Put(byte(r.Uint32()), r.Uint64()>>r.IntN(64), bodyOf(r.IntN(180)))...)
		}
		switch r.IntN(4) {
		case 0:
			l[r.IntN(len(l))][r.IntN(64)] = byte(r.Uint32())
		case 1:
			l = l[:r.IntN(len(l))]
		case 2:
			l = l[r.IntN(len(l)):]
		}
		kind, seq, body, n := plainGet(l)
		wantFrame(t, "at random", l, kind, seq, body, n)
		if n > 0 {
			found++
		}
	}
	if found < 1000 || found > 5000 {
		t.Errorf("%d of them were frames: too many, or too few, to tell anything", found)
	}
}

// P1: Get ends at sectors of any bytes.
func TestGetOfAnyBytes(t *testing.T) {
	r := rand.New(rand.NewPCG(1, 8))
	for range 20000 {
		l := make([]api.Sector, r.IntN(4))
		for i := range l {
			for at := range l[i] {
				l[i][at] = byte(r.Uint32())
			}
			if r.IntN(2) == 0 {
				copy(l[i][:], "BJ")
				l[i][12], l[i][63] = 0, 0
			}
		}
		wantNone(t, "any bytes", l)
	}
}
