package slot

import (
	"encoding/binary"
	"math"
	"math/rand/v2"

	"bootjack/api"
)

// What a number or a Digest may be: those of the limits, those beside them, and those whose lowest bits alone would do.
func someStatuses() []int {
	return []int{math.MinInt, -256, -1, 0, 1, 2, 3, 4, 5, 6, 255, 256, 258, 1<<32 + 2, 1<<32 + 3, math.MaxInt}
}

func someTries() []int {
	return []int{math.MinInt, -8, -1, 0, 1, 2, 6, 7, 8, 255, 256, 257, 1 << 32, 1<<32 + 1, math.MaxInt}
}

func someVersions() []uint64 {
	return []uint64{0, 1, 2, 255, 256, 1<<48 - 1, 1 << 48, 1<<48 + 1, 1 << 49, 1 << 63, math.MaxUint64}
}

func someSizes() []int {
	return []int{math.MinInt, math.MinInt + 1, -65536, -1, 0, 1, 2, 65535, 65536, 65537, 1 << 32, 1<<32 + 1, math.MaxInt}
}

func someDigests() []api.Hash {
	var all, row api.Hash
	for i := range all {
		all[i] = 255
		row[i] = byte(7 * i)
	}
	return []api.Hash{{}, {1}, {31: 1}, {15: 128}, all, row}
}

// someSlots: each of these with each other one.
func someSlots() []api.Slot {
	var all []api.Slot
	for _, status := range someStatuses() {
		for _, tries := range someTries() {
			for _, version := range someVersions() {
				for _, size := range someSizes() {
					for _, digest := range someDigests() {
						all = append(all, api.Slot{Status: status, Tries: tries, Version: version, Size: size, Digest: digest})
					}
				}
			}
		}
	}
	return all
}

// rightSlots: of someSlots those that can be.
func rightSlots() []api.Slot {
	var all []api.Slot
	for _, s := range someSlots() {
		if plainRight(s) {
			all = append(all, s)
		}
	}
	return all
}

// fewSlots: some that can be, of each Status, at the limits and between.
func fewSlots() []api.Slot {
	row := someDigests()[5]
	return []api.Slot{
		{}, {Status: 1}, {Status: 4},
		{Status: 3, Version: 1, Size: 1},
		{Status: 3, Version: 7, Size: 100},
		{Status: 3, Version: 1 << 48, Size: 65536, Digest: row},
		{Status: 2, Version: 1, Size: 1},
		{Status: 2, Tries: 1, Version: 10, Size: 65535, Digest: api.Hash{31: 1}},
		{Status: 2, Tries: 7, Version: 0x010203040506, Size: 0xabcd, Digest: row},
	}
}

// plainRight: the chapter's words once more, field by field.
func plainRight(s api.Slot) bool {
	nothing := s.Tries == 0 && s.Version == 0 && s.Size == 0
	for _, c := range s.Digest {
		nothing = nothing && c == 0
	}
	image := s.Version-1 < 281474976710656 && uint64(s.Size)-1 < 65536
	return (s.Status == 0 || s.Status == 1 || s.Status == 4) && nothing ||
		s.Status == 2 && uint64(s.Tries) < 8 && image ||
		s.Status == 3 && s.Tries == 0 && image
}

// plainBytes: of a slot that can be.
func plainBytes(s api.Slot) []byte {
	b := []byte{byte(s.Status), byte(s.Tries)}
	b = binary.LittleEndian.AppendUint64(b, s.Version)
	b = binary.LittleEndian.AppendUint32(b, uint32(s.Size))
	return append(b, s.Digest[:]...)
}

// plainSlot: what 46 bytes say, whether it can be or not.
func plainSlot(b []byte) api.Slot {
	return api.Slot{
		Status:  int(b[0]),
		Tries:   int(b[1]),
		Version: binary.LittleEndian.Uint64(b[2:]),
		Size:    int(binary.LittleEndian.Uint32(b[10:])),
		Digest:  api.Hash(b[14:46]),
	}
}

// seeded: the same numbers at each run.
func seeded(n uint64) *rand.Rand {
	return rand.New(rand.NewPCG(n, 10))
}

// anySlot: one that can be, of any Status.
func anySlot(r *rand.Rand) api.Slot {
	s := api.Slot{Status: r.IntN(5)}
	if s.Status == 2 || s.Status == 3 {
		s.Version = 1 + r.Uint64N(1<<48)>>r.IntN(48)
		s.Size = 1 + r.IntN(65536)>>r.IntN(16)
		for i := range s.Digest {
			s.Digest[i] = byte(r.Uint32())
		}
	}
	if s.Status == 2 {
		s.Tries = r.IntN(8)
	}
	return s
}
