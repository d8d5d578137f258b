// Package crc is layer 1: see shared/doc/01-crc.md.
package crc

// polynomial is CRC-32's, its bits turned round, since the register is shifted to the right.
const polynomial uint32 = 0xEDB88320

// Sum: four bytes of all parts' bytes.
func Sum(parts ...[]byte) uint32 {
	var sum uint32 // that of no bytes: a register of ones, turned
	for _, b := range parts {
		sum = More(sum, b)
	}
	return sum
}

// More: with more behind.
func More(sum uint32, b []byte) uint32 {
	register := ^sum // a sum is its register turned: turned back, it goes on where it ended
	for _, c := range b {
		register = step(register, c)
	}
	return ^register
}

// step takes one byte in.
func step(register uint32, c byte) uint32 {
	register ^= uint32(c)
	for range 8 {
		fell := register & 1
		register >>= 1
		if fell == 1 {
			register ^= polynomial
		}
	}
	return register
}
