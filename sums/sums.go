// Package sums is layer 1, check sums that go on: see shared/doc/01-sums.md.
package sums

const (
	adlerPrime = 65521
	crcTurned  = 0xedb88320
	allOnes    = 1<<32 - 1
)

// Adler tells Adler's sum of b.
func Adler(b []byte) uint32 { return AdlerMore(1, b) }

// AdlerMore goes on from sum with b.
func AdlerMore(sum uint32, b []byte) uint32 {
	low, high := sum&0xffff, sum>>16
	for _, x := range b {
		low = (low + uint32(x)) % adlerPrime
		high = (high + low) % adlerPrime
	}
	return high<<16 | low
}

// Crc tells the CRC of b.
func Crc(b []byte) uint32 { return CrcMore(0, b) }

// CrcMore goes on from sum with b.
func CrcMore(sum uint32, b []byte) uint32 {
	c := sum ^ allOnes
	for _, x := range b {
		c ^= uint32(x)
		for range 8 {
			// All bits of -(c & 1) are set where the lowest bit of c is.
			c = c>>1 ^ crcTurned&-(c&1)
		}
	}
	return c ^ allOnes
}
