package inflate

import (
	"math/bits"

	"tramway/api"
	"tramway/halt"
)

// source gives bits, the lowest one of each byte first.
type source struct {
	b    []byte
	at   int    // how many bytes were begun
	held uint64 // what is left of the last one begun
	left int    // how many bits that are
}

// number is one of n bits, the lowest first.
func (s *source) number(n int) int {
	for s.left < n {
		if s.at == len(s.b) {
			halt.With(api.ErrEnd)
		}
		s.held |= uint64(s.b[s.at]) << s.left
		s.at++
		s.left += 8
	}
	x := s.held & (1<<n - 1)
	s.held >>= n
	s.left -= n
	return int(x)
}

func (s *source) one() int { return s.number(1) }

// code is one of n bits, at most eight, the highest first.
func (s *source) code(n int) int {
	return int(bits.Reverse8(uint8(s.number(n))) >> (8 - n))
}

// leave leaves out the rest of the byte.
func (s *source) leave() { s.held, s.left = 0, 0 }

// sign is the next one of a code.
func (s *source) sign(c *code) int {
	x, first, ahead := 0, 0, 0
	for length := 1; length <= c.longest; length++ {
		x |= s.one()
		n := c.count[length]
		if x-first < n {
			return c.signs[ahead+x-first]
		}
		ahead += n
		first = (first + n) << 1
		x <<= 1
	}
	halt.With(api.ErrForm)
	return 0
}
