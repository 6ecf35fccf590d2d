package inflate

import "tramway/api"

// fault is what is thrown where the blocks don't go on.
type fault struct{ no api.Errno }

// bits are taken from bytes, the lowest one of each first.
type bits struct {
	b    []byte
	at   int  // how many bytes were begun
	rest byte // what is left of the last one begun
	left int  // how many bits that are
}

func (s *bits) one() int {
	if s.left == 0 {
		if s.at == len(s.b) {
			panic(fault{api.ErrEnd})
		}
		s.rest, s.left = s.b[s.at], 8
		s.at++
	}
	x := s.rest & 1
	s.rest >>= 1
	s.left--
	return int(x)
}

// number is one of n bits, the lowest first.
func (s *bits) number(n int) int {
	x := 0
	for i := range n {
		x |= s.one() << i
	}
	return x
}

// code is one of n bits, the highest first.
func (s *bits) code(n int) int {
	x := 0
	for range n {
		x = x<<1 | s.one()
	}
	return x
}

// leave leaves out the rest of the byte.
func (s *bits) leave() { s.left = 0 }

// sign is the next one of a code: its bits come the highest first.
func (s *bits) sign(c *code) int {
	x, first, ahead := 0, 0, 0
	for length := 1; length <= c.longest; length++ {
		x |= s.one()
		n := c.count[length]
		if x-first < n {
			return c.signs[ahead+x-first]
		}
		ahead += n
		first = (first + n) << 1
		x <<= 1
	}
	panic(fault{api.ErrForm})
}
