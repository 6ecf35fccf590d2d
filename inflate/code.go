package inflate

const longestCode = 15

// code is one given by its signs' lengths.
type code struct {
	count   [longestCode + 1]int // how many signs have each length
	signs   []int                // by length, and then by number
	longest int
}

func codeOf(lengths []int) *code {
	var c code
	for _, n := range lengths {
		c.count[n]++
		c.longest = max(c.longest, n)
	}
	c.count[0] = 0
	var next [longestCode + 2]int
	for n, count := range c.count {
		next[n+1] = next[n] + count
	}
	c.signs = make([]int, next[longestCode+1])
	for sign, n := range lengths {
		if n > 0 {
			c.signs[next[n]] = sign
			next[n]++
		}
	}
	return &c
}

// good: is the sum of 2^-length 1, or is there one sign alone, of length 1?
func (c *code) good() bool {
	room := 1
	for n := 1; n <= longestCode; n++ {
		room = 2*room - c.count[n]
		if room < 0 {
			return false
		}
	}
	return room == 0 || len(c.signs) == 1 && c.longest == 1
}

// goodOfDistances: as good, but there may be no signs at all.
func (c *code) goodOfDistances() bool { return len(c.signs) == 0 || c.good() }
