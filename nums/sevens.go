package nums

import "tramway/api"

const (
	goesOn    = 128
	longest   = 12 // bytes of a row of sevens
	mostKinds = 7
)

// Leb tells n's sevens, the lowest first.
func Leb(n int) []byte {
	if n < 0 || n > most {
		return nil
	}
	var b []byte
	gather := func(x int) { b = append(b, byte(x)) }
	for n >= goesOn {
		gather(n&127 | goesOn)
		n >>= 7
	}
	gather(n)
	return b
}

// FromLeb reads the number at b's beginning, and tells how many bytes it has.
func FromLeb(b []byte) (int, int, api.Errno) {
	n := 0
	return sevens(b, func(i, x int) (int, bool) {
		if x > (most-n)>>(7*i) {
			return 0, false
		}
		n |= x << (7 * i)
		return n, true
	})
}

// Ofs tells n's sevens, the highest first, each number of them being one that no shorter row has.
func Ofs(n int) []byte {
	if n < 0 || n > most {
		return nil
	}
	var rising []byte
	gather := func(x int) { rising = append(rising, byte(x)) }
	gather(n & 127)
	for n >= goesOn {
		n = n>>7 - 1
		gather(n&127 | goesOn)
	}
	b := make([]byte, len(rising))
	for i, x := range rising {
		b[len(b)-1-i] = x
	}
	return b
}

// FromOfs reads the number at b's beginning, and tells how many bytes it has.
func FromOfs(b []byte) (int, int, api.Errno) {
	n := 0
	return sevens(b, func(i, x int) (int, bool) {
		if i > 0 {
			n++
		}
		if n > most>>7 {
			return 0, false
		}
		n = n<<7 | x
		return n, true
	})
}

// sevens goes through the row at b's beginning, handing take each byte's place and seven bits; take tells
// the number so far, and whether it is one.
func sevens(b []byte, take func(i, x int) (int, bool)) (int, int, api.Errno) {
	e := api.ErrEnd
row:
	for i, x := range b {
		n, ok := 0, i < longest
		if ok {
			n, ok = take(i, int(x&127))
		}
		switch {
		case !ok:
			e = api.ErrLong
			break row
		case x < goesOn:
			return n, i + 1, api.OK
		}
	}
	return 0, 0, e
}

// Head tells a kind and a size.
func Head(kind, size int) []byte {
	if kind < 0 || kind > mostKinds || size < 0 || size > most {
		return nil
	}
	first := byte(kind<<4 | size&15)
	if size < 16 {
		return []byte{first}
	}
	return append([]byte{first | goesOn}, Leb(size>>4)...)
}

// FromHead reads the kind and the size at b's beginning, and tells how many bytes they have.
func FromHead(b []byte) (int, int, int, api.Errno) {
	if len(b) == 0 {
		return 0, 0, 0, api.ErrEnd
	}
	kind, low := int(b[0]>>4&mostKinds), int(b[0]&15)
	if b[0] < goesOn {
		return kind, low, 1, api.OK
	}
	high, n, e := FromLeb(b[1:])
	if e != api.OK {
		return 0, 0, 0, e
	}
	if high > most>>4 {
		return 0, 0, 0, api.ErrLong
	}
	return kind, high<<4 | low, n + 1, api.OK
}
