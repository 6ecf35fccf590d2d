package names

import "strings"

const digits = "0123456789abcdef"

// told tells a part's bytes, so that it may be a file's name anywhere.
func told(part string) string {
	l := make([]string, len(part))
	for i := range len(part) {
		l[i] = toldByte(part[i])
	}
	if ahead, _, _ := strings.Cut(strings.Join(l, ""), "."); reserved(ahead) {
		// None of these has a byte ahead of the third one that is told otherwise.
		l[2] = byNumber(part[2])
	}
	for _, i := range [2]int{0, len(part) - 1} {
		if part[i] == '.' || part[i] == ' ' {
			l[i] = byNumber(part[i])
		}
	}
	return strings.Join(l, "")
}

func toldByte(c byte) string {
	switch {
	case c >= 'A' && c <= 'Z':
		return "_" + string([]byte{c - 'A' + 'a'})
	case c == '_':
		return "__"
	case c < 32, c > 125, strings.IndexByte("\\:*?\"<>|", c) >= 0:
		return byNumber(c)
	}
	return string([]byte{c})
}

// byNumber tells a byte by its two digits.
func byNumber(c byte) string { return string([]byte{'~', digits[c>>4], digits[c&15]}) }

// reserved: is that a name that some systems keep for themselves?
func reserved(s string) bool {
	switch s {
	case "aux", "con", "prn", "nul":
		return true
	}
	return len(s) == 4 && (s[:3] == "com" || s[:3] == "lpt") && s[3] >= '1' && s[3] <= '9'
}

// untold tells the bytes that were told as s, if some were.
func untold(s string) string {
	var b []byte
	for i := 0; i < len(s); i++ {
		switch {
		case s[i] == '_' && i+1 < len(s):
			i++
			b = append(b, great(s[i]))
		case s[i] == '~' && i+2 < len(s):
			high, low := strings.IndexByte(digits, s[i+1]), strings.IndexByte(digits, s[i+2])
			b = append(b, byte(max(high, 0)<<4|max(low, 0)))
			i += 2
		default:
			b = append(b, s[i])
		}
	}
	return string(b)
}

// great is the great letter of a small one; other bytes stay.
func great(c byte) byte {
	if c >= 'a' && c <= 'z' {
		return c - 'a' + 'A'
	}
	return c
}
