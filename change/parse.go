package change

import (
	"strings"

	"tramway/api"
	"tramway/nums"
	"tramway/sha"
)

// rest is what is left of a text.
type rest struct{ left string }

// line takes the next line; behind the last one they are empty.
func (r *rest) line() string {
	line, behind, _ := strings.Cut(r.left, "\n")
	r.left = behind
	return line
}

// reader reads a text, part by part. Parts that aren't as they should be it takes for others: Parse sees to that.
type reader struct{ rest }

// Parse tells a text's.
func Parse(b []byte) (Change, api.Errno) {
	r := reader{rest: rest{string(b)}}
	var c Change
	c.Manifest = r.id()
	c.User = r.line()
	c.Time, c.Zone, c.Extras = r.date()
	c.Files = r.files()
	c.Desc = r.left
	// What isn't as it should be isn't printed so.
	again, e := Print(c)
	if e != api.OK || string(again) != string(b) {
		return Change{}, api.ErrForm
	}
	return c, api.OK
}

func (r *reader) id() api.Id {
	id, _ := sha.Parse(r.line())
	return id
}

func number(s string) int {
	digits, below := strings.CutPrefix(s, "-")
	n, _ := nums.FromDec(digits)
	if below {
		return -n
	}
	return n
}

func (r *reader) date() (int, int, []Extra) {
	time, behind, _ := strings.Cut(r.line(), " ")
	zone, words, more := strings.Cut(behind, " ")
	var l []Extra
	if more {
		for _, word := range strings.Split(words, "\x00") {
			key, value, _ := strings.Cut(word, ":")
			l = append(l, Extra{key, parseValue(value)})
		}
	}
	return number(time), number(zone), l
}

func parseValue(s string) string {
	var value strings.Builder
	for i := 0; i < len(s); i++ {
		c := s[i]
		if c == '\\' && i+1 < len(s) {
			i++
			c = meant(s[i])
		}
		value.WriteByte(c)
	}
	return value.String()
}

// meant is the byte that one behind a backslash tells.
func meant(c byte) byte {
	switch c {
	case 'n':
		return '\n'
	case 'r':
		return '\r'
	case '0':
		return 0
	}
	return c
}

// files are the lines up to the empty one.
func (r *reader) files() []string {
	var l []string
	for line := r.line(); line != ""; line = r.line() {
		l = append(l, line)
	}
	return l
}
