package change

import (
	"strings"

	"tramway/api"
	"tramway/nums"
	"tramway/sha"
)

// rest is what is left of a text.
type rest struct{ left string }

// line takes the next line, and tells whether it ended.
func (r *rest) line() (string, bool) {
	line, behind, ok := strings.Cut(r.left, "\n")
	r.left = behind
	return line, ok
}

// reader reads a text, part by part. It takes some that are told otherwise than they should be.
type reader struct {
	rest
	wrong bool // a part wasn't there
}

// Parse tells a text's.
func Parse(b []byte) (Change, api.Errno) {
	r := reader{rest: rest{string(b)}}
	var c Change
	c.Manifest = r.id()
	c.User = r.part()
	c.Time, c.Zone, c.Extras = r.date()
	c.Files = r.files()
	c.Desc = r.left
	// What was told otherwise shows here.
	again, e := Print(c)
	if r.wrong || e != api.OK || string(again) != string(b) {
		return Change{}, api.ErrForm
	}
	return c, api.OK
}

// part is a line that must be there.
func (r *reader) part() string {
	line, ok := r.line()
	if !ok {
		r.wrong = true
	}
	return line
}

func (r *reader) id() api.Id {
	id, e := sha.Parse(r.part())
	if e != api.OK {
		r.wrong = true
	}
	return id
}

func (r *reader) number(s string) int {
	digits, below := strings.CutPrefix(s, "-")
	n, e := nums.FromDec(digits)
	if e != api.OK {
		r.wrong = true
	}
	if below {
		return -n
	}
	return n
}

func (r *reader) date() (int, int, []Extra) {
	time, behind, _ := strings.Cut(r.part(), " ")
	zone, words, more := strings.Cut(behind, " ")
	var l []Extra
	if more {
		for _, word := range strings.Split(words, "\x00") {
			key, value, _ := strings.Cut(word, ":")
			l = append(l, Extra{key, parseValue(value)})
		}
	}
	return r.number(time), r.number(zone), l
}

func parseValue(s string) string {
	var value strings.Builder
	for i := 0; i < len(s); i++ {
		c := s[i]
		if c == '\\' && i+1 < len(s) {
			i++
			c = meant(s[i])
		}
		value.WriteByte(c)
	}
	return value.String()
}

// meant is the byte that one behind a backslash tells.
func meant(c byte) byte {
	switch c {
	case 'n':
		return '\n'
	case 'r':
		return '\r'
	case '0':
		return 0
	}
	return c
}

// files are the lines up to the empty one.
func (r *reader) files() []string {
	var l []string
	for !r.wrong {
		line := r.part()
		if line == "" {
			break
		}
		l = append(l, line)
	}
	return l
}
