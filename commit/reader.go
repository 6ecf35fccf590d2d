package commit

import (
	"strings"

	"tramway/api"
	"tramway/sha"
)

// rest is what is left of a body.
type rest struct{ left string }

// begins: is one of the keys, with a blank behind, what is left's beginning?
func (r *rest) begins(keys ...string) bool {
	for _, key := range keys {
		if strings.HasPrefix(r.left, key+" ") {
			return true
		}
	}
	return false
}

// take takes so many bytes and what stands behind them, one byte, which is left out.
func (r *rest) take(n int) string {
	s := r.left[:n]
	r.left = r.left[n+1:]
	return s
}

// reader reads a body, part by part. Behind a part that isn't there it goes on with empty ones.
type reader struct {
	rest
	wrong bool // a part wasn't there
}

func (r *reader) fail() {
	r.wrong = true
	r.left = ""
}

// value is what stands behind the key in the next line.
func (r *reader) value(key string) string {
	end := strings.IndexByte(r.left, '\n')
	if end < 0 || !r.begins(key) {
		r.fail()
		return ""
	}
	return r.take(end)[len(key)+1:]
}

func (r *reader) id(key string) api.Id {
	id, e := sha.Parse(r.value(key))
	if e != api.OK {
		r.fail()
	}
	return id
}

func (r *reader) who(key string) Who {
	w, e := Person(r.value(key))
	if e != api.OK {
		r.fail()
	}
	return w
}

// extras are those up to the empty line.
func (r *reader) extras() []Extra {
	var l []Extra
	for r.left != "" && r.left[0] != '\n' {
		end := endOfExtra(r.left)
		if end < 0 {
			r.fail()
			return nil
		}
		key, value, ok := strings.Cut(r.take(end), " ")
		if !ok {
			r.fail()
			return nil
		}
		l = append(l, Extra{key, strings.ReplaceAll(value, "\n ", "\n")})
	}
	return l
}

// endOfExtra is where the first newline stands that has no blank behind.
func endOfExtra(s string) int {
	for at := 0; ; at++ {
		n := strings.IndexByte(s[at:], '\n')
		if n < 0 {
			return -1
		}
		at += n
		if !strings.HasPrefix(s[at+1:], " ") {
			return at
		}
	}
}

// message is what stands behind the empty line.
func (r *reader) message() string {
	if r.left == "" || r.left[0] != '\n' {
		r.fail()
		return ""
	}
	r.take(0)
	return r.left
}
