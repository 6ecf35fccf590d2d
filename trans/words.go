package trans

import (
	"strings"

	"tramway/api"
	"tramway/change"
	"tramway/nums"
)

// words are those of a change.
func words(x change.Change) string {
	var s strings.Builder
	s.WriteString(x.User + "\n" + nums.Dec(x.Time) + " " + nums.Dec(x.Zone) + "\n")
	for _, extra := range x.Extras {
		s.WriteString(extra.Key + " " + strings.ReplaceAll(extra.Value, "\n", "\n ") + "\n")
	}
	return s.String()
}

// parseWords is the change, without its Desc, that a text is the words of.
func parseWords(text string) (change.Change, bool) {
	user, rest, ok := strings.Cut(text, "\n")
	if !ok {
		return change.Change{}, false
	}
	time, rest, ok := strings.Cut(rest, " ")
	if !ok {
		return change.Change{}, false
	}
	zone, rest, ok := strings.Cut(rest, "\n")
	if !ok {
		return change.Change{}, false
	}
	x := change.Change{User: user}
	x.Time, ok = number(time)
	if !ok {
		return change.Change{}, false
	}
	x.Zone, ok = number(zone)
	if !ok {
		return change.Change{}, false
	}
	x.Extras, ok = parseExtras(rest)
	// What isn't written as the words are isn't they.
	return x, ok && words(x) == text
}

func number(s string) (int, bool) {
	digits, below := strings.CutPrefix(s, "-")
	n, e := nums.FromDec(digits)
	if below {
		n = -n
	}
	return n, e == api.OK
}

func parseExtras(text string) ([]change.Extra, bool) {
	var l []change.Extra
	for text != "" {
		key, behind, ok := strings.Cut(text, " ")
		if !ok {
			return nil, false
		}
		value, rest, ok := cutValue(behind)
		if !ok {
			return nil, false
		}
		l = append(l, change.Extra{Key: key, Value: value})
		text = rest
	}
	return l, true
}

// cutValue tells the value up to a newline that has no blank behind, and what is left behind it.
func cutValue(s string) (string, string, bool) {
	for at := 0; ; at++ {
		n := strings.IndexByte(s[at:], '\n')
		if n < 0 {
			return "", "", false
		}
		at += n
		if !strings.HasPrefix(s[at+1:], " ") {
			return strings.ReplaceAll(s[:at], "\n ", "\n"), s[at+1:], true
		}
	}
}
