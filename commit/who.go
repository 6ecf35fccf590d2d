package commit

import (
	"strings"

	"tramway/api"
	"tramway/nums"
)

const (
	mostTime = 1<<62 - 1
	zoneSize = len("+0000")
)

// Who did it, and when.
type Who struct {
	Name, Mail string
	Time       int
	Zone       string
}

func (w Who) right() bool {
	return !strings.ContainsAny(w.Name+w.Mail, "<>\n") && w.Time >= 0 && w.Time <= mostTime && rightZone(w.Zone)
}

func rightZone(zone string) bool {
	if len(zone) != zoneSize || zone[0] != '+' && zone[0] != '-' {
		return false
	}
	for _, c := range []byte(zone[1:]) {
		if c < '0' || c > '9' {
			return false
		}
	}
	return true
}

func (w Who) text() string {
	return w.Name + " <" + w.Mail + "> " + nums.Dec(w.Time) + " " + w.Zone
}

// Text tells a person's.
func Text(w Who) (string, api.Errno) {
	if !w.right() {
		return "", api.ErrForm
	}
	return w.text(), api.OK
}

// Person tells a text's.
func Person(s string) (Who, api.Errno) {
	w, ok := personOf(s)
	if !ok || !w.right() {
		return Who{}, api.ErrForm
	}
	return w, api.OK
}

func personOf(s string) (Who, bool) {
	name, s, ok := strings.Cut(s, " <")
	if !ok {
		return Who{}, false
	}
	mail, s, ok := strings.Cut(s, "> ")
	if !ok {
		return Who{}, false
	}
	digits, zone, ok := strings.Cut(s, " ")
	time, e := nums.FromDec(digits)
	return Who{name, mail, time, zone}, ok && e == api.OK
}
