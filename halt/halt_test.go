package halt_test

import (
	"testing"

	"tramway/api"
	"tramway/halt"
)

func TestRun(t *testing.T) {
	for name, c := range map[string]struct {
		steps func()
		e     api.Errno
	}{
		"nothing":        {func() {}, api.OK},
		"an error":       {func() { halt.With(api.ErrSum) }, api.ErrSum},
		"on an error":    {func() { halt.On(api.ErrEnd) }, api.ErrEnd},
		"on none":        {func() { halt.On(api.OK) }, api.OK},
		"unless it's so": {func() { halt.Unless(true, api.ErrArg) }, api.OK},
		"it isn't so":    {func() { halt.Unless(false, api.ErrArg) }, api.ErrArg},
		"runs in runs":   {func() { halt.On(halt.Run(func() { halt.With(api.ErrFull) })) }, api.ErrFull},
	} {
		done := false
		e := halt.Run(func() {
			c.steps()
			done = true
		})
		if e != c.e || done != (e == api.OK) {
			t.Errorf("%s: %d", name, e)
		}
	}
}

// What others throw isn't caught.
func TestOtherFaults(t *testing.T) {
	defer func() {
		if recover() != "other" {
			t.Error("it was caught")
		}
	}()
	halt.Run(func() { panic("other") })
}
