package logic

import (
	"errors"
	"testing"

	"toolchest/api"
)

// Errors tell what they are about, and let what they wrap be asked for.
func TestErrors(t *testing.T) {
	for _, c := range []struct {
		err  error
		of   errno
		text string
	}{
		{errUsage, errUsage, "usage"},
		{errNumber, errNumber, "not a number"},
		{&wrong{"x", errNumber}, errNumber, "x: not a number"},
		{&wrong{"[", errno(api.ErrRegex)}, errno(api.ErrRegex), "[: bad regular expression"},
	} {
		if c.err.Error() != c.text || !errors.Is(c.err, c.of) || errors.Is(c.err, errno(api.ErrMany)) {
			t.Errorf("%q, not %q", c.err.Error(), c.text)
		}
	}
}
