package fault

import (
	"errors"
	"fmt"
	"testing"

	"quern/api"
)

var errDeep = errors.New("deep")

func TestNumber(t *testing.T) {
	deep := New(api.ErrFormat, "line 3", errDeep)
	for _, c := range []struct {
		err  error
		want api.Errno
	}{
		{nil, api.OK},
		{deep, api.ErrFormat},
		{fmt.Errorf("further up: %w", deep), api.ErrFormat},
		{New(api.ErrCorrupt, "a file", deep), api.ErrCorrupt},
		{New(api.ErrLong, "the input", nil), api.ErrLong},
		{errDeep, api.ErrArg},
	} {
		if got := Number(c.err); got != c.want {
			t.Errorf("Number(%v) = %d, want %d", c.err, got, c.want)
		}
	}
}

func TestChain(t *testing.T) {
	err := New(api.ErrCorrupt, "a file", New(api.ErrFormat, "line 3", errDeep))
	if !errors.Is(err, errDeep) {
		t.Errorf("%v does not wrap what was behind it", err)
	}
	if got, want := err.Error(), "a file: line 3: deep"; got != want {
		t.Errorf("Error() = %q, want %q", got, want)
	}
	if got, want := New(api.ErrLong, "the input", nil).Error(), "the input"; got != want {
		t.Errorf("Error() = %q, want %q", got, want)
	}
}
