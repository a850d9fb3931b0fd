package lockbox

import (
	"errors"
	"strconv"

	"lockbox/api"
)

// Whatever goes wrong deep inside is one of these two, with a fault around it.
var (
	errNoPower = errors.New("the power is gone")
	errWrong   = errors.New("the disk does not hold what it must")
)

// nowhere stands for the zone and the slot of what has no place: the flushing, the anchor.
const nowhere = -1

// fault tells what went wrong, and where.
type fault struct {
	what       string
	zone, slot int
	cause      error
}

func (f *fault) Error() string {
	where := ""
	if f.zone != nowhere {
		where = " (zone " + strconv.Itoa(f.zone) + ", slot " + strconv.Itoa(f.slot) + ")"
	}
	return f.what + where + ": " + f.cause.Error()
}

func (f *fault) Unwrap() error { return f.cause }

// errno tells what a call answers if err went wrong deep inside.
func errno(err error) api.Errno {
	switch {
	case err == nil:
		return api.OK
	case errors.Is(err, errNoPower):
		return api.ErrFailed
	default:
		return api.ErrIntegrity
	}
}
