package skein

import (
	"errors"

	"skein/api"
	"skein/faults"
)

// numberOf is the number of the kind of an error; a reader without one waits.
func numberOf(err error) api.Errno {
	switch {
	case err == nil:
		return api.Wait
	case errors.Is(err, faults.End):
		return api.End
	case errors.Is(err, faults.Limit):
		return api.ErrLimit
	case errors.Is(err, faults.Dict):
		return api.ErrDict
	case errors.Is(err, faults.Short):
		return api.ErrShort
	case errors.Is(err, faults.Sum):
		return api.ErrSum
	}
	return api.ErrFormat
}
