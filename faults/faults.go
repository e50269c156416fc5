// Package faults: why a stream cannot be read on, and where.
package faults

import (
	"errors"
	"strconv"

	"skein/api"
)

// The kinds. The end of a stream is one of them, since it stops a reader as the others do.
var (
	End    = errors.New("all has been read")
	Format = errors.New("bytes that are no stream")
	Limit  = errors.New("a window that is too large")
	Dict   = errors.New("a dictionary that is not there")
	Short  = errors.New("a stream that ends too soon")
	Sum    = errors.New("a frame whose sum is another one")
)

// Fault wraps an error of one of the kinds by the place where it was met.
type Fault struct {
	Place api.Place
	Cause error
}

func (f *Fault) Error() string {
	return "frame " + strconv.Itoa(f.Place.Frame) + ", block " + strconv.Itoa(f.Place.Block) + ": " + f.Cause.Error()
}

// Unwrap lets errors.Is ask for the kind.
func (f *Fault) Unwrap() error {
	return f.Cause
}
