package faults

import (
	"errors"
	"testing"

	"skein/api"
)

func kinds() []error {
	return []error{End, Format, Limit, Dict, Short, Sum}
}

func TestKindAndPlaceAreAsked(t *testing.T) {
	place := api.Place{Frame: 3, Block: 7}
	for i, kind := range kinds() {
		var err error = &Fault{Place: place, Cause: kind}
		for k, other := range kinds() {
			if errors.Is(err, other) != (i == k) {
				t.Errorf("%v: errors.Is(.., %v) = %v", err, other, i != k)
			}
		}
		var fault *Fault
		if !errors.As(err, &fault) || fault.Place != place {
			t.Errorf("%v: errors.As does not tell the place", err)
		}
	}
}

func TestFaultTellsKindAndPlace(t *testing.T) {
	fault := &Fault{Place: api.Place{Frame: 3, Block: 7}, Cause: Short}
	if got, want := fault.Error(), "frame 3, block 7: a stream that ends too soon"; got != want {
		t.Errorf("Error() = %q, want %q", got, want)
	}
}
