package fault_test

import (
	"errors"
	"testing"

	"hallmark/fault"
)

func TestFaultTellsItsPlaceAndWrapsWhichItIs(t *testing.T) {
	all := []error{fault.Schema, fault.Long, fault.End, fault.Tag, fault.Length, fault.Value, fault.More, fault.Order, fault.Default, fault.Deep, fault.Tree, fault.Card, fault.Mark}
	for i, which := range all {
		err := fault.At(7+i, which)
		for _, other := range all {
			if errors.Is(err, other) != (other == which) {
				t.Errorf("%v: errors.Is(.., %v) = %v", err, other, other != which)
			}
		}
		var f fault.Fault
		if !errors.As(err, &f) || f.Place != 7+i || f.Which != which {
			t.Errorf("%v: errors.As gives %+v", err, f)
		}
	}
	var f fault.Fault
	if err := fault.At(3, fault.At(9, fault.Tag)); !errors.Is(err, fault.Tag) || !errors.As(err, &f) || f.Place != 3 {
		t.Errorf("%v: errors.As gives %+v, not the outer place", err, f)
	}
	if got := fault.At(12, fault.End).Error(); got != "the bytes end, at 12" {
		t.Errorf("Error() = %q", got)
	}
}
