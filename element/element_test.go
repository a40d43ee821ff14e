package element_test

import (
	"errors"
	"testing"

	"hallmark/api"
	"hallmark/element"
	"hallmark/fault"
)

func TestReadBeginsAtThePlace(t *testing.T) {
	h, err := element.Read("\x30\x03\x02\x01\x05", 2)
	if want := (api.Head{Number: 2, Size: 2, Length: 1}); h != want || err != nil {
		t.Errorf("Read at 2 = %+v, %v, want %+v", h, err, want)
	}
}

func TestReadTellsWhereTheElementBegins(t *testing.T) {
	for _, c := range []struct {
		rest  string
		which error
	}{
		{"", fault.End}, {"\x02", fault.End}, {"\x02\x01", fault.End}, {"\x02\x82\x01", fault.End},
		{"\x1f", fault.Tag}, {"\x02\x80", fault.Length}, {"\x02\x81\x05", fault.Length},
	} {
		h, err := element.Read("abc"+c.rest, 3)
		var f fault.Fault
		if !errors.As(err, &f) || f.Place != 3 || !errors.Is(err, c.which) || h != (api.Head{}) {
			t.Errorf("Read(%x) at 3 = %+v, %v, want %v", c.rest, h, err, c.which)
		}
	}
}

func TestTellWrapsWhichItIs(t *testing.T) {
	for _, c := range []struct {
		h     api.Head
		which error
	}{
		{api.Head{Class: 4}, fault.Tag}, {api.Head{Number: 31, Length: -1}, fault.Tag}, {api.Head{Length: -1}, fault.Length},
	} {
		if text, err := element.Tell(c.h); text != "" || !errors.Is(err, c.which) {
			t.Errorf("Tell(%+v) = %x, %v, want %v", c.h, text, err, c.which)
		}
	}
}

func TestFirstOfLeavesSizeAndLengthOut(t *testing.T) {
	one := element.FirstOf(api.Head{Class: 2, Built: true, Number: 3, Size: 2, Length: 5})
	if one != element.FirstOf(api.Head{Class: 2, Built: true, Number: 3, Size: 3, Length: 200}) {
		t.Error("heads of one tag with other lengths differ")
	}
	for _, h := range []api.Head{{Class: 1, Built: true, Number: 3}, {Class: 2, Number: 3}, {Class: 2, Built: true, Number: 4}} {
		if one == element.FirstOf(h) {
			t.Errorf("%+v is taken for %+v", h, one)
		}
	}
}

func TestHeadSaysWhatItsFirstSays(t *testing.T) {
	want := api.Head{Class: 2, Built: true, Number: 3, Length: 200}
	if h := element.FirstOf(want).Head(200); h != want {
		t.Errorf("Head = %+v, want %+v", h, want)
	}
}

func TestIsWhole(t *testing.T) {
	for text, want := range map[string]bool{"\x05\x00": true, "\x04\x02ab": true, "": false, "\x05": false, "\x04\x02a": false, "\x04\x02abc": false, "\x1f\x00": false, "\x04\x81\x01a": false} {
		if element.IsWhole(text) != want {
			t.Errorf("IsWhole(%x) is not %v", text, want)
		}
	}
}
