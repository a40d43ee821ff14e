package encode_test

import (
	"errors"
	"strings"
	"testing"

	"hallmark/api"
	"hallmark/encode"
	"hallmark/fault"
)

// What is wrong tells its place, in values of the tree, and wraps which it is.
func TestBytesTellsThePlace(t *testing.T) {
	schema := []api.Node{
		{Kind: api.Seq, Tag: -1, Kids: []api.Kid{{Node: 1}, {Node: 2}, {Node: 3, Optional: true}}},
		{Kind: api.SetOf, Tag: -1, Kids: []api.Kid{{Node: 4}}},
		{Kind: api.Octets, Tag: -1},
		{Kind: api.Choice, Tag: -1, Kids: []api.Kid{{Node: 0}}},
		{Kind: api.Int, Tag: -1},
	}
	seq, absent := api.Value{Kind: api.Seq, Kids: 3}, api.Value{Kind: api.Absent}
	set, number := api.Value{Kind: api.SetOf, Kids: 3}, func(n string) api.Value { return api.Value{Kind: api.Int, Text: n} }
	short, long := api.Value{Kind: api.Octets}, api.Value{Kind: api.Octets, Text: strings.Repeat("x", api.MaxData)}
	for _, c := range []struct {
		tree  []api.Value
		place int
		which error
	}{
		{nil, 0, fault.Tree},
		{[]api.Value{set}, 0, fault.Tree},
		{[]api.Value{seq, set, number("\x01")}, 3, fault.Tree},
		{[]api.Value{seq, set, number("\x01"), number("\x02"), number(""), short, absent}, 4, fault.Tree},
		{[]api.Value{seq, set, number("\x02"), number("\x01"), number("\x03"), long, absent, absent}, 7, fault.Tree},
		{[]api.Value{seq, set, number("\x02"), number("\x01"), number("\x03"), long, absent}, 0, fault.Long},
		{[]api.Value{seq, set, number("\x02"), number("\x01"), number("\x00"), short, absent}, 3, fault.Order},
		{[]api.Value{seq, set, number("\x01"), number("\x01"), number("\x00"), short, absent}, 4, fault.Order},
	} {
		wantFault(t, schema, 0, c.tree, c.place, c.which)
	}
	wantFault(t, schema, 5, nil, 0, fault.Schema)
	wantFault(t, append(schema, api.Node{}), 0, nil, 0, fault.Schema)
}

func wantFault(t *testing.T, schema []api.Node, root int, tree []api.Value, place int, which error) {
	t.Helper()
	text, err := encode.Bytes(schema, root, tree)
	var f fault.Fault
	if text != "" || !errors.Is(err, which) || !errors.As(err, &f) || f.Place != place {
		t.Errorf("Bytes(%d, %d values) = %.60x, %v, want %v at %d", root, len(tree), text, err, which, place)
	}
}
