package decode_test

import (
	"errors"
	"testing"

	"hallmark/api"
	"hallmark/decode"
	"hallmark/fault"
)

// What is wrong tells its place, in bytes, and wraps which it is.
func TestTreeTellsThePlace(t *testing.T) {
	schema := []api.Node{
		{Kind: api.SetOf, Tag: -1, Kids: []api.Kid{{Node: 1}}},
		{Kind: api.Seq, Tag: -1, Kids: []api.Kid{{Node: 2, Default: "\x01\x01\x00"}, {Node: 0, Optional: true}}},
		{Kind: api.Bool, Tag: -1},
	}
	for _, c := range []struct {
		data  string
		place int
		which error
	}{
		{string(make([]byte, api.MaxData+1)), 0, fault.Long},
		{"\x31\x02\x30", 0, fault.End},
		{"\x31\x02\x31\x00", 2, fault.Tag},
		{"\x31\x02\x30\x80", 2, fault.Length},
		{"\x31\x05\x30\x03\x01\x01\x07", 4, fault.Value},
		{"\x31\x04\x30\x02\x05\x00", 4, fault.More},
		{"\x31\x07\x30\x03\x01\x01\xff\x30\x00", 7, fault.Order},
		{"\x31\x05\x30\x03\x01\x01\x00", 4, fault.Default},
		{"\x31\x18\x30\x16\x31\x14\x30\x12\x31\x10\x30\x0e\x31\x0c\x30\x0a\x31\x08\x30\x06\x31\x04\x30\x02\x31\x00", 24, fault.Deep},
	} {
		wantFault(t, schema, 0, c.data, c.place, c.which)
	}
	wantFault(t, schema, 3, "\x31\x00", 0, fault.Schema)
	wantFault(t, append(schema, api.Node{}), 0, "\x31\x00", 0, fault.Schema)
}

func wantFault(t *testing.T, schema []api.Node, root int, data string, place int, which error) {
	t.Helper()
	tree, err := decode.Tree(schema, root, data)
	var f fault.Fault
	if tree != nil || !errors.Is(err, which) || !errors.As(err, &f) || f.Place != place {
		t.Errorf("Tree(%d, %.60x) = %v, %v, want %v at %d", root, data, tree, err, which, place)
	}
}
