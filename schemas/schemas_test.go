package schemas_test

import (
	"errors"
	"testing"

	"hallmark/api"
	"hallmark/fault"
	"hallmark/schemas"
)

func TestCheckTellsTheNode(t *testing.T) {
	plain := api.Node{Kind: api.Int, Tag: -1}
	for _, c := range []struct {
		what  string
		nodes []api.Node
		place int
	}{
		{"no nodes", nil, 0},
		{"a kind that is none", []api.Node{plain, {Kind: 15, Tag: -1}}, 1},
		{"a kid that is none", []api.Node{plain, plain, {Kind: api.SeqOf, Tag: -1, Kids: []api.Kid{{Node: 3}}}}, 2},
		{"a Default that is none", []api.Node{plain, {Kind: api.Seq, Tag: -1, Kids: []api.Kid{{Node: 0, Default: "\x02"}}}}, 1},
		{"a Choice that comes back", []api.Node{plain, {Kind: api.Choice, Tag: -1, Kids: []api.Kid{{Node: 1}}}}, 1},
		{"two kids with one beginning", []api.Node{plain, {Kind: api.Choice, Tag: -1, Kids: []api.Kid{{Node: 0}, {Node: 0}}}}, 1},
	} {
		err := schemas.Check(c.nodes)
		var f fault.Fault
		if !errors.As(err, &f) || f.Place != c.place || !errors.Is(err, fault.Schema) {
			t.Errorf("%s: %v, want %v at %d", c.what, err, fault.Schema, c.place)
		}
	}
	if err := schemas.Check([]api.Node{plain}); err != nil {
		t.Errorf("a right schema: %v", err)
	}
}
