package hallmark_test

import (
	"reflect"
	"strings"
	"testing"

	"hallmark/api"
	"hallmark/hallmark"
)

// wantTaken wants Encode to tell a tree so, and Decode to read it again (P8).
func wantTaken(t *testing.T, what string, schema []api.Node, root int, want string, values ...api.Value) {
	t.Helper()
	got, e := hallmark.Encode(schema, root, values)
	if got != want || e != api.OK {
		t.Errorf("P6: %s: Encode(%s) = %.80x, %d, want %.80x", what, brief(values), got, e, want)
	}
	back, place, e := hallmark.Decode(schema, root, want)
	if !reflect.DeepEqual(back, values) || place != 0 || e != api.OK {
		t.Errorf("P8: %s: Decode(%.80x) = %s, %d, %d, want %s", what, want, brief(back), place, e, brief(values))
	}
}

func wantRefused(t *testing.T, what string, schema []api.Node, root int, want api.Errno, trees ...[]api.Value) {
	t.Helper()
	for _, values := range trees {
		if got, e := hallmark.Encode(schema, root, values); got != "" || e != want {
			t.Errorf("P6: %s: Encode(%s) = %.80x, %d, want %d", what, brief(values), got, e, want)
		}
	}
}

// wantNoTree wants what is no tree of the node to be refused so.
func wantNoTree(t *testing.T, what string, schema []api.Node, root int, trees ...[]api.Value) {
	t.Helper()
	wantRefused(t, what, schema, root, api.ErrTree, trees...)
}

func TestEncodeExamples(t *testing.T) {
	wantTaken(t, "example 2", []api.Node{anInt}, 0, "\x02\x01\x05", number(5))
	wantNoTree(t, "example 2", []api.Node{anInt}, 0, tree(leaf(api.Int, "\x00\x05")))
	three := []api.Node{plain(api.Seq, withDefault(1, "\x01\x01\x00"), optional(2)), aBool, anInt}
	wantTaken(t, "example 3", three, 0, "\x30\x00", built(api.Seq, 2), leaf(api.Bool, "\x00"), absent)
	wantTaken(t, "example 3", three, 0, "\x30\x03\x02\x01\x07", built(api.Seq, 2), leaf(api.Bool, "\x00"), number(7))
	wantTaken(t, "example 3", three, 0, "\x30\x06\x01\x01\xff\x02\x01\x07", built(api.Seq, 2), leaf(api.Bool, "\xff"), number(7))
	set := []api.Node{plain(api.SetOf, kid(1)), anInt}
	wantRefused(t, "example 4", set, 0, api.ErrOrder, tree(built(api.SetOf, 2), number(2), number(1)))
}

func TestEncodeContents(t *testing.T) {
	for _, c := range contents {
		schema := []api.Node{plain(c.kind), node(c.kind, 30, 0), node(c.kind, 0, 1)}
		for _, text := range c.right {
			if len(text) > 3900 {
				wantRefused(t, "too long", schema, 0, api.ErrLong, tree(leaf(c.kind, text)))
				continue
			}
			wantTaken(t, "without a Tag", schema, 0, element(c.number, text), leaf(c.kind, text))
			wantTaken(t, "Mode 0", schema, 1, element(0x9e, text), leaf(c.kind, text))
			wantTaken(t, "Mode 1", schema, 2, element(0xa0, element(c.number, text)), leaf(c.kind, text))
		}
		for _, text := range c.wrong {
			for root := range schema {
				wantNoTree(t, "a content that may not be", schema, root, tree(leaf(c.kind, text)))
			}
		}
	}
}

func TestEncodeSchemaAndRoot(t *testing.T) {
	schema := []api.Node{plain(api.SeqOf, kid(1)), anInt}
	wantTaken(t, "another root", schema, 1, "\x02\x01\x05", number(5))
	for _, root := range append([]int{2}, extremes...) {
		if root != 0 && root != 1 {
			wantRefused(t, "no root", schema, root, api.ErrSchema, nil, tree(number(5)), tree(built(api.SeqOf, 0)))
		}
	}
	for _, wrong := range [][]api.Node{nil, {}, append(schema[:2:2], plain(15)), {anInt, plain(api.Choice, kid(1))}, make([]api.Node, 41)} {
		wantRefused(t, "a schema that is not right", wrong, 0, api.ErrSchema, nil, tree(number(5)), tree(leaf(api.Octets, strings.Repeat("x", 5000))))
	}
}

// Each kind of value for each kind of node: only its own is taken.
func TestEncodeKinds(t *testing.T) {
	values := map[int][]api.Value{
		api.Seq: tree(built(api.Seq, 0)), api.SeqOf: tree(built(api.SeqOf, 0)), api.SetOf: tree(built(api.SetOf, 0)),
		api.Choice: tree(alt(0), leaf(api.Null, "")), api.Any: tree(leaf(api.Any, "\x05\x00")),
		api.Absent: tree(absent), 0: tree(api.Value{}), 16: tree(leaf(16, "")), -1: tree(leaf(-1, "")), 1 << 62: tree(leaf(1<<62, "")),
	}
	nodes := map[int]api.Node{
		api.Seq: plain(api.Seq), api.SeqOf: plain(api.SeqOf, kid(1)), api.SetOf: plain(api.SetOf, kid(1)),
		api.Choice: plain(api.Choice, kid(1)), api.Any: anAny,
	}
	for _, c := range contents {
		values[c.kind], nodes[c.kind] = tree(leaf(c.kind, c.right[0])), plain(c.kind)
	}
	for kind, n := range nodes {
		for other, value := range values {
			_, e := hallmark.Encode([]api.Node{n, aNull}, 0, value)
			if want := map[bool]api.Errno{true: api.OK, false: api.ErrTree}[kind == other]; e != want {
				t.Errorf("P6: a value of the kind %d for a node of the kind %d: %d, want %d", other, kind, e, want)
			}
		}
	}
}

// What a value does not use is empty and 0.
func TestEncodeUnused(t *testing.T) {
	for _, c := range contents {
		for _, n := range extremes {
			if n != 0 {
				wantNoTree(t, "an Alt or Kids", []api.Node{plain(c.kind)}, 0, tree(api.Value{Kind: c.kind, Text: c.right[0], Alt: n}), tree(api.Value{Kind: c.kind, Text: c.right[0], Kids: n}))
			}
		}
		wantNoTree(t, "one that has a kid", []api.Node{plain(c.kind)}, 0, tree(api.Value{Kind: c.kind, Text: c.right[0], Kids: 1}, leaf(c.kind, c.right[0])))
	}
	schema := []api.Node{plain(api.Seq, optional(1), kid(2)), aNull, plain(api.Choice, kid(3), kid(4)), plain(api.SeqOf, kid(1)), plain(api.SetOf, kid(1))}
	right := tree(built(api.Seq, 2), absent, alt(0), built(api.SeqOf, 0))
	wantTaken(t, "as it is", schema, 0, "\x30\x02\x30\x00", right...)
	other := tree(built(api.Seq, 2), absent, alt(1), built(api.SetOf, 0))
	wantTaken(t, "as it is", schema, 0, "\x30\x02\x31\x00", other...)
	for _, values := range [][]api.Value{right, other} {
		for i, v := range values {
			spoil := func(v api.Value) {
				wrong := append(tree(), values...)
				wrong[i] = v
				wantNoTree(t, "something that is not used", schema, 0, wrong)
			}
			for _, n := range extremes {
				if v.Kind != api.Choice && n != 0 {
					spoil(api.Value{Kind: v.Kind, Kids: v.Kids, Alt: n})
				}
				if n != v.Kids {
					spoil(api.Value{Kind: v.Kind, Alt: v.Alt, Kids: n})
				}
			}
			spoil(api.Value{Kind: v.Kind, Alt: v.Alt, Kids: v.Kids, Text: "\x00"})
			spoil(api.Value{Kind: v.Kind, Alt: v.Alt, Kids: v.Kids, Text: "\x05\x00"})
		}
	}
	wantNoTree(t, "Any", []api.Node{anAny}, 0, tree(api.Value{Kind: api.Any, Text: "\x05\x00", Alt: 1}), tree(api.Value{Kind: api.Any, Text: "\x05\x00", Kids: 1}), tree(api.Value{Kind: api.Any, Text: "\x05\x00", Kids: 1}, leaf(api.Null, "")))
}

// A tree has as many values as it says, and nothing behind.
func TestEncodeEndsAndMore(t *testing.T) {
	schema := []api.Node{plain(api.Seq, kid(1), optional(2), withDefault(3, "\x01\x01\x00"), kid(4)), plain(api.Choice, kid(5)), aNull, aBool, plain(api.SeqOf, kid(1)), anInt}
	right := tree(built(api.Seq, 4), alt(0), number(1), leaf(api.Null, ""), leaf(api.Bool, "\xff"), built(api.SeqOf, 2), alt(0), number(2), alt(0), number(3))
	wantTaken(t, "all of it", schema, 0, "\x30\x10\x02\x01\x01\x05\x00\x01\x01\xff\x30\x06\x02\x01\x02\x02\x01\x03", right...)
	for i := range right {
		wantNoTree(t, "a tree that ends", schema, 0, right[:i])
	}
	wantNoTree(t, "nothing", schema, 0, nil, tree())
	for _, v := range append(right, absent, api.Value{}) {
		wantNoTree(t, "something behind", schema, 0, append(append(tree(), right...), v))
	}
	wantNoTree(t, "a kid more or fewer", schema, 0,
		tree(built(api.Seq, 4), alt(0), number(1), absent, leaf(api.Bool, "\x00"), built(api.SeqOf, 1)),
		tree(built(api.Seq, 4), alt(0), number(1), absent, leaf(api.Bool, "\x00"), built(api.SeqOf, 1), alt(0), number(1), alt(0), number(2)),
		tree(built(api.Seq, 4), alt(0), number(1), absent, leaf(api.Bool, "\x00"), built(api.SeqOf, 0), alt(0), number(1)),
		tree(built(api.Seq, 3), alt(0), number(1), leaf(api.Bool, "\x00"), built(api.SeqOf, 0)),
		tree(built(api.Seq, 5), alt(0), number(1), absent, leaf(api.Bool, "\x00"), built(api.SeqOf, 0), absent),
		tree(built(api.Seq, 4), alt(0), number(1), absent, leaf(api.Bool, "\x00"), built(api.SeqOf, 0), absent),
	)
	wantTaken(t, "no kids", []api.Node{plain(api.Seq)}, 0, "\x30\x00", built(api.Seq, 0))
	wantNoTree(t, "no kids", []api.Node{plain(api.Seq)}, 0, tree(built(api.Seq, 1)), tree(built(api.Seq, 1), absent), tree(built(api.Seq, 0), absent))
}

func TestEncodeKidsThatAreLeftOut(t *testing.T) {
	schema := []api.Node{
		plain(api.Seq, optional(1), withDefault(2, "\x02\x01\x05"), optional(3), kid(4), withDefault(2, "\x02\x01\x07")),
		aBool, anInt, plain(api.Choice, kid(5), kid(6)), aNull, plain(api.Octets), plain(api.SeqOf, kid(2)),
	}
	null := leaf(api.Null, "")
	seq := built(api.Seq, 5)
	wantTaken(t, "all", schema, 0, "\x30\x02\x05\x00", seq, absent, number(5), absent, null, number(7))
	wantTaken(t, "none", schema, 0, "\x30\x0d\x01\x01\x00\x02\x01\x07\x04\x00\x05\x00\x02\x01\x05", seq, leaf(api.Bool, "\x00"), number(7), alt(0), leaf(api.Octets, ""), null, number(5))
	wantTaken(t, "the ones with a Default", schema, 0, "\x30\x0a\x01\x01\xff\x30\x03\x02\x01\x05\x05\x00", seq, leaf(api.Bool, "\xff"), number(5), alt(1), built(api.SeqOf, 1), number(5), null, number(7))
	wantTaken(t, "the Optional ones", schema, 0, "\x30\x05\x02\x01\x06\x05\x00", seq, absent, number(6), absent, null, number(7))
	wantNoTree(t, "left out, though it may not be", schema, 0,
		tree(seq, absent, absent, absent, null, number(7)),
		tree(seq, absent, number(5), absent, absent, number(7)),
		tree(seq, absent, number(5), absent, null, absent),
	)
	wantNoTree(t, "not so Absent", schema, 0,
		tree(seq, api.Value{Kind: api.Absent, Text: "\x00"}, number(5), absent, null, number(7)),
		tree(seq, absent, number(5), alt(0), absent, null, number(7)),
		tree(seq, absent, number(5), absent, null, number(7), absent),
		tree(seq, number(5), absent, null, number(7)),
	)
	wantNoTree(t, "a Default that is not just so", schema, 0,
		tree(seq, absent, leaf(api.Octets, "\x05"), absent, null, number(7)),
		tree(seq, absent, api.Value{Kind: api.Int, Text: "\x05", Alt: 1}, absent, null, number(7)),
		tree(seq, absent, api.Value{Kind: api.Int, Text: "\x05", Kids: 1}, absent, null, number(7)),
		tree(seq, absent, leaf(api.Int, "\x00\x05"), absent, null, number(7)),
	)
	for _, kind := range []int{api.SeqOf, api.SetOf} {
		wantNoTree(t, "no kid of a Seq", []api.Node{plain(kind, kid(1)), aNull}, 0, tree(built(kind, 1), absent), tree(absent))
	}
	wantNoTree(t, "no kid of a Seq", []api.Node{plain(api.Choice, kid(1)), aNull}, 0, tree(alt(0), absent), tree(absent))
}

func TestEncodeDefaultsWithTags(t *testing.T) {
	for _, c := range contents {
		text, other := c.right[0], c.right[len(c.right)-1]
		if len(other) > 3900 {
			other = "other"
		}
		for bytes, n := range map[string]api.Node{
			element(c.number, text):                plain(c.kind),
			element(0x83, text):                    node(c.kind, 3, 0),
			element(0xa3, element(c.number, text)): node(c.kind, 3, 1),
		} {
			schema := defaults(n, bytes)
			wantTaken(t, "its Default", schema, 0, "\x30\x00", built(api.Seq, 1), leaf(c.kind, text))
			if other != text {
				wantTaken(t, "another", schema, 0, element(0x30, wrapped(n, other)), built(api.Seq, 1), leaf(c.kind, other))
			}
			wantNoTree(t, "the Default's bytes", schema, 0, tree(built(api.Seq, 1), leaf(api.Any, bytes)), tree(built(api.Seq, 1), absent))
		}
	}
}

func TestEncodeLists(t *testing.T) {
	for kind, first := range map[int]byte{api.SeqOf: 0x30, api.SetOf: 0x31} {
		schema := []api.Node{plain(kind, kid(1)), plain(api.Octets)}
		for _, count := range []int{0, 1, 2, 63, 64, 127, 128, 500, 1998} {
			values := append(tree(built(kind, count)), repeat(count, leaf(api.Octets, ""))...)
			wantTaken(t, "so many", schema, 0, element(first, strings.Repeat("\x04\x00", count)), values...)
			values[0].Kids++
			wantNoTree(t, "fewer than it says", schema, 0, values)
			values[0].Kids -= 2
			wantNoTree(t, "more than it says", schema, 0, values)
		}
	}
	schema := []api.Node{plain(api.SeqOf, kid(1)), anInt}
	wantTaken(t, "in any order", schema, 0, "\x30\x09\x02\x01\x03\x02\x01\x01\x02\x01\x02", built(api.SeqOf, 3), number(3), number(1), number(2))
	wantNoTree(t, "of another kind", schema, 0, tree(built(api.SeqOf, 2), number(1), leaf(api.Bool, "\x00")), tree(built(api.SeqOf, 1), built(api.SeqOf, 0)))
}

func TestEncodeOrder(t *testing.T) {
	ints := []api.Node{plain(api.SetOf, kid(1)), anInt, node(api.SetOf, 0, 0, kid(1)), node(api.SetOf, 0, 1, kid(1))}
	long := leaf(api.Int, "\x01\x00")
	wantTaken(t, "rising", ints, 0, "\x31\x0a\x02\x01\x05\x02\x01\xff\x02\x02\x01\x00", built(api.SetOf, 3), number(5), number(255), long)
	wantTaken(t, "alike", ints, 0, "\x31\x09\x02\x01\x05\x02\x01\x05\x02\x01\x05", built(api.SetOf, 3), number(5), number(5), number(5))
	wantTaken(t, "Mode 0", ints, 2, "\xa0\x06\x02\x01\x05\x02\x01\x06", built(api.SetOf, 2), number(5), number(6))
	wantTaken(t, "Mode 1", ints, 3, "\xa0\x08\x31\x06\x02\x01\x05\x02\x01\x06", built(api.SetOf, 2), number(5), number(6))
	for _, root := range []int{0, 2, 3} {
		wantRefused(t, "not rising", ints, root, api.ErrOrder,
			tree(built(api.SetOf, 2), number(5), number(4)),
			tree(built(api.SetOf, 2), number(255), number(1)),
			tree(built(api.SetOf, 2), long, number(5)),
			tree(built(api.SetOf, 3), number(1), number(3), number(2)),
			tree(built(api.SetOf, 3), number(2), number(1), number(3)),
			tree(built(api.SetOf, 4), number(2), number(3), number(1), number(4)),
		)
	}
	anything := []api.Node{plain(api.SetOf, kid(1)), anAny}
	wantTaken(t, "by the bytes of Any", anything, 0, "\x31\x05\x01\x01\x05\x05\x00", built(api.SetOf, 2), leaf(api.Any, "\x01\x01\x05"), leaf(api.Any, "\x05\x00"))
	wantRefused(t, "by the bytes of Any", anything, 0, api.ErrOrder, tree(built(api.SetOf, 2), leaf(api.Any, "\x05\x00"), leaf(api.Any, "\x01\x01\x05")), tree(built(api.SetOf, 2), leaf(api.Any, "\xde\x00"), leaf(api.Any, "\x5e\x00")))
	tagged := []api.Node{plain(api.SetOf, kid(1)), plain(api.Choice, kid(2), kid(3)), node(api.Int, 9, 1), node(api.Int, 3, 1)}
	wantTaken(t, "by what is around", tagged, 0, "\x31\x0a\xa3\x03\x02\x01\x05\xa9\x03\x02\x01\x01", built(api.SetOf, 2), alt(1), number(5), alt(0), number(1))
	wantRefused(t, "by what is around", tagged, 0, api.ErrOrder, tree(built(api.SetOf, 2), alt(0), number(1), alt(1), number(5)))
}

// Each SetOf is looked at by itself, and what is left out has no bytes to compare.
func TestEncodeOrderWithin(t *testing.T) {
	sets := []api.Node{plain(api.SetOf, kid(1)), plain(api.SetOf, kid(2)), anInt}
	set := func(count int) api.Value { return built(api.SetOf, count) }
	wantTaken(t, "each by itself", sets, 0, "\x31\x0d\x31\x03\x02\x01\x05\x31\x06\x02\x01\x01\x02\x01\x02", set(2), set(1), number(5), set(2), number(1), number(2))
	wantRefused(t, "the inner one", sets, 0, api.ErrOrder, tree(set(2), set(1), number(5), set(2), number(2), number(1)), tree(set(1), set(2), number(2), number(1)))
	wantRefused(t, "the outer one", sets, 0, api.ErrOrder, tree(set(2), set(2), number(1), number(2), set(1), number(5)))
	seqs := []api.Node{plain(api.SetOf, kid(1)), plain(api.Seq, withDefault(2, "\x02\x01\x05"), optional(3)), anInt, plain(api.SeqOf, kid(0))}
	seq := built(api.Seq, 2)
	wantTaken(t, "a Default comes first", seqs, 0, "\x31\x07\x30\x00\x30\x03\x02\x01\x01", set(2), seq, number(5), absent, seq, number(1), absent)
	wantRefused(t, "a Default comes first", seqs, 0, api.ErrOrder, tree(set(2), seq, number(1), absent, seq, number(5), absent))
	wantRefused(t, "far within", seqs, 0, api.ErrOrder, tree(set(1), seq, number(5), built(api.SeqOf, 1), set(2), seq, number(1), absent, seq, number(5), absent))
	lists := []api.Node{plain(api.Seq, kid(1), kid(1)), plain(api.SetOf, kid(2)), anInt}
	wantTaken(t, "one beside another", lists, 0, "\x30\x0a\x31\x03\x02\x01\x05\x31\x03\x02\x01\x01", built(api.Seq, 2), set(1), number(5), set(1), number(1))
}

func TestEncodeChoice(t *testing.T) {
	schema := []api.Node{
		plain(api.Choice, kid(1), kid(2), kid(3), kid(4)),
		anInt, node(api.Choice, 0, 1, kid(1), kid(5)), node(api.SeqOf, 1, 0, kid(0)), plain(api.Choice, kid(6), kid(7)),
		aBool, aNull, node(api.Any, 2, 1),
	}
	wantTaken(t, "one", schema, 0, "\x02\x01\x05", alt(0), number(5))
	wantTaken(t, "in a Tag", schema, 0, "\xa0\x03\x02\x01\x05", alt(1), alt(0), number(5))
	wantTaken(t, "in a Tag", schema, 0, "\xa0\x03\x01\x01\x00", alt(1), alt(1), leaf(api.Bool, "\x00"))
	wantTaken(t, "in a Choice", schema, 0, "\x05\x00", alt(3), alt(0), leaf(api.Null, ""))
	wantTaken(t, "Any in a Tag", schema, 0, "\xa2\x02\x1e\x00", alt(3), alt(1), leaf(api.Any, "\x1e\x00"))
	wantTaken(t, "in lists", schema, 0, "\xa1\x05\x05\x00\x02\x01\x09", alt(2), built(api.SeqOf, 2), alt(3), alt(0), leaf(api.Null, ""), alt(0), number(9))
	wantNoTree(t, "another kid", schema, 0,
		tree(alt(1), number(5)), tree(alt(0), alt(0), number(5)), tree(alt(0), leaf(api.Null, "")), tree(alt(1), alt(0), leaf(api.Bool, "\x00")),
		tree(number(5)), tree(alt(0)), tree(alt(1), alt(0)), tree(alt(2), built(api.SeqOf, 1), number(5)), tree(alt(0), number(5), number(5)),
	)
	for _, n := range append([]int{4, 5, 8}, extremes...) {
		if n < 0 || n > 3 {
			wantNoTree(t, "no such kid", schema, 0, tree(alt(n), number(5)), tree(alt(n), leaf(api.Null, "")))
		}
	}
	wantNoTree(t, "no such kid of the inner one", schema, 0, tree(alt(3), alt(2), leaf(api.Null, "")), tree(alt(1), alt(-1), number(5)))
}

// The Text of Any is one element, and no more than its head is looked at.
func TestEncodeAny(t *testing.T) {
	schema := []api.Node{anAny, node(api.Any, 5, 1)}
	for first := range 256 {
		for _, content := range []string{"", "\x1f", "\x80\x80", strings.Repeat("\xff", 200)} {
			whole := element(byte(first), content)
			if first&31 == 31 {
				wantNoTree(t, "no head", schema, 0, tree(leaf(api.Any, whole)))
				wantNoTree(t, "no head", schema, 1, tree(leaf(api.Any, whole)))
				continue
			}
			wantTaken(t, "Any", schema, 0, whole, leaf(api.Any, whole))
			wantTaken(t, "Any in a Tag", schema, 1, element(0xa5, whole), leaf(api.Any, whole))
		}
	}
	for _, text := range []string{"", "\x05", "\x05\x01", "\x05\x00\x00", "\x05\x00\x05\x00", "\x05\x80", "\x05\x80\x00\x00", "\x04\x81\x05aaaaa", "\x04\x81", "\x04\x82\x00\x80" + strings.Repeat("a", 128), "\x04\x81\x80" + strings.Repeat("a", 127), "\x04\x81\x80" + strings.Repeat("a", 129), "\x04\x84\x00\x00\x00\x00"} {
		wantNoTree(t, "no element", schema, 0, tree(leaf(api.Any, text)))
		wantNoTree(t, "no element", schema, 1, tree(leaf(api.Any, text)))
	}
}

func TestEncodeHeads(t *testing.T) {
	for tag := range 31 {
		for kind, first := range map[int]byte{api.Seq: 0x30, api.SeqOf: 0x30, api.SetOf: 0x31} {
			schema := []api.Node{node(kind, tag, 0), node(kind, tag, 1)}
			if kind != api.Seq {
				schema = []api.Node{node(kind, tag, 0, kid(0)), node(kind, tag, 1, kid(0))}
			}
			wantTaken(t, "Mode 0", schema, 0, element(0xa0|byte(tag), ""), built(kind, 0))
			wantTaken(t, "Mode 1", schema, 1, element(0xa0|byte(tag), element(first, "")), built(kind, 0))
		}
	}
	schema := []api.Node{plain(api.Octets), node(api.Octets, 1, 0), node(api.Octets, 1, 1), plain(api.Seq, kid(0)), node(api.SetOf, 7, 1, kid(2))}
	for _, length := range []int{0, 1, 119, 120, 121, 123, 124, 125, 126, 127, 128, 129, 247, 248, 249, 250, 251, 252, 253, 254, 255, 256, 257, 3000} {
		text := strings.Repeat("x", length)
		wantTaken(t, "a length", schema, 0, element(4, text), leaf(api.Octets, text))
		wantTaken(t, "a length, Mode 0", schema, 1, element(0x81, text), leaf(api.Octets, text))
		around := element(0xa1, element(4, text))
		wantTaken(t, "a length, Mode 1", schema, 2, around, leaf(api.Octets, text))
		wantTaken(t, "a length in a Seq", schema, 3, element(0x30, element(4, text)), built(api.Seq, 1), leaf(api.Octets, text))
		wantTaken(t, "a length in a SetOf", schema, 4, element(0xa7, element(0x31, around)), built(api.SetOf, 1), leaf(api.Octets, text))
	}
}
