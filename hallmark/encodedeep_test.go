package hallmark_test

import (
	"strings"
	"testing"

	"hallmark/api"
)

func TestEncodeDeepLists(t *testing.T) {
	for kind, first := range map[int]byte{api.SeqOf: 0x30, api.SetOf: 0x31} {
		schema := []api.Node{plain(kind, kid(0))}
		for count := 1; count < 30; count++ {
			values := append(repeat(count-1, built(kind, 1)), built(kind, 0))
			if count <= 12 {
				wantTaken(t, "so many lists", schema, 0, nest(count, first, ""), values...)
			} else {
				wantNoTree(t, "too many lists", schema, 0, values)
			}
		}
	}
	seq := []api.Node{plain(api.Seq, optional(0))}
	wantTaken(t, "a kid that is Absent has no depth", seq, 0, nest(12, 0x30, ""), append(repeat(12, built(api.Seq, 1)), absent)...)
	wantNoTree(t, "13 Seqs", seq, 0, append(repeat(13, built(api.Seq, 1)), absent))
	wide := []api.Node{plain(api.Seq, optional(0), optional(1)), node(api.Seq, 0, 0)}
	values := append(repeat(12, built(api.Seq, 2)), repeat(13, absent)...)
	wantTaken(t, "the second kid", wide, 0, nest(12, 0x30, ""), values...)
	values[len(values)-12] = built(api.Seq, 0)
	wantNoTree(t, "the second kid at depth 13", wide, 0, values)
	values[len(values)-12], values[len(values)-11] = absent, built(api.Seq, 0)
	wantTaken(t, "the second kid at depth 12", wide, 0, nest(11, 0x30, "\x30\x00\xa0\x00"), values...)
}

func TestEncodeDeepContents(t *testing.T) {
	for _, c := range contents {
		text := c.right[0]
		for _, mode := range []int{0, 1} {
			schema := []api.Node{plain(api.Seq, optional(0), optional(1)), node(c.kind, 0, mode)}
			twelve := append(append(repeat(11, built(api.Seq, 2)), absent, leaf(c.kind, text)), repeat(10, absent)...)
			wantTaken(t, "depth 12", schema, 0, nest(11, 0x30, wrapped(schema[1], text)), twelve...)
			wantNoTree(t, "depth 13", schema, 0, append(append(repeat(12, built(api.Seq, 2)), absent, leaf(c.kind, text)), repeat(11, absent)...))
		}
	}
	last := make([]api.Node, 14)
	for i := range last {
		last[i] = plain(api.Seq, kid(min(i+1, 13)))
	}
	last[12], last[13] = plain(api.Choice, kid(13)), anAny
	wantNoTree(t, "Any", last, 0, append(repeat(12, built(api.Seq, 1)), alt(0), leaf(api.Any, "\x05\x00")))
	wantTaken(t, "Any at depth 12", last, 1, nest(11, 0x30, "\x05\x00"), append(repeat(11, built(api.Seq, 1)), alt(0), leaf(api.Any, "\x05\x00"))...)
	last[12] = node(api.Any, 4, 1)
	wantNoTree(t, "Any in a Tag", last, 0, append(repeat(12, built(api.Seq, 1)), leaf(api.Any, "\x05\x00")))
	wantTaken(t, "Any in a Tag at depth 12", last, 1, nest(11, 0x30, "\xa4\x02\x05\x00"), append(repeat(11, built(api.Seq, 1)), leaf(api.Any, "\x05\x00"))...)
}

func TestEncodeDeepDefaults(t *testing.T) {
	schema := []api.Node{plain(api.Seq, withDefault(1, "\x01\x01\x00"), optional(0)), aBool}
	deep := func(last string) []api.Value {
		values := append(tree(), repeat(24, built(api.Seq, 2))...)
		for i := 1; i < len(values); i += 2 {
			values[i] = leaf(api.Bool, "\x00")
		}
		values[23].Text = last
		return append(values, absent)
	}
	wantTaken(t, "a kid that is its Default has no depth", schema, 0, nest(12, 0x30, ""), deep("\x00")...)
	wantNoTree(t, "another has one", schema, 0, deep("\xff"), deep("\x01"), deep(""))
	within := deep("\x00")
	within[21].Text = "\xff"
	wantTaken(t, "another at depth 12", schema, 0, nest(10, 0x30, "\x30\x05\x01\x01\xff\x30\x00"), within...)
}

func TestEncodeDeepChoices(t *testing.T) {
	schema := []api.Node{plain(api.Choice, kid(1)), plain(api.Choice, kid(2)), plain(api.SeqOf, kid(0))}
	for count := 1; count < 20; count++ {
		var values []api.Value
		for i := range count {
			values = append(values, alt(0), alt(0), built(api.SeqOf, min(count-1-i, 1)))
		}
		if count <= 12 {
			wantTaken(t, "a Choice is no step", schema, 0, nest(count, 0x30, ""), values...)
		} else {
			wantNoTree(t, "too many lists", schema, 0, values)
		}
	}
	self := []api.Node{node(api.Choice, 0, 1, kid(0), kid(1)), aNull}
	many := append(append(repeat(299, alt(0)), alt(1)), leaf(api.Null, ""))
	wantTaken(t, "Choices with a Tag are none either", self, 0, nest(300, 0xa0, "\x05\x00"), many...)
	for count := 1000; count < 1100; count++ {
		many := append(append(repeat(count-1, alt(0)), alt(1)), leaf(api.Null, ""))
		if data := nest(count, 0xa0, "\x05\x00"); len(data) <= 4000 {
			wantTaken(t, "as many as there may be", self, 0, data, many...)
		} else {
			wantRefused(t, "more", self, 0, api.ErrLong, many)
		}
	}
	wantNoTree(t, "Choices without an end", self, 0, repeat(300, alt(0)), append(repeat(300, alt(0)), leaf(api.Null, "")))
}

func TestEncodeLong(t *testing.T) {
	schema := []api.Node{plain(api.Octets), node(api.Octets, 0, 1), plain(api.SeqOf, kid(0)), anAny, plain(api.Seq, kid(0), kid(0))}
	x := func(n int) api.Value { return leaf(api.Octets, strings.Repeat("x", n)) }
	whole := func(n int) api.Value { return leaf(api.Any, element(4, strings.Repeat("x", n))) }
	for _, c := range []struct {
		root  int
		most  int // of the last value
		value func(int) []api.Value
	}{
		{0, 3996, func(n int) []api.Value { return tree(x(n)) }},
		{1, 3992, func(n int) []api.Value { return tree(x(n)) }},
		{2, 3992, func(n int) []api.Value { return tree(built(api.SeqOf, 1), x(n)) }},
		{2, 1988, func(n int) []api.Value { return tree(built(api.SeqOf, 2), x(2000), x(n)) }},
		{3, 3996, func(n int) []api.Value { return tree(whole(n)) }},
		{4, 1988, func(n int) []api.Value { return tree(built(api.Seq, 2), x(n), x(2000)) }},
	} {
		bytes, _ := told(schema, c.root, c.value(c.most))
		if len(bytes) != 4000 {
			t.Fatalf("the test tells %d bytes", len(bytes))
		}
		wantTaken(t, "4000 bytes", schema, c.root, bytes, c.value(c.most)...)
		for _, more := range []int{1, 2, 3, 4, 5, 100, 100000, 16777215 - c.most} {
			wantRefused(t, "more", schema, c.root, api.ErrLong, c.value(c.most+more))
		}
	}
	for _, n := range []int{16777216, 1 << 25} {
		wantRefused(t, "more than a head can tell", schema, 0, api.ErrLong, tree(x(n)))
		wantRefused(t, "more than a head can tell", schema, 1, api.ErrLong, tree(x(n)))
	}
	wantNoTree(t, "no element is so long", schema, 3, tree(leaf(api.Any, "\x04\x83\xff\xff\xff"+strings.Repeat("x", 16777216))))
	for count, e := range map[int]api.Errno{1998: api.OK, 1999: api.ErrLong, 5000: api.ErrLong} {
		values := append(tree(built(api.SeqOf, count)), repeat(count, x(0))...)
		if e != api.OK {
			wantRefused(t, "many", schema, 2, e, values)
		} else {
			wantTaken(t, "many", schema, 2, element(0x30, strings.Repeat("\x04\x00", count)), values...)
		}
	}
}

// What is left out has no bytes, however long it is.
func TestEncodeLongDefaults(t *testing.T) {
	long := strings.Repeat("\x00", api.MaxLength)
	for _, n := range []api.Node{plain(api.Octets), node(api.Octets, 9, 0)} {
		schema := defaults(n, wrapped(n, long))
		wantTaken(t, "a long Default", schema, 0, "\x30\x00", built(api.Seq, 1), leaf(api.Octets, long))
		wantRefused(t, "shorter by a byte", schema, 0, api.ErrLong, tree(built(api.Seq, 1), leaf(api.Octets, long[1:])))
		wantRefused(t, "the last byte is another", schema, 0, api.ErrLong, tree(built(api.Seq, 1), leaf(api.Octets, long[1:]+"\x01")))
	}
}

// What is no tree is told ahead of too many bytes, and these ahead of the order.
func TestEncodeFirstFault(t *testing.T) {
	schema := []api.Node{plain(api.Seq, kid(1), kid(2), optional(3)), plain(api.SetOf, kid(4)), plain(api.Octets), aBool, anInt}
	seq, set, short, long := built(api.Seq, 3), built(api.SetOf, 2), leaf(api.Octets, ""), leaf(api.Octets, strings.Repeat("x", 5000))
	wantTaken(t, "none", schema, 0, "\x30\x0a\x31\x06\x02\x01\x01\x02\x01\x02\x04\x00", seq, set, number(1), number(2), short, absent)
	wantRefused(t, "the order alone", schema, 0, api.ErrOrder, tree(seq, set, number(2), number(1), short, absent))
	wantRefused(t, "too long and out of order", schema, 0, api.ErrLong, tree(seq, set, number(2), number(1), long, absent), tree(seq, set, number(1), number(2), long, absent))
	wantNoTree(t, "no tree, too long and out of order", schema, 0,
		tree(seq, set, number(2), number(1), short, leaf(api.Bool, "\x01")),
		tree(seq, set, number(2), number(1), short),
		tree(seq, set, number(2), number(1), short, absent, absent),
		tree(seq, set, number(2), number(1), long, leaf(api.Bool, "\x01")),
		tree(seq, set, number(1), number(2), long),
		tree(seq, set, number(1), number(2), long, absent, absent),
		tree(seq, set, number(2), leaf(api.Int, "\x00\x01"), short, absent),
	)
	behind := []api.Node{plain(api.Seq, kid(1), kid(2)), plain(api.Octets), plain(api.SetOf, kid(3)), anInt}
	wantRefused(t, "too long ahead of what is out of order", behind, 0, api.ErrLong, tree(built(api.Seq, 2), long, set, number(2), number(1)))
	wantRefused(t, "too long by what is out of order", []api.Node{plain(api.SetOf, kid(1)), plain(api.Octets)}, 0, api.ErrLong, tree(set, leaf(api.Octets, strings.Repeat("x", 3991)), short))
	wantRefused(t, "just not too long", []api.Node{plain(api.SetOf, kid(1)), plain(api.Octets)}, 0, api.ErrOrder, tree(set, leaf(api.Octets, strings.Repeat("x", 3990)), short))
}
