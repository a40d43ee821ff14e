package hallmark_test

import (
	"fmt"
	"strings"
	"testing"

	"hallmark/api"
	"hallmark/hallmark"
)

func node(kind, tag, mode int, kids ...api.Kid) api.Node {
	return api.Node{Kind: kind, Tag: tag, Mode: mode, Kids: kids}
}

func plain(kind int, kids ...api.Kid) api.Node { return node(kind, -1, 0, kids...) }

func kid(n int) api.Kid { return api.Kid{Node: n} }

func optional(n int) api.Kid { return api.Kid{Node: n, Optional: true} }

func withDefault(n int, bytes string) api.Kid { return api.Kid{Node: n, Default: bytes} }

// times is the same kid so many times.
func times(count int, k api.Kid) []api.Kid {
	kids := make([]api.Kid, count)
	for i := range kids {
		kids[i] = k
	}
	return kids
}

type checked struct {
	what   string
	schema []api.Node
}

func wantAll(t *testing.T, want api.Errno, cases []checked) {
	t.Helper()
	for _, c := range cases {
		if e := hallmark.Check(c.schema); e != want {
			t.Errorf("P4: %s: Check(%.500s) = %d, want %d", c.what, fmt.Sprintf("%#v", c.schema), e, want)
		}
	}
}

var (
	anInt, aBool, aNull, anAny = plain(api.Int), plain(api.Bool), plain(api.Null), plain(api.Any)
)

func TestCheckSize(t *testing.T) {
	most := make([]api.Node, 40)
	for i := range most {
		most[i] = anInt
	}
	wantAll(t, api.OK, []checked{{"one node", most[:1]}, {"40 nodes", most}})
	wantAll(t, api.ErrSchema, []checked{{"nil", nil}, {"no nodes", []api.Node{}}, {"41 nodes", append(most, anInt)}, {"very many nodes", make([]api.Node, 1000000)}})
}

// Each kind with each number of kids.
func TestCheckKindsAndTheirKids(t *testing.T) {
	for _, kind := range []int{-1 << 63, -1, 0, api.Absent, 16, 256 + api.Int, 1 << 32, 1<<63 - 1} {
		wantAll(t, api.ErrSchema, []checked{{"no kind", []api.Node{plain(kind)}}, {"no kind, behind", []api.Node{anInt, plain(kind)}}})
	}
	for kind := api.Bool; kind <= api.Any; kind++ {
		for count := 0; count <= 20; count++ {
			kids := times(count, kid(1))
			if kind == api.Choice {
				for i := range kids {
					kids[i].Node = i + 1
				}
			}
			schema := []api.Node{plain(kind, kids...)}
			for tag := range 20 {
				schema = append(schema, node(api.Int, tag, 0))
			}
			least, most := 0, 0
			switch kind {
			case api.Seq:
				most = 8
			case api.SeqOf, api.SetOf:
				least, most = 1, 1
			case api.Choice:
				least, most = 1, 8
			}
			want := api.ErrSchema
			if least <= count && count <= most {
				want = api.OK
			}
			if e := hallmark.Check(schema); e != want {
				t.Errorf("P4: kind %d with %d kids: %d, want %d", kind, count, e, want)
			}
		}
	}
}

func TestCheckTagsAndModes(t *testing.T) {
	far := []int{-1 << 63, -1 << 32, -256, -3, -2, -1, 0, 1, 2, 3, 15, 29, 30, 31, 32, 256, 1 << 32, 1<<63 - 1}
	for kind := api.Bool; kind <= api.Any; kind++ {
		var kids []api.Kid
		if kind == api.SeqOf || kind == api.SetOf || kind == api.Choice {
			kids = times(1, kid(1))
		}
		open := kind == api.Choice || kind == api.Any
		for _, tag := range far {
			for _, mode := range far {
				right := tag == -1 && mode == 0 || 0 <= tag && tag <= 30 && (mode == 1 || mode == 0 && !open)
				want := api.ErrSchema
				if right {
					want = api.OK
				}
				schema := []api.Node{node(kind, tag, mode, kids...), anInt}
				if e := hallmark.Check(schema); e != want {
					t.Errorf("P4: kind %d, Tag %d, Mode %d: %d, want %d", kind, tag, mode, e, want)
				}
			}
		}
	}
}

func TestCheckWhatKidsName(t *testing.T) {
	for _, kind := range []int{api.Seq, api.SeqOf, api.SetOf, api.Choice} {
		for _, n := range []int{-1 << 63, -1, 3, 4, 39, 40, 41, 1 << 32, 1<<63 - 1} {
			wantAll(t, api.ErrSchema, []checked{{"a kid that names no node", []api.Node{anInt, plain(kind, kid(n)), anInt}}})
		}
		for _, n := range []int{0, 2} {
			wantAll(t, api.OK, []checked{{"a kid that names a node", []api.Node{anInt, plain(kind, kid(n)), anInt}}})
		}
	}
	wantAll(t, api.ErrSchema, []checked{
		{"the last kid names no node", []api.Node{plain(api.Seq, kid(1), kid(2)), anInt}},
		{"an Optional kid names no node", []api.Node{plain(api.Seq, optional(2)), anInt}},
		{"a kid with a Default names no node", []api.Node{plain(api.Seq, withDefault(2, "\x02\x01\x00")), anInt}},
	})
}

func TestCheckWhoMayLack(t *testing.T) {
	both := api.Kid{Node: 1, Optional: true, Default: "\x02\x01\x05"}
	wantAll(t, api.OK, []checked{
		{"Seq, Optional", []api.Node{plain(api.Seq, optional(1)), anInt}},
		{"Seq, Default", []api.Node{plain(api.Seq, withDefault(1, "\x02\x01\x05")), anInt}},
	})
	wantAll(t, api.ErrSchema, []checked{{"Seq, both", []api.Node{plain(api.Seq, both), anInt}}})
	for _, kind := range []int{api.SeqOf, api.SetOf, api.Choice} {
		wantAll(t, api.ErrSchema, []checked{
			{"Optional", []api.Node{plain(kind, optional(1)), anInt}},
			{"Default", []api.Node{plain(kind, withDefault(1, "\x02\x01\x05")), anInt}},
			{"both", []api.Node{plain(kind, both), anInt}},
		})
	}
	wantAll(t, api.ErrSchema, []checked{{"an Optional kid of a Choice, not the first", []api.Node{plain(api.Choice, kid(1), optional(2)), anInt, aBool}}})
}

func TestCheckNodesMayComeBack(t *testing.T) {
	wantAll(t, api.OK, []checked{
		{"Seq of itself", []api.Node{plain(api.Seq, kid(0))}},
		{"Seq of itself, Optional", []api.Node{plain(api.Seq, optional(0))}},
		{"SeqOf of itself", []api.Node{plain(api.SeqOf, kid(0))}},
		{"SetOf of itself", []api.Node{plain(api.SetOf, kid(0))}},
		{"Choice with a Tag of itself", []api.Node{node(api.Choice, 0, 1, kid(0))}},
		{"two Choices, one with a Tag", []api.Node{plain(api.Choice, kid(1)), node(api.Choice, 0, 1, kid(0))}},
		{"a Choice by a Seq", []api.Node{plain(api.Choice, kid(1), kid(2)), anInt, plain(api.Seq, kid(0))}},
		{"a Choice by a SeqOf", []api.Node{plain(api.Choice, kid(1), kid(2)), anInt, plain(api.SeqOf, kid(0))}},
		{"a Choice by a SetOf", []api.Node{plain(api.Choice, kid(1), kid(2)), anInt, plain(api.SetOf, kid(0))}},
		{"a Choice by a Choice with a Tag", []api.Node{plain(api.Choice, kid(1), kid(2)), anInt, node(api.Choice, 3, 1, kid(0))}},
	})
}

func TestCheckChoicesThatComeBack(t *testing.T) {
	round := make([]api.Node, 40)
	for i := range round {
		round[i] = plain(api.Choice, kid((i+1)%40))
	}
	wantAll(t, api.ErrSchema, []checked{
		{"itself", []api.Node{plain(api.Choice, kid(0))}},
		{"itself, beside another kid", []api.Node{plain(api.Choice, kid(1), kid(0)), anInt}},
		{"two", []api.Node{plain(api.Choice, kid(1)), plain(api.Choice, kid(0))}},
		{"two that nobody names", []api.Node{anInt, plain(api.Choice, kid(0), kid(2)), plain(api.Choice, kid(1))}},
		{"three, from outside", []api.Node{plain(api.Choice, kid(1)), plain(api.Choice, kid(2)), plain(api.Choice, kid(3)), plain(api.Choice, kid(1))}},
		{"all 40", round},
		{"as a kid of a Seq", []api.Node{plain(api.Seq, optional(1), kid(2)), plain(api.Choice, kid(1)), anInt}},
		{"as a kid of a Choice with a Tag", []api.Node{node(api.Choice, 1, 1, kid(1)), plain(api.Choice, kid(1))}},
		{"with all that there are beside it", []api.Node{plain(api.Choice, kid(0), kid(1)), anAny}},
	})
	broken := append([]api.Node(nil), round...)
	broken[20] = anInt
	wantAll(t, api.OK, []checked{{"39 and an end", broken}})
	broken = append([]api.Node(nil), round...)
	broken[20] = node(api.Choice, 7, 1, kid(21))
	wantAll(t, api.OK, []checked{{"40, one with a Tag", broken}})
}

func TestCheckKidsOfAChoice(t *testing.T) {
	wantAll(t, api.OK, []checked{
		{"another number", []api.Node{plain(api.Choice, kid(1), kid(2)), anInt, aBool}},
		{"another class", []api.Node{plain(api.Choice, kid(1), kid(2)), anInt, node(api.Bool, 2, 0)}},
		{"other Tags", []api.Node{plain(api.Choice, kid(1), kid(2)), node(api.Int, 1, 0), node(api.Int, 2, 1)}},
		{"Seq and SetOf", []api.Node{plain(api.Choice, kid(1), kid(2)), plain(api.Seq), plain(api.SetOf, kid(1))}},
		{"Any alone", []api.Node{plain(api.Choice, kid(1)), anAny}},
		{"Any with a Tag", []api.Node{plain(api.Choice, kid(1), kid(2)), anInt, node(api.Any, 2, 1)}},
		{"what the Tag is around", []api.Node{plain(api.Choice, kid(1), kid(2)), anInt, node(api.Int, 4, 1)}},
		{"a Choice with a Tag around the same", []api.Node{plain(api.Choice, kid(1), kid(2)), anInt, node(api.Choice, 4, 1, kid(1))}},
	})
	wantAll(t, api.ErrSchema, []checked{
		{"the same node twice", []api.Node{plain(api.Choice, kid(1), kid(1)), anInt}},
		{"the same kind twice", []api.Node{plain(api.Choice, kid(1), kid(2)), anInt, anInt}},
		{"not next to each other", []api.Node{plain(api.Choice, kid(1), kid(2), kid(3)), anInt, aBool, anInt}},
		{"the last two", []api.Node{plain(api.Choice, kid(2), kid(1), kid(1)), anInt, aBool}},
		{"the same Tag of other kinds", []api.Node{plain(api.Choice, kid(1), kid(2)), node(api.Int, 5, 0), node(api.Bool, 5, 0)}},
		{"the same Tag, one built and one not", []api.Node{plain(api.Choice, kid(1), kid(2)), node(api.Int, 5, 0), node(api.Int, 5, 1)}},
		{"Seq and SeqOf", []api.Node{plain(api.Choice, kid(1), kid(2)), plain(api.Seq), plain(api.SeqOf, kid(1))}},
		{"Any behind", []api.Node{plain(api.Choice, kid(1), kid(2)), anInt, anAny}},
		{"Any ahead", []api.Node{plain(api.Choice, kid(1), kid(2)), anAny, anInt}},
		{"Any twice", []api.Node{plain(api.Choice, kid(1), kid(1)), anAny}},
		{"Any and Any with a Tag", []api.Node{plain(api.Choice, kid(1), kid(2)), anAny, node(api.Any, 1, 1)}},
		{"in a Choice with a Tag", []api.Node{node(api.Choice, 0, 1, kid(1), kid(1)), anInt}},
		{"in a Choice that nobody names", []api.Node{anInt, plain(api.Choice, kid(0), kid(0))}},
	})
}

func TestCheckChoicesWithinChoices(t *testing.T) {
	within := func(inner ...api.Kid) []api.Node {
		return []api.Node{plain(api.Choice, kid(1), kid(2)), anInt, plain(api.Choice, kid(3)), plain(api.Choice, inner...), aBool, aNull, anAny, node(api.Choice, 9, 1, kid(1)), anInt}
	}
	wantAll(t, api.OK, []checked{
		{"others", within(kid(4), kid(5))},
		{"the same behind a Tag", within(kid(4), kid(7))},
	})
	wantAll(t, api.ErrSchema, []checked{
		{"the same node", within(kid(1))},
		{"the same kind", within(kid(8))},
		{"the last one is the same", within(kid(4), kid(5), kid(8))},
		{"all that there are", within(kid(6))},
		{"two Choices with one in common", []api.Node{plain(api.Choice, kid(1), kid(2)), plain(api.Choice, kid(3), kid(4)), plain(api.Choice, kid(5), kid(3)), anInt, aBool, aNull}},
		{"a Choice twice", []api.Node{plain(api.Choice, kid(1), kid(1)), plain(api.Choice, kid(2)), anInt}},
	})
	wantAll(t, api.OK, []checked{
		{"two Choices with nothing in common", []api.Node{plain(api.Choice, kid(1), kid(2)), plain(api.Choice, kid(3), kid(4)), plain(api.Choice, kid(5)), anInt, aBool, aNull}},
	})
}

// The own tags of the kinds, by what may stand beside what in a Choice, and by the Defaults below.
func TestCheckOwnTagsInAChoice(t *testing.T) {
	for one := api.Bool; one <= api.SetOf; one++ {
		for other := api.Bool; other <= api.SetOf; other++ {
			nodes := []api.Node{plain(api.Choice, kid(1), kid(2)), plain(one), plain(other), anInt}
			for i := range nodes {
				if nodes[i].Kind == api.SeqOf || nodes[i].Kind == api.SetOf {
					nodes[i].Kids = times(1, kid(3))
				}
			}
			want := api.OK
			if one == other || one+other == api.Seq+api.SeqOf && max(one, other) == api.SeqOf {
				want = api.ErrSchema
			}
			if e := hallmark.Check(nodes); e != want {
				t.Errorf("P4: a Choice of the kinds %d and %d: %d, want %d", one, other, e, want)
			}
		}
	}
}

func TestCheckKidsOfASeq(t *testing.T) {
	of := func(kids ...api.Kid) []api.Node {
		return []api.Node{plain(api.Seq, kids...), anInt, aBool, anAny, plain(api.Choice, kid(1), kid(5)), aNull, node(api.Int, 0, 0), node(api.Any, 1, 1), node(api.Bool, 0, 1)}
	}
	const one, yes = "\x02\x01\x01", "\x01\x01\xff"
	wantAll(t, api.OK, []checked{
		{"the same, none may lack", of(kid(1), kid(1), kid(3), kid(3))},
		{"another behind", of(optional(1), kid(2))},
		{"the same behind one that may not lack", of(optional(1), kid(2), kid(1))},
		{"the same behind two, one of which may not lack", of(optional(1), optional(5), kid(2), optional(1))},
		{"the same ahead", of(kid(1), optional(1))},
		{"all that there are, at the end", of(kid(1), optional(3))},
		{"all that there are, behind one that may not lack", of(optional(1), kid(2), kid(3))},
		{"other Tags", of(optional(1), optional(6), optional(7))},
		{"each once", of(optional(1), withDefault(2, yes), optional(5), optional(6), optional(7))},
		{"a Default and another behind", of(withDefault(1, one), kid(2))},
		{"a Choice and another behind", of(optional(4), kid(2))},
		{"twice, each ahead of one that may not lack", of(optional(1), kid(2), optional(1), kid(2))},
	})
	wantAll(t, api.ErrSchema, []checked{
		{"the same behind", of(optional(1), kid(1))},
		{"the same behind, Optional", of(optional(1), optional(1))},
		{"the same behind, with a Default", of(optional(1), withDefault(1, one))},
		{"the same behind a Default", of(withDefault(1, one), kid(1))},
		{"Defaults of one beginning", of(withDefault(1, one), withDefault(1, "\x02\x01\x02"))},
		{"behind one that may lack", of(optional(1), optional(2), kid(1))},
		{"behind one with a Default", of(optional(1), withDefault(2, yes), kid(1))},
		{"behind many that may lack", of(optional(1), optional(2), optional(5), optional(6), optional(7), optional(1))},
		{"not the first", of(kid(2), optional(1), kid(1))},
		{"the second that may lack", of(optional(1), optional(2), kid(2))},
		{"all that there are, ahead", of(optional(3), kid(1))},
		{"all that there are, behind", of(optional(1), kid(3))},
		{"all that there are, behind a Default", of(withDefault(1, one), optional(3))},
		{"a Choice ahead", of(optional(4), kid(5))},
		{"a Choice behind", of(optional(1), kid(4))},
		{"the same Tag", of(optional(6), kid(8))},
		{"in a Seq with a Tag", []api.Node{node(api.Seq, 3, 1, optional(1), kid(1)), anInt}},
		{"in a Seq that nobody names", []api.Node{anInt, plain(api.Seq, optional(0), kid(0))}},
	})
}

// The contents that each of the kinds 1 to 9 may have, and may not have, as Defaults.
var contents = []struct {
	kind         int
	number       byte
	right, wrong []string
}{
	{api.Bool, 1, []string{"\x00", "\xff"}, []string{"", "\x01", "\xfe", "\x80", "\x00\x00", "\xff\xff"}},
	{api.Int, 2, []string{"\x00", "\x7f", "\x80", "\xff", "\x00\x80", "\x00\xff", "\xff\x7f", "\xff\x00", "\x01\x00", strings.Repeat("\x7f", 20), "\x00" + strings.Repeat("\xff", 19)}, []string{"", "\x00\x00", "\x00\x7f", "\xff\x80", "\xff\xff", "\x00\x05", strings.Repeat("\x7f", 21), strings.Repeat("\x7f", 100000)}},
	{api.Null, 5, []string{""}, []string{"\x00", "\x05\x00"}},
	{api.Oid, 6, []string{"\x00", "\x55\x1d\x13", "\x81\x00", "\x2a\x81\x80\x00", strings.Repeat("\x01", 20), strings.Repeat("\xff", 19) + "\x00"}, []string{"", "\x80", "\x80\x01", "\x81", "\x55\x80\x01", "\x55\x1d\x93", strings.Repeat("\x01", 21), strings.Repeat("\xff", 20) + "\x00"}},
	{api.Bits, 3, []string{"\x00", "\x00\x00", "\x00\x01", "\x01\x02", "\x07\x80", "\x07\x00", "\x03\xff\xf8"}, []string{"", "\x01", "\x07", "\x08", "\x08\x00", "\x01\x01", "\x07\x40", "\x03\xf8\xff", "\xff\x00"}},
	{api.Octets, 4, []string{"", "\x00", "\xff\x80", strings.Repeat("\x00", 127), strings.Repeat("\x00", 128), strings.Repeat("\xff", 70000)}, nil},
	{api.Utf8, 12, []string{"", "A", "\x00", "\u00e9", "\u20ac\U0001f600", strings.Repeat("\u20ac", 1000)}, []string{"\x80", "\xff", "\xc0\x80", "\xc3", "\xed\xa0\x80", "\xf4\x90\x80\x80", strings.Repeat("a", 1000) + "\xe2"}},
	{api.Printable, 19, []string{"", "AZ az 09", "'()+,-./:=?", strings.Repeat("z", 300)}, []string{"@", "a*", "_", "a;", "\x00", "\x7f", "\u00e9", "!", "&", "\"", "[", "`", "{", strings.Repeat("z", 300) + "#"}},
	{api.Time, 24, []string{"20261116235959Z", "00000101000000Z", "99991231235959Z", "20240229000000Z", "20000229000000Z", "00000229000000Z", "20260430120000Z"}, []string{"", "20261116235959", "20261116235959z", "202611162359590", "20261116235959ZZ", "20260001000000Z", "20261301000000Z", "20260100000000Z", "20260132000000Z", "20260431000000Z", "20260229000000Z", "19000229000000Z", "21000229000000Z", "20240230000000Z", "20261116240000Z", "20261116006000Z", "20261116000060Z", "2026111 000000Z", "261116235959Z", "20261116235959.0Z"}},
}

// element is the bytes of an element; only for contents of at most 16777215 bytes.
func element(first byte, content string) string {
	n := len(content)
	switch {
	case n < 128:
		return string([]byte{first, byte(n)}) + content
	case n < 256:
		return string([]byte{first, 0x81, byte(n)}) + content
	case n < 65536:
		return string([]byte{first, 0x82, byte(n >> 8), byte(n)}) + content
	}
	return string([]byte{first, 0x83, byte(n >> 16), byte(n >> 8), byte(n)}) + content
}

// defaults is a schema of a Seq whose one kid is of this node and has this Default.
func defaults(n api.Node, bytes string) []api.Node {
	return []api.Node{plain(api.Seq, withDefault(1, bytes)), n}
}

func TestCheckDefaultContents(t *testing.T) {
	for _, c := range contents {
		for want, texts := range map[api.Errno][]string{api.OK: c.right, api.ErrSchema: c.wrong} {
			for _, text := range texts {
				wantAll(t, want, []checked{
					{"without a Tag", defaults(plain(c.kind), element(c.number, text))},
					{"Mode 0", defaults(node(c.kind, 30, 0), element(0x9e, text))},
					{"Mode 1", defaults(node(c.kind, 0, 1), element(0xa0, element(c.number, text)))},
				})
			}
		}
	}
}

// What is wrong with a Default though its content may be.
func TestCheckDefaultElements(t *testing.T) {
	for _, c := range contents {
		text := c.right[len(c.right)-1]
		own := element(c.number, text)
		without, instead, around := plain(c.kind), node(c.kind, 3, 0), node(c.kind, 3, 1)
		wantAll(t, api.ErrSchema, []checked{
			{"another number", defaults(without, element(c.number^1, text))},
			{"another class", defaults(without, element(c.number|0x40, text))},
			{"built", defaults(without, element(c.number|0x20, text))},
			{"a byte behind", defaults(without, own+"\x00")},
			{"twice", defaults(without, own+own)},
			{"the last byte is missing", defaults(without, own[:len(own)-1])},
			{"a head alone that ends", defaults(without, own[:1])},
			{"no head", defaults(without, "\x1f\x00")},
			{"the content alone", defaults(without, "\x7f"+text)},
			{"a Tag that it has not", defaults(without, element(0x83, text))},
			{"an element around", defaults(without, element(0xa3, own))},
			{"Mode 0: no Tag", defaults(instead, own)},
			{"Mode 0: another Tag", defaults(instead, element(0x84, text))},
			{"Mode 0: built", defaults(instead, element(0xa3, text))},
			{"Mode 0: another class", defaults(instead, element(0xc3, text))},
			{"Mode 0: an element around", defaults(instead, element(0xa3, own))},
			{"Mode 0: a byte behind", defaults(instead, element(0x83, text)+"\x00")},
			{"Mode 1: no Tag", defaults(around, own)},
			{"Mode 1: the Tag instead", defaults(around, element(0xa3, text))},
			{"Mode 1: another Tag", defaults(around, element(0xa4, own))},
			{"Mode 1: not built", defaults(around, element(0x83, own))},
			{"Mode 1: nothing within", defaults(around, "\xa3\x00")},
			{"Mode 1: another within", defaults(around, element(0xa3, element(c.number^1, text)))},
			{"Mode 1: built within", defaults(around, element(0xa3, element(c.number|0x20, text)))},
			{"Mode 1: too much within", defaults(around, element(0xa3, own+"\x05\x00"))},
			{"Mode 1: too little within", defaults(around, element(0xa3, own[:len(own)-1]))},
			{"Mode 1: the inner one ends behind the outer", defaults(around, element(0xa3, own[:len(own)-1])+own[len(own)-1:])},
			{"Mode 1: a byte behind", defaults(around, element(0xa3, own)+"\x00")},
		})
	}
	wantAll(t, api.ErrSchema, []checked{
		{"a length that can be told shorter", defaults(anInt, "\x02\x81\x01\x05")},
		{"an inner length that can be told shorter", defaults(node(api.Int, 0, 1), "\xa0\x04\x02\x81\x01\x05")},
		{"a length without an end", defaults(anInt, "\x02\x80\x05\x00\x00")},
	})
}

// A Default that is wrong at any of the kids, of any of the nodes.
func TestCheckDefaultAnywhere(t *testing.T) {
	wantAll(t, api.ErrSchema, []checked{
		{"the second kid", []api.Node{plain(api.Seq, withDefault(1, "\x02\x01\x05"), withDefault(2, "\x01\x01\x05")), anInt, aBool}},
		{"the third node", []api.Node{anInt, aBool, plain(api.Seq, withDefault(1, "\x01\x01\x05"))}},
	})
}

func TestCheckDefaultsOfOtherKinds(t *testing.T) {
	wantAll(t, api.ErrSchema, []checked{
		{"Seq", defaults(plain(api.Seq), "\x30\x00")},
		{"Seq with a Tag", defaults(node(api.Seq, 0, 0), "\xa0\x00")},
		{"SeqOf", defaults(plain(api.SeqOf, kid(1)), "\x30\x00")},
		{"SetOf", defaults(plain(api.SetOf, kid(1)), "\x31\x00")},
		{"Choice", []api.Node{plain(api.Seq, withDefault(1, "\x02\x01\x05")), plain(api.Choice, kid(2)), anInt}},
		{"Choice with a Tag", []api.Node{plain(api.Seq, withDefault(1, "\xa0\x03\x02\x01\x05")), node(api.Choice, 0, 1, kid(2)), anInt}},
		{"Any", defaults(anAny, "\x02\x01\x05")},
		{"Any with a Tag", defaults(node(api.Any, 0, 1), "\xa0\x03\x02\x01\x05")},
	})
}
