package hallmark_test

import (
	"fmt"
	"reflect"
	"strings"
	"testing"

	"hallmark/api"
	"hallmark/hallmark"
)

func leaf(kind int, text string) api.Value { return api.Value{Kind: kind, Text: text} }

func built(kind, kids int) api.Value { return api.Value{Kind: kind, Kids: kids} }

func alt(n int) api.Value { return api.Value{Kind: api.Choice, Alt: n, Kids: 1} }

func number(n byte) api.Value { return leaf(api.Int, string([]byte{n})) }

func tree(values ...api.Value) []api.Value { return values }

var absent = api.Value{Kind: api.Absent}

// brief is the front of a tree, as a test that fails shows it.
func brief(values []api.Value) string {
	text := fmt.Sprintf("%d values:", len(values))
	for _, v := range values[:min(len(values), 20)] {
		text += fmt.Sprintf(" {%d %.40x %d %d}", v.Kind, v.Text, v.Alt, v.Kids)
	}
	return text
}

// decoded is a row of bytes and what Decode must answer: a tree, or a place and an error.
type decoded struct {
	data  string
	tree  []api.Value
	place int
	e     api.Errno
}

// takes is the answer to bytes that are taken.
func takes(data string, values ...api.Value) decoded { return decoded{data: data, tree: values} }

// refuses is the answer to bytes that are not.
func refuses(data string, place int, e api.Errno) decoded {
	return decoded{data: data, place: place, e: e}
}

func wantDecoded(t *testing.T, what string, schema []api.Node, root int, cases ...decoded) {
	t.Helper()
	for _, c := range cases {
		got, place, e := hallmark.Decode(schema, root, c.data)
		if e != c.e || place != c.place || !reflect.DeepEqual(append(tree(), got...), append(tree(), c.tree...)) {
			t.Errorf("P5: %s: Decode(%.80x) = %s, %d, %d, want %s, %d, %d", what, c.data, brief(got), place, e, brief(c.tree), c.place, c.e)
		}
	}
}

func TestDecodeExamples(t *testing.T) {
	wantDecoded(t, "example 2", []api.Node{anInt}, 0,
		takes("\x02\x01\x05", number(5)),
		refuses("\x02\x02\x00\x05", 0, api.ErrValue),
		refuses("\x02\x01\x05\x00", 3, api.ErrMore),
		refuses("\x04\x01\x05", 0, api.ErrTag),
		refuses("\x02\x02\x05", 0, api.ErrEnd),
	)
	wantDecoded(t, "example 3", []api.Node{plain(api.Seq, withDefault(1, "\x01\x01\x00"), optional(2)), aBool, anInt}, 0,
		takes("\x30\x00", built(api.Seq, 2), leaf(api.Bool, "\x00"), absent),
		refuses("\x30\x03\x01\x01\x00", 2, api.ErrDefault),
		takes("\x30\x03\x02\x01\x07", built(api.Seq, 2), leaf(api.Bool, "\x00"), number(7)),
		refuses("\x30\x06\x02\x01\x07\x01\x01\xff", 5, api.ErrMore),
	)
	wantDecoded(t, "example 4", []api.Node{plain(api.SetOf, kid(1)), anInt}, 0,
		refuses("\x31\x06\x02\x01\x02\x02\x01\x01", 5, api.ErrOrder),
	)
}

// Contents of each of the kinds 1 to 9, without a Tag and with one of either Mode.
func TestDecodeContents(t *testing.T) {
	for _, c := range contents {
		without, instead, around := []api.Node{plain(c.kind)}, []api.Node{node(c.kind, 30, 0)}, []api.Node{node(c.kind, 0, 1)}
		for _, text := range c.right {
			if len(text) > 3000 {
				continue
			}
			v := leaf(c.kind, text)
			wantDecoded(t, "without a Tag", without, 0, takes(element(c.number, text), v), refuses(element(c.number|0x20, text), 0, api.ErrTag))
			wantDecoded(t, "Mode 0", instead, 0, takes(element(0x9e, text), v), refuses(element(0xbe, text), 0, api.ErrTag), refuses(element(c.number, text), 0, api.ErrTag))
			wantDecoded(t, "Mode 1", around, 0, takes(element(0xa0, element(c.number, text)), v))
		}
		for _, text := range c.wrong {
			if len(text) > 3000 {
				continue
			}
			within := element(0xa0, element(c.number, text))
			wantDecoded(t, "without a Tag", without, 0, refuses(element(c.number, text), 0, api.ErrValue))
			wantDecoded(t, "Mode 0", instead, 0, refuses(element(0x9e, text), 0, api.ErrValue))
			wantDecoded(t, "Mode 1", around, 0, refuses(within, len(within)-len(element(c.number, text)), api.ErrValue))
		}
	}
}

func TestDecodeSchemaAndRoot(t *testing.T) {
	long := strings.Repeat("\x00", 4001)
	for _, root := range extremes {
		if root == 0 || root == 1 {
			continue
		}
		wantDecoded(t, "no such root", []api.Node{anInt, aBool}, root, refuses("\x02\x01\x05", 0, api.ErrSchema), refuses("", 0, api.ErrSchema), refuses(long, 0, api.ErrSchema))
	}
	wantDecoded(t, "the second node", []api.Node{anInt, aBool}, 1, takes("\x01\x01\xff", leaf(api.Bool, "\xff")), refuses("\x02\x01\x05", 0, api.ErrTag))
	for _, schema := range [][]api.Node{nil, {}, {anInt, plain(99)}, {anInt, node(api.Int, 31, 0)}, {anInt, aBool, plain(api.Choice, kid(2))}} {
		wantDecoded(t, "a schema that is not right", schema, 0, refuses("\x02\x01\x05", 0, api.ErrSchema), refuses("", 0, api.ErrSchema), refuses(long, 0, api.ErrSchema))
	}
}

func TestDecodeLong(t *testing.T) {
	octets := []api.Node{plain(api.Octets)}
	most := strings.Repeat("x", 3996)
	wantDecoded(t, "4000 bytes", octets, 0, takes("\x04\x82\x0f\x9c"+most, leaf(api.Octets, most)))
	wantDecoded(t, "4001 bytes", octets, 0, refuses("\x04\x82\x0f\x9d"+most+"x", 0, api.ErrLong))
	wantDecoded(t, "4001 bytes, of which one is too much", octets, 0, refuses("\x04\x82\x0f\x9c"+most+"x", 0, api.ErrLong))
	wantDecoded(t, "4001 bytes of no head", octets, 0, refuses(strings.Repeat("\xff", 4001), 0, api.ErrLong), refuses(strings.Repeat("\xff", 4000), 0, api.ErrTag))
	wantDecoded(t, "4000 bytes, of which one is too much", octets, 0, refuses("\x04\x82\x0f\x9b"+most, 3999, api.ErrMore))
}

// What is wrong with a head is told where the element begins, and ahead of whether it is the one that must stand there.
func TestDecodeHeads(t *testing.T) {
	heads := []struct {
		text string
		e    api.Errno
	}{
		{"\x02", api.ErrEnd}, {"\x04", api.ErrEnd}, {"\x02\x02\x05", api.ErrEnd}, {"\x04\x02\x05", api.ErrEnd}, {"\x02\x81", api.ErrEnd}, {"\x02\x82\x01", api.ErrEnd}, {"\x22\x05\x05", api.ErrEnd},
		{"\x1f", api.ErrTag}, {"\xff\x01\x00", api.ErrTag}, {"\x9f\x80", api.ErrTag}, {"\x3f\x81\x01\x00", api.ErrTag},
		{"\x02\x80", api.ErrLength}, {"\x04\x84", api.ErrLength}, {"\x02\x81\x01\x05", api.ErrLength}, {"\x04\x81\x01\x05", api.ErrLength}, {"\x02\x82\x00\x80" + strings.Repeat("\x01", 128), api.ErrLength}, {"\x02\xff", api.ErrLength},
	}
	for _, h := range heads {
		wantDecoded(t, "the root", []api.Node{anInt}, 0, refuses(h.text, 0, h.e))
		wantDecoded(t, "in a Tag", []api.Node{node(api.Int, 0, 1)}, 0, refuses(element(0xa0, h.text), len(element(0xa0, h.text))-len(h.text), h.e))
		place := func(ahead string) int { return len(element(0x30, ahead+h.text)) - len(h.text) }
		for _, kind := range []int{api.SeqOf, api.SetOf} {
			first := byte(0x30 + kind - api.SeqOf)
			for _, ahead := range []string{"", "\x02\x01\x01"} {
				wantDecoded(t, "in a list", []api.Node{plain(kind, kid(1)), anInt}, 0, refuses(element(first, ahead+h.text), place(ahead), h.e))
			}
		}
		for _, k := range []api.Kid{kid(1), optional(1), withDefault(1, "\x02\x01\x00")} {
			wantDecoded(t, "a kid", []api.Node{plain(api.Seq, k), anInt}, 0, refuses(element(0x30, h.text), place(""), h.e))
			wantDecoded(t, "a second kid", []api.Node{plain(api.Seq, kid(2), k), anInt, aBool}, 0, refuses(element(0x30, "\x01\x01\xff"+h.text), place("\x01\x01\xff"), h.e))
		}
		wantDecoded(t, "a Choice", []api.Node{plain(api.Choice, kid(1)), anInt}, 0, refuses(h.text, 0, h.e))
		wantDecoded(t, "Any", []api.Node{anAny}, 0, refuses(h.text, 0, h.e))
	}
	wantDecoded(t, "nothing", []api.Node{anInt}, 0, refuses("", 0, api.ErrEnd))
	wantDecoded(t, "nothing of Any", []api.Node{anAny}, 0, refuses("", 0, api.ErrEnd))
}

// An element may end behind what it stands in, though data goes on.
func TestDecodeEndsBehindWhatItStandsIn(t *testing.T) {
	deep := []api.Node{plain(api.Seq, kid(1), optional(2)), plain(api.Seq, kid(2), optional(3)), anInt, node(api.Int, 0, 1)}
	wantDecoded(t, "Seq", deep, 0,
		takes("\x30\x08\x30\x03\x02\x01\x01\x02\x01\x02", built(api.Seq, 2), built(api.Seq, 2), number(1), absent, number(2)),
		refuses("\x30\x08\x30\x03\x02\x02\x01\x02\x01\x02", 4, api.ErrEnd),
		refuses("\x30\x08\x30\x02\x02\x01\x01\x02\x01\x02", 4, api.ErrEnd),
		refuses("\x30\x08\x30\x01\x02\x01\x01\x02\x01\x02", 4, api.ErrEnd),
		refuses("\x30\x08\x30\x09\x02\x01\x01\x02\x01\x02", 2, api.ErrEnd),
		refuses("\x30\x0d\x30\x08\x02\x01\x01\xa0\x03\x02\x02\x01\x02\x01\x02", 9, api.ErrEnd),
		refuses("\x30\x0d\x30\x06\x02\x01\x01\xa0\x04\x02\x01\x01\x02\x01\x02", 7, api.ErrEnd),
		refuses("\x30\x0d\x30\x08\x02\x01\x01\xa0\x02\x02\x01\x01\x02\x01\x02", 9, api.ErrEnd),
	)
}

func TestDecodeSeq(t *testing.T) {
	none := []api.Node{plain(api.Seq)}
	wantDecoded(t, "a Seq of nothing", none, 0,
		takes("\x30\x00", built(api.Seq, 0)),
		refuses("\x30\x01\x1f", 2, api.ErrMore), refuses("\x30\x02\x05\x00", 2, api.ErrMore), refuses("\x30\x00\x00", 2, api.ErrMore),
		refuses("\x10\x00", 0, api.ErrTag), refuses("\x31\x00", 0, api.ErrTag), refuses("\xb0\x00", 0, api.ErrTag),
	)
	three := []api.Node{plain(api.Seq, kid(1), kid(1), kid(2)), anInt, aBool}
	wantDecoded(t, "three kids", three, 0,
		takes("\x30\x09\x02\x01\x01\x02\x01\x02\x01\x01\xff", built(api.Seq, 3), number(1), number(2), leaf(api.Bool, "\xff")),
		refuses("\x30\x00", 2, api.ErrEnd),
		refuses("\x30\x03\x02\x01\x01", 5, api.ErrEnd),
		refuses("\x30\x06\x02\x01\x01\x02\x01\x02", 8, api.ErrEnd),
		refuses("\x30\x06\x02\x01\x01\x02\x01\x02\x01\x01\xff", 8, api.ErrEnd),
		refuses("\x30\x06\x02\x01\x01\x01\x01\xff", 5, api.ErrTag),
		refuses("\x30\x09\x02\x01\x01\x02\x01\x02\x02\x01\x03", 8, api.ErrTag),
		refuses("\x30\x03\x22\x01\x01", 2, api.ErrTag),
		refuses("\x30\x03\x42\x01\x01", 2, api.ErrTag),
		refuses("\x30\x0c\x02\x01\x01\x02\x01\x02\x01\x01\xff\x05\x00\x00", 11, api.ErrMore),
		refuses("\x30\x0a\x02\x01\x01\x02\x01\x02\x01\x01\xff\x1f", 11, api.ErrMore),
		refuses("\x30\x09\x02\x01\x01\x02\x01\x02\x01\x01\xff\x1f", 11, api.ErrMore),
		refuses("\x30\x09\x02\x01\x01\x02\x01\x02\x01\x01\x01", 8, api.ErrValue),
	)
	wantDecoded(t, "Mode 0", []api.Node{node(api.Seq, 7, 0, kid(1)), anInt}, 0,
		takes("\xa7\x03\x02\x01\x01", built(api.Seq, 1), number(1)),
		refuses("\x87\x03\x02\x01\x01", 0, api.ErrTag), refuses("\x30\x03\x02\x01\x01", 0, api.ErrTag), refuses("\xa7\x00", 2, api.ErrEnd),
	)
}

func TestDecodeKidsThatAreLeftOut(t *testing.T) {
	const no, two = "\x01\x01\x00", "\x02\x01\x02"
	schema := []api.Node{
		plain(api.Seq, optional(1), withDefault(2, no), optional(3), kid(4), withDefault(1, two), optional(5)),
		anInt, aBool, plain(api.SeqOf, kid(1)), aNull, plain(api.Choice, kid(2), kid(6)), node(api.Int, 1, 1),
	}
	head, null := built(api.Seq, 6), leaf(api.Null, "")
	yes, noValue := leaf(api.Bool, "\xff"), leaf(api.Bool, "\x00")
	wantDecoded(t, "left out", schema, 0,
		takes("\x30\x02\x05\x00", head, absent, noValue, absent, null, number(2), absent),
		takes("\x30\x05\x02\x01\x02\x05\x00", head, number(2), noValue, absent, null, number(2), absent),
		takes("\x30\x05\x01\x01\xff\x05\x00", head, absent, yes, absent, null, number(2), absent),
		takes("\x30\x07\x30\x03\x02\x01\x09\x05\x00", head, absent, noValue, built(api.SeqOf, 1), number(9), null, number(2), absent),
		takes("\x30\x04\x30\x00\x05\x00", head, absent, noValue, built(api.SeqOf, 0), null, number(2), absent),
		takes("\x30\x05\x05\x00\x02\x01\x01", head, absent, noValue, absent, null, number(1), absent),
		takes("\x30\x05\x05\x00\x01\x01\x00", head, absent, noValue, absent, null, number(2), alt(0), noValue),
		takes("\x30\x07\x05\x00\xa1\x03\x02\x01\x02", head, absent, noValue, absent, null, number(2), alt(1), number(2)),
		takes("\x30\x10\x02\x01\x07\x01\x01\xff\x30\x00\x05\x00\x02\x01\x08\x01\x01\xff", head, number(7), yes, built(api.SeqOf, 0), null, number(8), alt(0), yes),
	)
	wantDecoded(t, "not left out", schema, 0,
		refuses("\x30\x00", 2, api.ErrEnd),
		refuses("\x30\x03\x02\x01\x02", 5, api.ErrEnd),
		refuses("\x30\x05\x01\x01\x00\x05\x00", 2, api.ErrDefault),
		refuses("\x30\x08\x02\x01\x05\x01\x01\x00\x05\x00", 5, api.ErrDefault),
		refuses("\x30\x05\x05\x00\x02\x01\x02", 4, api.ErrDefault),
		refuses("\x30\x08\x05\x00\x02\x01\x02\x01\x01\x03", 4, api.ErrDefault),
		refuses("\x30\x05\x01\x01\x01\x05\x00", 2, api.ErrValue),
		refuses("\x30\x08\x01\x01\xff\x02\x01\x05\x05\x00", 5, api.ErrTag),
		refuses("\x30\x08\x01\x01\xff\x01\x01\xff\x05\x00", 5, api.ErrTag),
		refuses("\x30\x06\x30\x00\x30\x00\x05\x00", 4, api.ErrTag),
		refuses("\x30\x02\x04\x00", 2, api.ErrTag),
		refuses("\x30\x04\x05\x00\x05\x00", 4, api.ErrMore),
		refuses("\x30\x08\x05\x00\x01\x01\xff\x02\x01\x01", 7, api.ErrMore),
		refuses("\x30\x08\x05\x00\x01\x01\xff\x01\x01\xff", 7, api.ErrMore),
		refuses("\x30\x04\x05\x00\x04\x00", 4, api.ErrMore),
	)
	wantDecoded(t, "what begins like a kid is that kid, built or not", schema, 0,
		refuses("\x30\x05\x22\x01\x02\x05\x00", 2, api.ErrTag),
		refuses("\x30\x05\x21\x01\xff\x05\x00", 2, api.ErrTag),
		refuses("\x30\x04\x10\x00\x05\x00", 2, api.ErrTag),
		refuses("\x30\x04\x25\x00\x05\x00", 2, api.ErrTag),
		refuses("\x30\x05\x05\x00\x22\x01\x01", 4, api.ErrTag),
		refuses("\x30\x07\x05\x00\x81\x03\x02\x01\x02", 4, api.ErrTag),
		refuses("\x30\x07\x05\x00\xc1\x03\x02\x01\x02", 4, api.ErrMore),
	)
}

func TestDecodeAnyThatIsLeftOut(t *testing.T) {
	schema := []api.Node{plain(api.Seq, kid(1), optional(2)), anInt, anAny}
	wantDecoded(t, "Any", schema, 0,
		takes("\x30\x03\x02\x01\x01", built(api.Seq, 2), number(1), absent),
		takes("\x30\x06\x02\x01\x01\x02\x01\x02", built(api.Seq, 2), number(1), leaf(api.Any, "\x02\x01\x02")),
		refuses("\x30\x09\x02\x01\x01\x02\x01\x02\x02\x01\x03", 8, api.ErrMore),
	)
}

// The Default of a kid with a Tag is the bytes with the Tag.
func TestDecodeDefaultsWithTags(t *testing.T) {
	instead, around := defaults(node(api.Int, 4, 0), "\x84\x01\x05"), defaults(node(api.Int, 4, 1), "\xa4\x03\x02\x01\x05")
	wantDecoded(t, "Mode 0", instead, 0,
		takes("\x30\x00", built(api.Seq, 1), number(5)),
		takes("\x30\x03\x84\x01\x06", built(api.Seq, 1), number(6)),
		refuses("\x30\x03\x84\x01\x05", 2, api.ErrDefault),
	)
	wantDecoded(t, "Mode 1", around, 0,
		takes("\x30\x00", built(api.Seq, 1), number(5)),
		takes("\x30\x05\xa4\x03\x02\x01\x06", built(api.Seq, 1), number(6)),
		refuses("\x30\x05\xa4\x03\x02\x01\x05", 2, api.ErrDefault),
		refuses("\x30\x03\xa4\x01\x05", 4, api.ErrEnd),
		refuses("\x30\x07\xa4\x05\x02\x01\x05\x05\x00", 7, api.ErrMore),
		refuses("\x30\x05\xa4\x03\x02\x01\x05\x00", 2, api.ErrDefault),
	)
	for _, c := range contents {
		for _, text := range c.right {
			whole := element(c.number, text)
			wantDecoded(t, "each kind", defaults(plain(c.kind), whole), 0, takes("\x30\x00", built(api.Seq, 1), leaf(c.kind, text)))
			if len(text) < 3000 {
				told := element(0x30, whole)
				wantDecoded(t, "each kind, told", defaults(plain(c.kind), whole), 0, refuses(told, len(told)-len(whole), api.ErrDefault))
			}
		}
	}
}

func TestDecodeLists(t *testing.T) {
	for kind, first := range map[int]string{api.SeqOf: "\x30", api.SetOf: "\x31"} {
		schema := []api.Node{plain(kind, kid(1)), anInt}
		wantDecoded(t, "lists", schema, 0,
			takes(first+"\x00", built(kind, 0)),
			takes(first+"\x03\x02\x01\x01", built(kind, 1), number(1)),
			takes(first+"\x09\x02\x01\x01\x02\x01\x01\x02\x01\x05", built(kind, 3), number(1), number(1), number(5)),
			refuses(first+"\x06\x02\x01\x01\x01\x01\xff", 5, api.ErrTag),
			refuses(first+"\x06\x02\x01\x01\x22\x01\x02", 5, api.ErrTag),
			refuses(first+"\x06\x02\x01\x01\x02\x02\x05", 5, api.ErrEnd),
			refuses(first+"\x07\x02\x01\x01\x02\x02\x00\x05", 5, api.ErrValue),
			refuses(first+"\x05\x02\x01\x01\x05\x00", 5, api.ErrTag),
			refuses(first+"\x04\x02\x01\x01\x00", 5, api.ErrEnd),
			refuses(first+"\x03\x02\x01\x01\x00", 5, api.ErrMore),
		)
		bare := string([]byte{first[0] &^ 0x20})
		wantDecoded(t, "not built, or another", schema, 0, refuses(bare+"\x00", 0, api.ErrTag), refuses(string([]byte{first[0] ^ 1})+"\x00", 0, api.ErrTag))
		wantDecoded(t, "Mode 0", []api.Node{node(kind, 9, 0, kid(1)), anInt}, 0, takes("\xa9\x03\x02\x01\x01", built(kind, 1), number(1)), refuses("\x89\x00", 0, api.ErrTag))
	}
	wantDecoded(t, "a SeqOf has no order", []api.Node{plain(api.SeqOf, kid(1)), anInt}, 0, takes("\x30\x06\x02\x01\x05\x02\x01\x01", built(api.SeqOf, 2), number(5), number(1)))
}

func TestDecodeOrder(t *testing.T) {
	ints := []api.Node{plain(api.SetOf, kid(1)), anInt}
	wantDecoded(t, "by the bytes", ints, 0,
		takes("\x31\x06\x02\x01\x7f\x02\x01\x80", built(api.SetOf, 2), number(0x7f), number(0x80)),
		refuses("\x31\x06\x02\x01\x80\x02\x01\x7f", 5, api.ErrOrder),
		refuses("\x31\x09\x02\x01\x01\x02\x01\x03\x02\x01\x02", 8, api.ErrOrder),
		refuses("\x31\x07\x02\x02\x01\x00\x02\x01\x7f", 6, api.ErrOrder),
		takes("\x31\x07\x02\x01\xff\x02\x02\x01\x00", built(api.SetOf, 2), number(0xff), leaf(api.Int, "\x01\x00")),
		refuses("\x31\x09\x02\x01\x02\x02\x01\x01\x02\x01\x00", 5, api.ErrOrder),
	)
	wantDecoded(t, "told when the element has been read", ints, 0,
		refuses("\x31\x07\x02\x02\x01\x00\x02\x01", 0, api.ErrEnd),
		refuses("\x31\x06\x02\x02\x01\x00\x02\x01", 6, api.ErrEnd),
		refuses("\x31\x06\x02\x01\x05\x01\x01\xff", 5, api.ErrTag),
		refuses("\x31\x07\x02\x03\x01\x00\x00\x02\x00", 7, api.ErrValue),
		refuses("\x31\x0b\x02\x01\x05\x02\x01\x01\x02\x03\x00\x00\x00", 5, api.ErrOrder),
	)
	seqs := []api.Node{plain(api.SetOf, kid(1)), plain(api.Seq, kid(2), optional(3)), anInt, aBool}
	wantDecoded(t, "what is wrong within comes first", seqs, 0,
		refuses("\x31\x0a\x30\x03\x02\x01\x05\x30\x03\x02\x01\x01", 7, api.ErrOrder),
		refuses("\x31\x0b\x30\x03\x02\x01\x05\x30\x04\x02\x02\x00\x01", 9, api.ErrValue),
		refuses("\x31\x09\x30\x03\x02\x01\x05\x30\x02\x05\x00", 9, api.ErrTag),
		refuses("\x31\x07\x30\x03\x02\x01\x05\x30\x00", 9, api.ErrEnd),
		refuses("\x31\x0f\x30\x06\x02\x01\x05\x01\x01\xff\x30\x05\x02\x01\x01\x05\x00", 15, api.ErrMore),
	)
	tagged := []api.Node{plain(api.SetOf, kid(1)), node(api.Int, 0, 1)}
	wantDecoded(t, "with what is around", tagged, 0,
		takes("\x31\x0b\xa0\x03\x02\x01\x05\xa0\x04\x02\x02\x01\x00", built(api.SetOf, 2), number(5), leaf(api.Int, "\x01\x00")),
		refuses("\x31\x0a\xa0\x03\x02\x01\x05\xa0\x03\x02\x01\x01", 7, api.ErrOrder),
	)
	anything := []api.Node{plain(api.SetOf, kid(1)), anAny}
	wantDecoded(t, "of Any", anything, 0,
		takes("\x31\x05\x01\x01\x05\x05\x00", built(api.SetOf, 2), leaf(api.Any, "\x01\x01\x05"), leaf(api.Any, "\x05\x00")),
		refuses("\x31\x05\x05\x00\x01\x01\x05", 4, api.ErrOrder),
		refuses("\x31\x04\xff\x00\x05\x00", 2, api.ErrTag),
		refuses("\x31\x04\xde\x00\x5e\x00", 4, api.ErrOrder),
	)
	sets := []api.Node{plain(api.SetOf, kid(1)), plain(api.SetOf, kid(2)), anInt}
	wantDecoded(t, "each SetOf by itself", sets, 0,
		takes("\x31\x0a\x31\x03\x02\x01\x05\x31\x03\x02\x01\x06", built(api.SetOf, 2), built(api.SetOf, 1), number(5), built(api.SetOf, 1), number(6)),
		takes("\x31\x0d\x31\x03\x02\x01\x05\x31\x06\x02\x01\x01\x02\x01\x02", built(api.SetOf, 2), built(api.SetOf, 1), number(5), built(api.SetOf, 2), number(1), number(2)),
		refuses("\x31\x0d\x31\x03\x02\x01\x05\x31\x06\x02\x01\x02\x02\x01\x01", 12, api.ErrOrder),
	)
}

func TestDecodeChoice(t *testing.T) {
	schema := []api.Node{
		plain(api.Choice, kid(1), kid(2), kid(3), kid(4)),
		anInt, node(api.Choice, 0, 1, kid(1), kid(5)), node(api.SeqOf, 1, 0, kid(0)), plain(api.Choice, kid(6), kid(7)),
		aBool, aNull, node(api.Any, 2, 1),
	}
	wantDecoded(t, "by the first byte", schema, 0,
		takes("\x02\x01\x05", alt(0), number(5)),
		takes("\xa0\x03\x02\x01\x05", alt(1), alt(0), number(5)),
		takes("\xa0\x03\x01\x01\x00", alt(1), alt(1), leaf(api.Bool, "\x00")),
		takes("\xa1\x00", alt(2), built(api.SeqOf, 0)),
		takes("\xa1\x05\x05\x00\x02\x01\x09", alt(2), built(api.SeqOf, 2), alt(3), alt(0), leaf(api.Null, ""), alt(0), number(9)),
		takes("\x05\x00", alt(3), alt(0), leaf(api.Null, "")),
		takes("\xa2\x02\x1e\x00", alt(3), alt(1), leaf(api.Any, "\x1e\x00")),
		refuses("\x01\x01\x00", 0, api.ErrTag),
		refuses("\x82\x02\x05\x00", 0, api.ErrTag),
		refuses("\x80\x03\x02\x01\x05", 0, api.ErrTag),
		refuses("\x25\x00", 0, api.ErrTag),
		refuses("\xa0\x02\x05\x00", 2, api.ErrTag),
		refuses("\xa0\x00", 2, api.ErrEnd),
		refuses("\xa0\x04\x02\x02\x00\x05", 2, api.ErrValue),
		refuses("\xa0\x05\x02\x01\x05\x05\x00", 5, api.ErrMore),
		refuses("\xa0\x04\x02\x01\x05\x1f", 5, api.ErrMore),
		refuses("\x05\x01\x00", 0, api.ErrValue),
		refuses("\xa1\x05\xa0\x03\x01\x01\x01", 4, api.ErrValue),
		refuses("\xa2\x00", 2, api.ErrEnd),
		refuses("\xa2\x04\x05\x00\x05\x00", 4, api.ErrMore),
		refuses("\x02\x01\x05\x02\x01\x05", 3, api.ErrMore),
	)
	wantDecoded(t, "each beginning, by another root", schema, 4, takes("\x05\x00", alt(0), leaf(api.Null, "")), refuses("\x02\x01\x05", 0, api.ErrTag))
}

// Any looks at no more than the head.
func TestDecodeAny(t *testing.T) {
	for first := range 256 {
		for _, content := range []string{"", "\x1f", "\x80\x80", strings.Repeat("\xff", 200)} {
			whole := element(byte(first), content)
			if first&31 == 31 {
				wantDecoded(t, "no head", []api.Node{anAny}, 0, refuses(whole, 0, api.ErrTag))
				continue
			}
			around := element(0xa5, whole)
			wantDecoded(t, "Any", []api.Node{anAny}, 0, takes(whole, leaf(api.Any, whole)), refuses(whole+"\x00", len(whole), api.ErrMore))
			wantDecoded(t, "Any in a Tag", []api.Node{node(api.Any, 5, 1)}, 0, takes(around, leaf(api.Any, whole)))
		}
	}
}

func TestDecodeAround(t *testing.T) {
	schema := []api.Node{node(api.Seq, 3, 1, kid(1), optional(2)), anInt, node(api.SetOf, 30, 1, kid(1))}
	wantDecoded(t, "an element around", schema, 0,
		takes("\xa3\x05\x30\x03\x02\x01\x01", built(api.Seq, 2), number(1), absent),
		takes("\xa3\x09\x30\x07\x02\x01\x01\xbe\x02\x31\x00", built(api.Seq, 2), number(1), built(api.SetOf, 0)),
		refuses("\xa3\x00", 2, api.ErrEnd),
		refuses("\x83\x05\x30\x03\x02\x01\x01", 0, api.ErrTag),
		refuses("\x63\x05\x30\x03\x02\x01\x01", 0, api.ErrTag),
		refuses("\xa4\x05\x30\x03\x02\x01\x01", 0, api.ErrTag),
		refuses("\x30\x03\x02\x01\x01", 0, api.ErrTag),
		refuses("\xa3\x03\x02\x01\x01", 2, api.ErrTag),
		refuses("\xa3\x05\x10\x03\x02\x01\x01", 2, api.ErrTag),
		refuses("\xa3\x05\xa3\x03\x02\x01\x01", 2, api.ErrTag),
		refuses("\xa3\x02\x30\x00", 4, api.ErrEnd),
		refuses("\xa3\x06\x30\x03\x02\x01\x01\x1f", 7, api.ErrMore),
		refuses("\xa3\x06\x30\x03\x02\x01\x01\x1f\x00", 7, api.ErrMore),
		refuses("\xa3\x05\x30\x03\x02\x01\x01\x1f", 7, api.ErrMore),
		refuses("\xa3\x07\x30\x05\x02\x01\x01\xbe\x00", 9, api.ErrEnd),
		refuses("\xa3\x09\x30\x07\x02\x01\x01\x9e\x02\x31\x00", 7, api.ErrTag),
		refuses("\xa3\x09\x30\x07\x02\x01\x01\xbe\x02\x30\x00", 9, api.ErrTag),
		refuses("\xa3\x0b\x30\x09\x02\x01\x01\xbe\x04\x31\x00\x05\x00", 11, api.ErrMore),
		refuses("\xa3\x0d\x30\x0b\x02\x01\x01\xbe\x02\x31\x00\xbe\x02\x31\x00", 11, api.ErrMore),
	)
}

// Of two that are wrong the one is told that comes first as the bytes are read.
func TestDecodeFirstFault(t *testing.T) {
	schema := []api.Node{plain(api.Seq, kid(1), withDefault(2, "\x01\x01\x00"), optional(3)), anInt, aBool, plain(api.SetOf, kid(1))}
	wantDecoded(t, "two faults", schema, 0,
		refuses("\x30\x08\x02\x02\x00\x01\x01\x01\x00\x1f", 2, api.ErrValue),
		refuses("\x30\x07\x02\x01\x01\x01\x01\x00\x1f", 5, api.ErrDefault),
		refuses("\x30\x06\x02\x01\x01\x01\x01\x00\x1f", 5, api.ErrDefault),
		refuses("\x30\x07\x02\x01\x01\x01\x01\x01\x1f", 5, api.ErrValue),
		refuses("\x30\x0c\x02\x01\x01\x31\x06\x02\x01\x02\x02\x01\x01\x00", 7+3, api.ErrOrder),
		refuses("\x30\x0b\x02\x01\x01\x31\x06\x02\x01\x02\x02\x01\x01\x05", 7+3, api.ErrOrder),
		refuses("\x30\x0c\x02\x01\x01\x31\x06\x02\x01\x01\x02\x01\x02\x00", 13, api.ErrMore),
		refuses("\x30\x0b\x02\x01\x01\x31\x06\x02\x01\x01\x02\x01\x02\x05", 13, api.ErrMore),
		refuses("\x31\x03\x02\x02\x00", 0, api.ErrTag),
		refuses("\x31\x04\x02\x02\x00", 0, api.ErrEnd),
		refuses("\x30\x81\x03\x02\x02\x00", 0, api.ErrLength),
		refuses("\x30\x02\x02\x01\x00", 2, api.ErrEnd),
	)
}

// nest puts so many heads around the text.
func nest(count int, first byte, text string) string {
	for range count {
		text = element(first, text)
	}
	return text
}

// repeat is so many of a value.
func repeat(count int, v api.Value) []api.Value {
	values := make([]api.Value, count)
	for i := range values {
		values[i] = v
	}
	return values
}

func TestDecodeDeepLists(t *testing.T) {
	for kind, first := range map[int]byte{api.SeqOf: 0x30, api.SetOf: 0x31} {
		schema := []api.Node{plain(kind, kid(0))}
		eleven := repeat(11, built(kind, 1))
		wantDecoded(t, "12 lists", schema, 0, takes(nest(12, first, ""), append(eleven, built(kind, 0))...))
		wantDecoded(t, "too many lists", schema, 0,
			refuses(nest(13, first, ""), 24, api.ErrDeep),
			refuses(nest(40, first, ""), 24, api.ErrDeep),
			refuses(nest(12, first, "\x02\x01\x01"), 24, api.ErrTag),
			refuses(nest(12, first, string([]byte{first &^ 0x20})+"\x00"), 24, api.ErrTag),
			refuses(nest(12, first, "\x1f"), 24, api.ErrTag),
			refuses(nest(12, first, string([]byte{first})+"\x01"), 24, api.ErrEnd),
			refuses(nest(12, first, string([]byte{first})+"\x80"), 24, api.ErrLength),
			refuses(nest(12, first, string([]byte{first})+"\x01\x1f"), 24, api.ErrDeep),
		)
	}
	seq := []api.Node{plain(api.Seq, optional(0))}
	wantDecoded(t, "a kid that is Absent has no depth", seq, 0,
		takes(nest(12, 0x30, ""), append(repeat(12, built(api.Seq, 1)), absent)...),
		refuses(nest(13, 0x30, ""), 24, api.ErrDeep),
		refuses(nest(12, 0x30, "\x05\x00"), 24, api.ErrMore),
	)
}

func TestDecodeDeepContents(t *testing.T) {
	for _, c := range contents {
		text := c.right[0]
		bad := ""
		if len(c.wrong) > 0 {
			bad = c.wrong[0]
		}
		schema := []api.Node{plain(api.Seq, optional(0), optional(1)), node(c.kind, 0, 0)}
		ten := append(repeat(11, built(api.Seq, 2)), absent, leaf(c.kind, text))
		wantDecoded(t, "depth 12", schema, 0, takes(nest(11, 0x30, element(0x80, text)), append(ten, repeat(10, absent)...)...))
		wantDecoded(t, "depth 13", schema, 0, refuses(nest(12, 0x30, element(0x80, text)), 24, api.ErrDeep), refuses(nest(12, 0x30, element(0x80, bad)), 24, api.ErrDeep))
	}
	anything := []api.Node{plain(api.SeqOf, kid(1)), plain(api.Choice, kid(2), kid(3)), plain(api.SeqOf, kid(1)), node(api.Any, 4, 1)}
	wantDecoded(t, "Any in a Tag", anything, 0, refuses(nest(12, 0x30, "\xa4\x02\x05\x00"), 24, api.ErrDeep), refuses(nest(12, 0x30, "\xa4\x00"), 24, api.ErrDeep), refuses(nest(12, 0x30, "\x84\x00"), 24, api.ErrTag))
	last := make([]api.Node, 13)
	for i := range last {
		last[i] = plain(api.Seq, kid(min(i+1, 12)))
	}
	last[12] = anAny
	wantDecoded(t, "Any", last, 0, refuses(nest(12, 0x30, "\x05\x00"), 24, api.ErrDeep), refuses(nest(12, 0x30, "\x1f\x00"), 24, api.ErrTag))
	wantDecoded(t, "Any at depth 12", last, 1, takes(nest(11, 0x30, "\x05\x00"), append(repeat(11, built(api.Seq, 1)), leaf(api.Any, "\x05\x00"))...))
}

func TestDecodeDeepDefaults(t *testing.T) {
	schema := []api.Node{plain(api.Seq, withDefault(1, "\x01\x01\x00"), optional(0)), aBool}
	var values []api.Value
	for range 12 {
		values = append(values, built(api.Seq, 2), leaf(api.Bool, "\x00"))
	}
	wantDecoded(t, "a kid that is its Default has no depth", schema, 0, takes(nest(12, 0x30, ""), append(values, absent)...))
	wantDecoded(t, "another has one", schema, 0, refuses(nest(12, 0x30, "\x01\x01\xff"), 24, api.ErrDeep), refuses(nest(12, 0x30, "\x01\x01\x01"), 24, api.ErrDeep))
	wantDecoded(t, "at depth 12", schema, 0, refuses(nest(11, 0x30, "\x01\x01\x00"), 22, api.ErrDefault), refuses(nest(11, 0x30, "\x01\x01\x01"), 22, api.ErrValue))
}

func TestDecodeDeepChoices(t *testing.T) {
	schema := []api.Node{plain(api.Choice, kid(1)), plain(api.Choice, kid(2)), plain(api.SeqOf, kid(0))}
	var values []api.Value
	for i := range 12 {
		values = append(values, alt(0), alt(0), built(api.SeqOf, min(11-i, 1)))
	}
	wantDecoded(t, "a Choice is no step", schema, 0, takes(nest(12, 0x30, ""), values...), refuses(nest(13, 0x30, ""), 24, api.ErrDeep))
	self := []api.Node{node(api.Choice, 0, 1, kid(0), kid(1)), aNull}
	many := append(append(repeat(299, alt(0)), alt(1)), leaf(api.Null, ""))
	wantDecoded(t, "Choices with a Tag are none either", self, 0, takes(nest(300, 0xa0, "\x05\x00"), many...))
}

func TestDecodeDeepAround(t *testing.T) {
	for _, kind := range []int{api.SeqOf, api.Choice} {
		schema := []api.Node{node(api.SeqOf, 0, 1, kid(1)), node(kind, 0, 1, kid(0))}
		if kind == api.Choice {
			schema[1] = node(api.Choice, 1, 1, kid(2))
			schema = append(schema, plain(api.SeqOf, kid(1)))
		}
		inner := "\xa0"
		if kind == api.Choice {
			inner = "\xa1"
		}
		pair := func(count int, text string) string {
			for i := range count {
				text = element(0x30, text)
				if i == count-1 {
					text = element(0xa0, text)
				} else {
					text = element(inner[0], text)
				}
			}
			return text
		}
		place := len(pair(12, "\x05\x00")) - 2
		wantDecoded(t, "told at the outer element", schema, 0,
			refuses(pair(12, inner+"\x02\x30\x00"), len(pair(12, inner+"\x02\x30\x00"))-4, api.ErrDeep),
			refuses(pair(12, inner+"\x00"), place, api.ErrDeep),
			refuses(pair(12, inner+"\x01\x1f"), len(pair(12, inner+"\x01\x1f"))-3, api.ErrDeep),
			refuses(pair(12, "\x05\x00"), place, api.ErrTag),
			refuses(pair(12, string([]byte{inner[0] &^ 0x20})+"\x00"), place, api.ErrTag),
		)
	}
}
