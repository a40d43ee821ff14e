package hallmark_test

import (
	"math/rand"
	"reflect"
	"strings"
	"testing"

	"hallmark/api"
	"hallmark/hallmark"
)

// The bytes of a random tree are read as that tree.
func TestDecodeReadsWhatIsTold(t *testing.T) {
	r := rand.New(rand.NewSource(3))
	kinds := map[int]int{}
	for range 20000 {
		schema := rightSchema(r)
		root := r.Intn(len(schema))
		want, ok := grown(r, schema, root)
		if !ok {
			continue
		}
		data, count := told(schema, root, want)
		if len(data) > 4000 {
			continue
		}
		if count != len(want) {
			t.Fatalf("the test told %d of %d values", count, len(want))
		}
		got, place, e := hallmark.Decode(schema, root, data)
		if e != api.OK || place != 0 || !reflect.DeepEqual(got, want) {
			t.Fatalf("P5: Decode(%+v, %d, %x) = %v, %d, %d, want %v", schema, root, data, got, place, e, want)
		}
		for _, v := range want {
			kinds[v.Kind]++
		}
	}
	for kind := api.Bool; kind <= api.Absent; kind++ {
		if kinds[kind] < 300 {
			t.Errorf("only %d values of kind %d: they try too little", kinds[kind], kind)
		}
	}
}

// broken changes, adds, takes away or moves a few bytes.
func broken(r *rand.Rand, data string) string {
	b := []byte(data)
	for range 1 + r.Intn(2) {
		at := r.Intn(len(b) + 1)
		switch r.Intn(4) {
		case 0:
			b = append(b[:at:at], append([]byte{byte(r.Intn(256))}, b[at:]...)...)
		case 1:
			if at < len(b) {
				b = append(b[:at:at], b[at+1:]...)
			}
		case 2:
			if at < len(b) {
				b[at] = []byte{b[at] + 1, b[at] - 1, b[at] ^ 0x20, byte(r.Intn(256))}[r.Intn(4)]
			}
		case 3:
			b = b[:at]
		}
	}
	return string(b)
}

// Bytes that are taken are those of the tree that comes out; what is refused tells a place in them.
func TestDecodeTakesOneWayAlone(t *testing.T) {
	r := rand.New(rand.NewSource(4))
	answers := map[api.Errno]int{}
	endsSoon(t, "Decode", func() {
		for range 100000 {
			schema := rightSchema(r)
			root := r.Intn(len(schema))
			values, ok := grown(r, schema, root)
			if !ok {
				continue
			}
			data, _ := told(schema, root, values)
			data = broken(r, data)
			got, place, e := hallmark.Decode(schema, root, data)
			answers[e]++
			if e != api.OK {
				if len(got) != 0 || place < 0 || place > len(data) {
					t.Fatalf("P1: Decode(%+v, %d, %x) = %v, %d, %d", schema, root, data, got, place, e)
				}
				continue
			}
			again, count := told(schema, root, got)
			if again != data || count != len(got) || place != 0 {
				t.Fatalf("P5: Decode(%+v, %d, %x) = %v at %d, which is told as %x", schema, root, data, got, place, again)
			}
		}
	})
	for _, e := range []api.Errno{api.OK, api.ErrEnd, api.ErrTag, api.ErrLength, api.ErrValue, api.ErrMore, api.ErrOrder} {
		if answers[e] < 10 {
			t.Errorf("only %d answers of the number %d: they try too little", answers[e], e)
		}
	}
}

func TestDecodeNeverPanicsAndChangesNothing(t *testing.T) {
	r := rand.New(rand.NewSource(5))
	endsSoon(t, "Decode", func() {
		for range 100000 {
			schema := randomSchema(r)
			before := copied(schema)
			root := r.Intn(len(schema))
			if r.Intn(20) == 0 {
				root = extremes[r.Intn(len(extremes))]
			}
			data := make([]byte, r.Intn(12))
			for i := range data {
				data[i] = []byte{byte(r.Intn(256)), byte(r.Intn(12)), 0x30, 0x80 | byte(r.Intn(64))}[r.Intn(4)]
			}
			got, place, e := hallmark.Decode(schema, root, string(data))
			if !reflect.DeepEqual(schema, before) {
				t.Fatalf("P2: Decode changed %+v to %+v", before, schema)
			}
			right := hallmark.Check(schema) == api.OK && root >= 0 && root < len(schema)
			if right == (e == api.ErrSchema) || e == api.ErrSchema && place != 0 || (e == api.OK) != (len(got) > 0) {
				t.Fatalf("P5: Decode(%+v, %d, %x) = %v, %d, %d", schema, root, data, got, place, e)
			}
			more, at, again := hallmark.Decode(before, root, string(data))
			if again != e || at != place || !reflect.DeepEqual(more, got) {
				t.Fatalf("P2: Decode(%+v, %d, %x) = %v, %d, %d, then %v, %d, %d", schema, root, data, got, place, e, more, at, again)
			}
		}
	})
}

func TestDecodeAtItsBounds(t *testing.T) {
	row := make([]api.Node, 40)
	for i := range row {
		row[i] = plain(api.Choice, kid(i+1))
	}
	row[38], row[39] = node(api.Choice, 0, 1, kid(0), kid(39)), aNull
	long := strings.Repeat("\x00", api.MaxLength)
	many := []api.Node{plain(api.SeqOf, kid(1)), plain(api.Seq, withDefault(2, element(0x80, long)), withDefault(3, element(0x81, long)), optional(4)), node(api.Octets, 0, 0), node(api.Utf8, 1, 0), aNull}
	endsSoon(t, "Decode", func() {
		self := []api.Node{node(api.Choice, 0, 1, kid(0), kid(1)), aNull}
		for _, schema := range [][]api.Node{self, row} {
			got, place, e := hallmark.Decode(schema, 0, nest(1020, 0xa0, "\x05\x00"))
			if e != api.OK || place != 0 || len(got) < 1020 || got[len(got)-1] != leaf(api.Null, "") {
				t.Errorf("P1: Choices with a Tag as deep as the bytes reach: %d values, %d, %d", len(got), place, e)
			}
		}
		got, place, e := hallmark.Decode(many, 0, element(0x30, strings.Repeat("\x30\x00", 1990)))
		if e != api.OK || place != 0 || len(got) != 1+4*1990 || got[7958].Text != long {
			t.Errorf("P1: long Defaults that are left out often: %d values, %d, %d", len(got), place, e)
		}
		for _, size := range []int{4000, 4001, 1 << 25} {
			hallmark.Decode(self, 0, strings.Repeat("\xa0", size))
			hallmark.Decode([]api.Node{anAny}, 0, strings.Repeat("\x00", size))
			hallmark.Decode([]api.Node{plain(api.SeqOf, kid(0))}, 0, "\x30\x82\x0f\x9c"+strings.Repeat("\x30\x00", size/2))
		}
	})
}

// What comes out is the caller's: all of it may be written into.
func TestDecodeGivesNewLists(t *testing.T) {
	schema := []api.Node{plain(api.Seq, withDefault(1, "\x01\x01\x00"), optional(2), kid(3)), aBool, anInt, plain(api.SeqOf, kid(2))}
	const data = "\x30\x08\x30\x06\x02\x01\x01\x02\x01\x02"
	want := tree(built(api.Seq, 3), leaf(api.Bool, "\x00"), absent, built(api.SeqOf, 2), number(1), number(2))
	before := copied(schema)
	var all [][]api.Value
	for i := range 10 {
		got, _, e := hallmark.Decode(schema, 0, data)
		if e != api.OK || !reflect.DeepEqual(got, want) {
			t.Fatalf("P2: Decode number %d: %v, %d, though nothing but earlier answers was written into", i, got, e)
		}
		for _, earlier := range all {
			for k, v := range earlier[:cap(earlier)] {
				if v != leaf(99, "mine") {
					t.Fatalf("P2: Decode number %d wrote into an earlier answer, at %d: %v", i, k, v)
				}
			}
		}
		room := got[:cap(got)]
		for k := range room {
			room[k] = leaf(99, "mine")
		}
		all = append(all, got)
	}
	if !reflect.DeepEqual(schema, before) {
		t.Errorf("P2: the schema has become %+v", schema)
	}
}

// What is handed in is not kept: another schema in the same memory is another schema.
func TestDecodeKeepsNothing(t *testing.T) {
	schema := []api.Node{plain(api.Seq, withDefault(1, "\x02\x01\x05")), anInt}
	wantDecoded(t, "first", schema, 0, takes("\x30\x00", built(api.Seq, 1), number(5)))
	got, _, _ := hallmark.Decode(schema, 0, "\x30\x00")
	schema[0].Kids[0] = optional(1)
	wantDecoded(t, "then", schema, 0, takes("\x30\x00", built(api.Seq, 1), absent))
	schema[1].Kind = api.Bool
	wantDecoded(t, "and then", schema, 0, takes("\x30\x03\x01\x01\xff", built(api.Seq, 1), leaf(api.Bool, "\xff")), refuses("\x30\x03\x02\x01\x05", 2, api.ErrMore))
	if !reflect.DeepEqual(got, tree(built(api.Seq, 1), number(5))) {
		t.Errorf("P2: an earlier answer has become %v", got)
	}
}
