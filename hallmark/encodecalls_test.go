package hallmark_test

import (
	"math/rand"
	"reflect"
	"slices"
	"sort"
	"strings"
	"testing"

	"hallmark/api"
	"hallmark/hallmark"
)

// treeOf is how many values at the front of these are the tree of a node, at this depth; ok is false, if they are none.
func treeOf(nodes []api.Node, node, depth int, values []api.Value) (count int, ok bool) {
	if len(values) == 0 || depth > 12 {
		return 0, false
	}
	n, v := nodes[node], values[0]
	if v.Kind != n.Kind {
		return 0, false
	}
	if n.Kind == api.Any {
		h, e := hallmark.Head(v.Text)
		return 1, e == api.OK && h.Size+h.Length == len(v.Text) && v.Alt == 0 && v.Kids == 0
	}
	if n.Kind <= api.Time {
		e := hallmark.Check(defaults(plain(n.Kind), element(ownFirst[n.Kind], v.Text)))
		return 1, e == api.OK && v.Alt == 0 && v.Kids == 0
	}
	if v.Text != "" || v.Alt < 0 || v.Kids < 0 || v.Kids > len(values) {
		return 0, false
	}
	kids := n.Kids
	switch n.Kind {
	case api.Choice:
		if v.Alt >= len(n.Kids) {
			return 0, false
		}
		kids, depth = n.Kids[v.Alt:v.Alt+1], depth-1
	case api.SeqOf, api.SetOf:
		kids = slices.Repeat(n.Kids, v.Kids)
	}
	if n.Kind != api.Choice && v.Alt != 0 || len(kids) != v.Kids {
		return 0, false
	}
	count = 1
	for _, k := range kids {
		rest := values[count:]
		if len(rest) > 0 && (k.Optional && rest[0] == absent || k.Default != "" && rest[0] == leaf(nodes[k.Node].Kind, unwrapped(nodes[k.Node], k.Default))) {
			count++
			continue
		}
		more, ok := treeOf(nodes, k.Node, depth+1, rest)
		if !ok {
			return 0, false
		}
		count += more
	}
	return count, true
}

// inOrder tells whether each SetOf of a tree rises.
func inOrder(nodes []api.Node, node int, values []api.Value) (count int, ok bool) {
	n, v := nodes[node], values[0]
	count, ok = 1, true
	var all []string
	for i := range v.Kids {
		at := map[int]int{api.Seq: i, api.Choice: v.Alt}[n.Kind]
		if values[count] == absent {
			count++
			continue
		}
		bytes, _ := told(nodes, n.Kids[at].Node, values[count:])
		all = append(all, bytes)
		more, right := inOrder(nodes, n.Kids[at].Node, values[count:])
		count, ok = count+more, ok && right
	}
	return count, ok && (n.Kind != api.SetOf || sort.StringsAreSorted(all))
}

// wanted is what Encode must answer, by the document's words.
func wanted(nodes []api.Node, root int, values []api.Value) (string, api.Errno) {
	if count, ok := treeOf(nodes, root, 1, values); !ok || count != len(values) {
		return "", api.ErrTree
	}
	bytes, _ := told(nodes, root, values)
	if len(bytes) > 4000 {
		return "", api.ErrLong
	}
	if _, ok := inOrder(nodes, root, values); !ok {
		return "", api.ErrOrder
	}
	return bytes, api.OK
}

// spoilt changes, adds, takes away or moves a few values.
func spoilt(r *rand.Rand, values []api.Value) []api.Value {
	values = append(tree(), values...)
	some := func() api.Value {
		if len(values) > 0 && r.Intn(2) == 0 {
			return values[r.Intn(len(values))]
		}
		return []api.Value{absent, alt(0), alt(1), built(api.Seq, r.Intn(3)), built(api.SeqOf, r.Intn(3)), built(api.SetOf, r.Intn(3)), number(1), number(2), {}}[r.Intn(9)]
	}
	for range 1 + r.Intn(2) {
		at := r.Intn(len(values) + 1)
		if r.Intn(4) == 0 || at == len(values) {
			values = slices.Insert(values, at, some())
			continue
		}
		v := &values[at]
		switch r.Intn(9) {
		case 0:
			values = slices.Delete(values, at, at+1)
		case 1:
			*v = some()
		case 2:
			v.Kind += r.Intn(3) - 1
		case 3:
			v.Alt += r.Intn(3) - 1
		case 4:
			v.Kids += r.Intn(3) - 1
		case 5:
			if r.Intn(3) > 0 {
				v.Text = broken(r, v.Text)
			} else {
				v.Text += strings.Repeat("x", 3900)
			}
		case 6:
			other := r.Intn(len(values))
			values[at], values[other] = values[other], values[at]
		case 7:
			values = values[:at]
		case 8:
			other := at + r.Intn(len(values)-at)
			values = slices.Insert(values, other, slices.Clone(values[at:other])...)
		}
	}
	return values
}

// Of random trees, as they are and spoilt, the answer is what the document's words are.
func TestEncodeTellsWhatIsWanted(t *testing.T) {
	r := rand.New(rand.NewSource(6))
	answers := map[api.Errno]int{}
	kinds := map[int]int{}
	endsSoon(t, "Encode", func() {
		for range 60000 {
			schema := rightSchema(r)
			root := r.Intn(len(schema))
			values, ok := grown(r, schema, root)
			if !ok {
				continue
			}
			if r.Intn(3) > 0 {
				values = spoilt(r, values)
			}
			before, same := copied(schema), slices.Clone(values)
			want, wantE := wanted(schema, root, values)
			got, e := hallmark.Encode(schema, root, values)
			if got != want || e != wantE {
				t.Fatalf("P6: Encode(%+v, %d, %v) = %x, %d, want %x, %d", schema, root, values, got, e, want, wantE)
			}
			if !reflect.DeepEqual(schema, before) || !slices.Equal(values, same) {
				t.Fatalf("P2: Encode changed %+v to %+v, %v to %v", before, schema, same, values)
			}
			answers[e]++
			if e != api.OK {
				continue
			}
			back, place, e := hallmark.Decode(schema, root, got)
			if e != api.OK || place != 0 || !slices.Equal(back, values) {
				t.Fatalf("P8: Encode(%+v, %d, %v) = %x, and that is read as %v, %d, %d", schema, root, values, got, back, place, e)
			}
			for _, v := range values {
				kinds[v.Kind]++
			}
		}
	})
	for e, least := range map[api.Errno]int{api.OK: 10000, api.ErrTree: 10000, api.ErrOrder: 20, api.ErrLong: 5} {
		if answers[e] < least {
			t.Errorf("only %d answers of the number %d: they try too little", answers[e], e)
		}
	}
	for kind := api.Bool; kind <= api.Absent; kind++ {
		if kinds[kind] < 300 {
			t.Errorf("only %d values of kind %d: they try too little", kinds[kind], kind)
		}
	}
}

// Bytes that Decode takes are told again as they were.
func TestEncodeTellsWhatWasRead(t *testing.T) {
	r := rand.New(rand.NewSource(7))
	taken := 0
	for range 60000 {
		schema := rightSchema(r)
		root := r.Intn(len(schema))
		values, ok := grown(r, schema, root)
		if !ok {
			continue
		}
		data, _ := told(schema, root, values)
		data = broken(r, data)
		got, _, e := hallmark.Decode(schema, root, data)
		if e != api.OK {
			continue
		}
		taken++
		if again, e := hallmark.Encode(schema, root, got); again != data || e != api.OK {
			t.Fatalf("P8: Decode(%+v, %d, %x) = %v, and that is told as %x, %d", schema, root, data, got, again, e)
		}
	}
	if taken < 1000 {
		t.Errorf("only %d rows of bytes are taken: they try too little", taken)
	}
}

func TestEncodeNeverPanics(t *testing.T) {
	r := rand.New(rand.NewSource(8))
	pick := func(usual int) int {
		if r.Intn(20) == 0 {
			return extremes[r.Intn(len(extremes))]
		}
		return usual
	}
	endsSoon(t, "Encode", func() {
		for range 100000 {
			schema := randomSchema(r)
			before := copied(schema)
			root := pick(r.Intn(len(schema)))
			values := make([]api.Value, r.Intn(6))
			for i := range values {
				values[i] = api.Value{Kind: pick(r.Intn(17)), Alt: pick(0), Kids: pick(r.Intn(2))}
				if values[i].Kind < api.Seq || values[i].Kind == api.Any {
					values[i].Text = []string{"", "\x00", "\x05\x00", "A"}[r.Intn(4)]
				}
			}
			same := slices.Clone(values)
			got, e := hallmark.Encode(schema, root, values)
			if !reflect.DeepEqual(schema, before) || !slices.Equal(values, same) {
				t.Fatalf("P2: Encode changed %+v to %+v, %v to %v", before, schema, same, values)
			}
			right := hallmark.Check(schema) == api.OK && root >= 0 && root < len(schema)
			if right == (e == api.ErrSchema) || (e == api.OK) != (got != "") {
				t.Fatalf("P6: Encode(%+v, %d, %v) = %x, %d", schema, root, values, got, e)
			}
			if again, other := hallmark.Encode(before, root, same); again != got || other != e {
				t.Fatalf("P2: Encode(%+v, %d, %v) = %x, %d, then %x, %d", schema, root, values, got, e, again, other)
			}
		}
	})
}

func TestEncodeAtItsBounds(t *testing.T) {
	self := []api.Node{node(api.Choice, 0, 1, kid(0), kid(1)), aNull}
	row := make([]api.Node, 40)
	for i := range row {
		row[i] = plain(api.Choice, kid(i+1))
	}
	row[38], row[39] = node(api.Choice, 0, 1, kid(0), kid(39)), aNull
	const many = 4 << 20 // more than calls can stand within one another
	chain := repeat(many+3, alt(0))
	chain[many], chain[many+1], chain[many+2] = alt(1), leaf(api.Null, ""), absent
	endsSoon(t, "Encode", func() {
		wantRefused(t, "many Choices in one another", self, 0, api.ErrLong, chain[:many+2])
		wantNoTree(t, "many Choices, and something behind", self, 0, chain)
		wantNoTree(t, "many Choices without an end", self, 0, chain[:many+1])
		wantNoTree(t, "many Choices by a row of others", row, 0, chain[:many])
	})
	endsSoon(t, "Encode", func() {
		const many = 1 << 20
		values := append(repeat(many, leaf(api.Null, "")), leaf(api.Bool, "\x01"))
		for _, kind := range []int{api.SeqOf, api.SetOf} {
			list := []api.Node{plain(kind, kid(1)), aNull}
			values[0] = built(kind, many-1)
			wantRefused(t, "many values", list, 0, api.ErrLong, values[:many])
			wantNoTree(t, "many values, and something behind", list, 0, values)
			for _, kids := range extremes {
				if kids > 0 {
					values[0] = built(kind, kids)
					wantNoTree(t, "fewer or more than it says", list, 0, values[:20], values[:1])
				}
			}
		}
	})
	endsSoon(t, "Encode", func() {
		for _, schema := range [][]api.Node{self, row} {
			data := nest(990, 0xa0, "\x05\x00")
			values, _, _ := hallmark.Decode(schema, 0, data)
			wantTaken(t, "as many Choices as the bytes may reach", schema, 0, data, values...)
		}
		long := strings.Repeat("\x00", api.MaxLength)
		often := []api.Node{plain(api.SeqOf, kid(1)), plain(api.Seq, withDefault(2, element(4, long)), withDefault(3, element(0xc, long))), plain(api.Octets), plain(api.Utf8)}
		data := element(0x30, strings.Repeat("\x30\x00", 1990))
		values, _, _ := hallmark.Decode(often, 0, data)
		wantTaken(t, "long Defaults that are left out often", often, 0, data, values...)
	})
}

// What is handed in is not kept: other values in the same memory are other values.
func TestEncodeKeepsNothing(t *testing.T) {
	schema := []api.Node{plain(api.Seq, withDefault(1, "\x02\x01\x05"), optional(2)), anInt, aBool}
	values := tree(built(api.Seq, 2), number(5), absent)
	wantTaken(t, "first", schema, 0, "\x30\x00", values...)
	first, _ := hallmark.Encode(schema, 0, values)
	values[1], values[2] = number(6), leaf(api.Bool, "\xff")
	wantTaken(t, "then", schema, 0, "\x30\x06\x02\x01\x06\x01\x01\xff", values...)
	schema[0].Kids[0].Default = "\x02\x01\x06"
	wantTaken(t, "and then", schema, 0, "\x30\x03\x01\x01\xff", values...)
	if first != "\x30\x00" {
		t.Errorf("P2: an earlier answer has become %x", first)
	}
}
