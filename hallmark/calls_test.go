package hallmark_test

import (
	"math/rand"
	"reflect"
	"strings"
	"testing"
	"time"

	"hallmark/api"
	"hallmark/hallmark"
)

// endsSoon fails if a call does not end within what is far more than it needs.
func endsSoon(t *testing.T, what string, call func()) {
	t.Helper()
	done := make(chan any)
	go func() {
		defer func() { done <- recover() }()
		call()
	}()
	select {
	case r := <-done:
		if r != nil {
			t.Errorf("P1: %s: panics: %v", what, r)
		}
	case <-time.After(20 * time.Second):
		t.Fatalf("P1: %s: does not end", what)
	}
}

var extremes = []int{-1 << 63, -1 << 32, -1 << 31, -256, -2, -1, 0, 1, 2, 15, 30, 31, 39, 40, 255, 256, 1 << 31, 1 << 32, 1<<63 - 1}

func TestHeadNeverPanics(t *testing.T) {
	r := rand.New(rand.NewSource(1))
	endsSoon(t, "Head", func() {
		for range 200000 {
			data := make([]byte, r.Intn(8))
			for i := range data {
				data[i] = byte(r.Intn(256))
				if i == 1 && r.Intn(2) == 0 {
					data[i] = byte(126 + r.Intn(8))
				}
			}
			h, e := hallmark.Head(string(data))
			if e != api.OK && h != (api.Head{}) {
				t.Errorf("P1: Head(%x) = %+v beside %d", data, h, e)
			}
			if s, again := hallmark.Tell(h); e == api.OK && (s != string(data[:h.Size]) || again != api.OK) {
				t.Errorf("P3: Tell(%+v) = %x, %d, not what Head took: %x", h, s, again, data)
			}
		}
		long := strings.Repeat("\xff", 1<<25)
		for _, first := range []string{"", "\x04\x00", "\x04\x83\xff\xff\xff", "\x04\x84", "\x1f"} {
			hallmark.Head(first + long)
		}
	})
}

func TestTellNeverPanics(t *testing.T) {
	endsSoon(t, "Tell", func() {
		for _, class := range extremes {
			for _, number := range extremes {
				for _, length := range extremes {
					s, e := hallmark.Tell(api.Head{Class: class, Built: true, Number: number, Size: length, Length: length})
					if (e == api.OK) != (len(s) > 1) || e != api.OK && s != "" {
						t.Errorf("P1: Tell of %d, %d, %d: %x, %d", class, number, length, s, e)
					}
				}
			}
		}
	})
}

// randomSchema is a schema that is mostly near to a right one.
func randomSchema(r *rand.Rand) []api.Node {
	pick := func(usual, count int) int {
		if r.Intn(40) == 0 {
			return extremes[r.Intn(len(extremes))]
		}
		return usual + r.Intn(count)
	}
	nodes := make([]api.Node, 1+r.Intn(8))
	for i := range nodes {
		n := &nodes[i]
		n.Kind, n.Tag = pick(1, 14), -1
		if r.Intn(2) == 0 {
			n.Tag, n.Mode = pick(0, 31), pick(0, 2)
		}
		if n.Kind >= api.Seq {
			n.Kids = make([]api.Kid, r.Intn(4))
		}
		for k := range n.Kids {
			n.Kids[k] = api.Kid{Node: pick(0, len(nodes)), Optional: r.Intn(3) == 0}
			if r.Intn(5) == 0 {
				n.Kids[k].Default = string([]byte{byte(r.Intn(256)), byte(r.Intn(3)), byte(r.Intn(256))})
			}
		}
	}
	return nodes
}

// copied shares nothing with the schema, and has the spare room of its lists too.
func copied(schema []api.Node) []api.Node {
	c := append([]api.Node(nil), schema[:cap(schema)]...)
	for i := range c {
		if c[i].Kids != nil {
			kids := c[i].Kids
			c[i].Kids = append([]api.Kid{}, kids[:cap(kids)]...)[:len(kids)]
		}
	}
	return c[:len(schema)]
}

func TestCheckNeverPanicsAndChangesNothing(t *testing.T) {
	r := rand.New(rand.NewSource(2))
	right := 0
	endsSoon(t, "Check", func() {
		for range 100000 {
			schema := randomSchema(r)
			before := copied(schema)
			e := hallmark.Check(schema)
			if !reflect.DeepEqual(schema, before) {
				t.Fatalf("P2: Check changed %+v to %+v", before, schema)
			}
			if e != api.OK && e != api.ErrSchema {
				t.Fatalf("P4: Check(%+v) = %d", schema, e)
			}
			if e == api.OK {
				right++
			}
			if again := hallmark.Check(before); again != e {
				t.Fatalf("P2: Check(%+v) = %d, then %d", schema, e, again)
			}
		}
	})
	if right < 1000 || right > 99000 {
		t.Errorf("%d of 100000 schemas are right: they try too little", right)
	}
}

func TestCheckAtItsBounds(t *testing.T) {
	endsSoon(t, "Check", func() {
		for _, a := range extremes {
			for _, b := range extremes {
				hallmark.Check([]api.Node{plain(api.Seq, kid(a), optional(b)), anInt})
				hallmark.Check([]api.Node{plain(api.Choice, kid(a), kid(b)), anInt})
				hallmark.Check([]api.Node{node(a, b, 0), anInt})
				hallmark.Check([]api.Node{node(a, 0, b, kid(1)), anInt})
				hallmark.Check([]api.Node{node(api.Choice, a, b, kid(0)), anInt})
			}
		}
		wantAll(t, api.ErrSchema, []checked{
			{"a nil list", nil},
			{"a node of noughts", make([]api.Node, 1)},
			{"very many kids", []api.Node{plain(api.Seq, make([]api.Kid, 1000000)...)}},
			{"very many kids of a Choice", []api.Node{plain(api.Choice, make([]api.Kid, 1000000)...)}},
			{"a very long Default of an Int", defaults(anInt, element(2, strings.Repeat("\x01", api.MaxLength)))},
			{"a Default that is too long to be told", defaults(plain(api.Octets), "\x04\x83\xff\xff\xff"+strings.Repeat("\x00", 1<<25))},
			{"a very long text of no head", defaults(anInt, strings.Repeat("\xff", 1<<25))},
		})
		wantAll(t, api.OK, []checked{
			{"a list that is empty, not nil", []api.Node{{Kind: api.Seq, Tag: -1, Kids: []api.Kid{}}}},
			{"the longest Default that can be told", defaults(plain(api.Octets), element(4, strings.Repeat("\x00", api.MaxLength)))},
		})
	})
}

// Choices that lead to each other by very many ways: each may be gone through once alone.
func TestCheckEndsWhereWaysAreMany(t *testing.T) {
	forward := make([]api.Node, 40)
	for i := range forward {
		forward[i] = plain(api.Choice)
		for k := 1; k <= 8; k++ {
			forward[i].Kids = append(forward[i].Kids, kid(min(i+k, 39)))
		}
	}
	forward[39] = anInt
	around := make([]api.Node, 40)
	for i := range around {
		around[i] = plain(api.Choice)
		for k := range 8 {
			around[i].Kids = append(around[i].Kids, kid((i*7+k*5+1)%40))
		}
	}
	row := make([]api.Node, 40)
	for i := range row {
		row[i] = plain(api.Choice, kid(i+1))
	}
	row[39] = anInt
	endsSoon(t, "Choices of Choices", func() {
		wantAll(t, api.ErrSchema, []checked{{"forward", forward}, {"around", around}})
		wantAll(t, api.OK, []checked{{"in a row", row}})
	})
}

func TestCheckKeepsNothing(t *testing.T) {
	room := make([]api.Node, 3, 10)
	for i := range room[:10] {
		room[:10][i] = plain(api.Null, make([]api.Kid, 0, 3)...)
	}
	kids := append(make([]api.Kid, 0, 5), kid(1), withDefault(2, "\x01\x01\xff"))
	room[0], room[1], room[2] = plain(api.Seq, kids...), anInt, aBool
	before := copied(room)
	want := []api.Errno{api.OK, api.ErrSchema, api.OK}
	for i, e := range want {
		room[2].Kind = api.Bool
		if e != api.OK {
			room[2].Kind = api.Int
		}
		if got := hallmark.Check(room); got != e {
			t.Errorf("P2: Check number %d: %d, want %d: it hangs on an earlier one", i, got, e)
		}
	}
	if !reflect.DeepEqual(room[:cap(room)], before[:cap(before)]) {
		t.Error("P2: Check wrote into the spare room of the schema")
	}
	if spare := room[0].Kids[:5]; spare[2] != (api.Kid{}) || spare[3] != (api.Kid{}) || spare[4] != (api.Kid{}) {
		t.Error("P2: Check wrote into the spare room of the kids")
	}
}
