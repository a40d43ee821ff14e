package hallmark_test

import (
	"math/rand"
	"reflect"
	"slices"
	"strings"
	"testing"
	"unicode/utf8"

	"hallmark/api"
	"hallmark/hallmark"
)

// cardSchema is that of the document's words on a card's bytes.
var cardSchema = []api.Node{
	plain(api.Seq, withDefault(1, "\xa0\x03\x02\x01\x00"), kid(2), kid(3), kid(6), kid(8), optional(9)),
	node(api.Int, 0, 1),
	anInt,
	plain(api.Choice, kid(4), kid(5)), plain(api.Printable), plain(api.Utf8),
	plain(api.Seq, kid(7), kid(7)), plain(api.Time),
	plain(api.Bits),
	node(api.SeqOf, 3, 1, kid(10)),
	plain(api.Seq, kid(11), withDefault(12, "\x01\x01\x00"), kid(13)), plain(api.Oid), aBool, plain(api.Octets),
}

// mayBe tells whether a text is a content of a kind, asked of Check, that has tests of its own.
func mayBe(kind int, text string) bool {
	return hallmark.Check(defaults(plain(kind), element(ownFirst[kind], text))) == api.OK
}

// cardFault is what is wrong with a card by the document's words, its length apart.
func cardFault(c api.Card) api.Errno {
	name := utf8.ValidString(c.Name) && len(c.Name) >= 1 && len(c.Name) <= 64
	times := mayBe(api.Time, c.From) && mayBe(api.Time, c.To) && strings.Compare(c.From, c.To) <= 0
	marks := len(c.Marks) == 0 || len(c.Marks) <= 8 && c.Version == 2
	if c.Version < 0 || c.Version > 2 || !mayBe(api.Int, c.Serial) || !name || !times || !mayBe(api.Bits, c.Key) || !marks {
		return api.ErrCard
	}
	kinds := map[string]int{}
	for _, m := range c.Marks {
		kinds[m.Kind]++
		var e api.Errno
		switch m.Kind {
		case limits:
			_, _, e = hallmark.Decode([]api.Node{plain(api.Seq, withDefault(1, "\x01\x01\x00"), optional(2)), aBool, anInt}, 0, m.Body)
		case uses:
			_, _, e = hallmark.Decode([]api.Node{plain(api.Bits)}, 0, m.Body)
		default:
			if m.Must || !mayBe(api.Oid, m.Kind) {
				e = api.ErrMark
			}
		}
		if e != api.OK || kinds[m.Kind] > 1 {
			return api.ErrMark
		}
	}
	return api.OK
}

// wantedCard is what ReadCard must answer, by the document's words and Decode.
func wantedCard(data string) (api.Card, int, api.Errno) {
	values, place, e := hallmark.Decode(cardSchema, 0, data)
	if e != api.OK {
		return api.Card{}, place, e
	}
	version := values[1].Text
	c := api.Card{Version: int(version[0]), Serial: values[2].Text, Name: values[4].Text, From: values[6].Text, To: values[7].Text, Key: values[8].Text}
	for i := range values[9].Kids {
		m := values[10+4*i:]
		c.Marks = append(c.Marks, api.Mark{Kind: m[1].Text, Must: m[2].Text != "\x00", Body: m[3].Text})
	}
	e = cardFault(c)
	if len(version) > 1 || values[3].Alt == 1 && mayBe(api.Printable, c.Name) || values[9].Kind == api.SeqOf && c.Marks == nil {
		e = api.ErrCard
	}
	if e != api.OK {
		return api.Card{}, 0, e
	}
	return c, 0, api.OK
}

// someCard is a random card, mostly a right one.
func someCard(r *rand.Rand) api.Card {
	times := []string{someContent(r, api.Time), someContent(r, api.Time)}
	slices.Sort(times)
	c := api.Card{Version: r.Intn(3), Serial: someContent(r, api.Int), Name: someName(r), From: times[0], To: times[1], Key: someContent(r, api.Bits)}
	if c.Version != 2 {
		return c
	}
	for range r.Intn(9) {
		m := someMark(r)
		if !slices.ContainsFunc(c.Marks, func(o api.Mark) bool { return o.Kind == m.Kind }) {
			c.Marks = append(c.Marks, m)
		}
	}
	return c
}

func someName(r *rand.Rand) string {
	name := []string{"Hay", "a*b", "\u00e9\u20ac", "key of Hay", "x@y", strings.Repeat("n", 64)}[r.Intn(6)]
	return name[:max(1, len(name)-3*r.Intn(2))]
}

func someMark(r *rand.Rand) api.Mark {
	switch r.Intn(3) {
	case 0:
		return api.Mark{Kind: limits, Must: r.Intn(2) == 0, Body: []string{"\x30\x00", "\x30\x03\x01\x01\xff", "\x30\x03\x02\x01\x03", "\x30\x06\x01\x01\xff\x02\x01\x03"}[r.Intn(4)]}
	case 1:
		return api.Mark{Kind: uses, Must: r.Intn(2) == 0, Body: element(3, someContent(r, api.Bits))}
	}
	kind := string([]byte{byte(r.Intn(128)), 0x81, byte(r.Intn(128))})
	return api.Mark{Kind: kind, Body: someContent(r, api.Octets)}
}

// spoiltCard changes a field or two.
func spoiltCard(r *rand.Rand, c api.Card) api.Card {
	c.Marks = slices.Clone(c.Marks)
	texts := []*string{&c.Serial, &c.Name, &c.From, &c.To, &c.Key}
	for range 1 + r.Intn(2) {
		switch i := r.Intn(10); {
		case i < 5:
			*texts[i] = broken(r, *texts[i])
		case i == 5:
			c.Version = []int{-1, 0, 1, 2, 3, 256, 258, extremes[r.Intn(len(extremes))]}[r.Intn(8)]
		case i == 6:
			c.From, c.To = c.To, c.From
		case i == 7:
			c.Marks = append(c.Marks, someMark(r), api.Mark{Kind: "\x01", Body: strings.Repeat("b", 2000*r.Intn(2))})
		case len(c.Marks) > 0:
			m := &c.Marks[r.Intn(len(c.Marks))]
			m.Kind, m.Must, m.Body = []string{m.Kind, m.Kind, broken(r, m.Kind), c.Marks[0].Kind}[r.Intn(4)], r.Intn(2) == 0, []string{m.Body, broken(r, m.Body), strings.Repeat("b", 3900)}[r.Intn(3)]
		}
	}
	return c
}

// Of random cards, as they are and spoilt, the answer is what the document's words are, and what is written is read.
func TestWriteCardTellsWhatIsWanted(t *testing.T) {
	r := rand.New(rand.NewSource(9))
	answers := map[api.Errno]int{}
	endsSoon(t, "WriteCard", func() {
		for range 60000 {
			c := someCard(r)
			if r.Intn(3) > 0 {
				c = spoiltCard(r, c)
			}
			same := c
			same.Marks = slices.Clone(c.Marks)
			want, wantE := "", cardFault(c)
			if wantE == api.OK {
				want = cardBytes(c)
			}
			if len(want) > 4000 {
				want, wantE = "", api.ErrLong
			}
			got, e := hallmark.WriteCard(c)
			if got != want || e != wantE {
				t.Fatalf("P7: WriteCard(%s) = %x, %d, want %x, %d", briefCard(c), got, e, want, wantE)
			}
			if !reflect.DeepEqual(c, same) {
				t.Fatalf("P2: WriteCard changed %s to %s", briefCard(same), briefCard(c))
			}
			answers[e]++
			if e != api.OK {
				continue
			}
			if back, place, e := hallmark.ReadCard(got); !sameCard(back, c) || place != 0 || e != api.OK {
				t.Fatalf("P8: WriteCard(%s) = %x, and that is read as %s, %d, %d", briefCard(c), got, briefCard(back), place, e)
			}
		}
	})
	for e, least := range map[api.Errno]int{api.OK: 10000, api.ErrCard: 10000, api.ErrMark: 1000, api.ErrLong: 100} {
		if answers[e] < least {
			t.Errorf("only %d answers of the number %d: they try too little", answers[e], e)
		}
	}
}

// Of bytes that are near to a card's, the answer is Decode's and then what the document's words are, and what is read is written again.
func TestReadCardTellsWhatIsWanted(t *testing.T) {
	r := rand.New(rand.NewSource(10))
	answers := map[api.Errno]int{}
	endsSoon(t, "ReadCard", func() {
		for range 60000 {
			c := someCard(r)
			if r.Intn(2) == 0 {
				c = spoiltCard(r, c)
			}
			parts := cardParts(c)
			switch r.Intn(8) {
			case 0:
				at := r.Intn(6)
				parts[at] = broken(r, parts[at])
			case 1:
				parts[r.Intn(6)] = ""
			case 2:
				parts[2] = element(12, c.Name)
			case 3:
				parts[5] = "\xa3\x02\x30\x00"
			}
			data := element(0x30, strings.Join(parts, ""))
			if r.Intn(8) == 0 {
				data = broken(r, data)
			}
			want, wantPlace, wantE := wantedCard(data)
			got, place, e := hallmark.ReadCard(data)
			if !sameCard(got, want) || place != wantPlace || e != wantE {
				t.Fatalf("P7: ReadCard(%x) = %s, %d, %d, want %s, %d, %d", data, briefCard(got), place, e, briefCard(want), wantPlace, wantE)
			}
			answers[e]++
			if again, told := hallmark.WriteCard(got); e == api.OK && (again != data || told != api.OK) {
				t.Fatalf("P8: ReadCard(%x) = %s, and that is written as %x, %d", data, briefCard(got), again, told)
			}
		}
	})
	for _, e := range []api.Errno{api.OK, api.ErrLong, api.ErrEnd, api.ErrTag, api.ErrLength, api.ErrValue, api.ErrMore, api.ErrDefault, api.ErrCard, api.ErrMark} {
		if answers[e] < 20 {
			t.Errorf("only %d answers of the number %d: they try too little", answers[e], e)
		}
	}
}

// Each byte of some cards in turn, as each other byte.
func TestReadCardEachByte(t *testing.T) {
	r := rand.New(rand.NewSource(11))
	for _, c := range []api.Card{aCard(), marked(api.Mark{Kind: uses, Must: true, Body: "\x03\x02\x01\x06"}, api.Mark{Kind: limits, Body: "\x30\x03\x02\x01\x07"}, api.Mark{Kind: other, Body: "b"}), someCard(r), someCard(r)} {
		right := []byte(cardBytes(c))
		for i := range right {
			b := slices.Clone(right)
			for value := range 256 {
				b[i] = byte(value)
				data := string(b)
				want, wantPlace, wantE := wantedCard(data)
				got, place, e := hallmark.ReadCard(data)
				if !sameCard(got, want) || place != wantPlace || e != wantE {
					t.Fatalf("P7: ReadCard(%x) = %s, %d, %d, want %s, %d, %d", data, briefCard(got), place, e, briefCard(want), wantPlace, wantE)
				}
				if again, _ := hallmark.WriteCard(got); e == api.OK && again != data {
					t.Fatalf("P8: ReadCard(%x) = %s, and that is written as %x", data, briefCard(got), again)
				}
			}
		}
	}
}

func TestCardsAtTheirBounds(t *testing.T) {
	r := rand.New(rand.NewSource(12))
	endsSoon(t, "cards", func() {
		long := strings.Repeat("\xff", 1<<25)
		wantNotWritten(t, "a card of noughts", api.Card{}, api.ErrCard)
		for i := range 5 {
			c := marked(unknown(2)...)
			*[]*string{&c.Serial, &c.Name, &c.From, &c.To, &c.Key}[i] = long
			wantNotWritten(t, "a very long text", c, api.ErrCard)
		}
		wantNotWritten(t, "a very long key", aCard(func(c *api.Card) { c.Key = "\x00" + long }), api.ErrLong)
		wantNotWritten(t, "a very long Body", marked(api.Mark{Kind: other, Body: long}), api.ErrLong)
		wantNotWritten(t, "a very long Body that is no bits", marked(api.Mark{Kind: uses, Body: long}), api.ErrMark)
		wantNotWritten(t, "a very long Body that is no limits", marked(api.Mark{Kind: limits, Body: long}), api.ErrMark)
		wantNotWritten(t, "bits that are too long for a head", marked(api.Mark{Kind: uses, Body: "\x03\x83\xff\xff\xff\x00" + long}), api.ErrMark)
		wantNotWritten(t, "very many marks", marked(make([]api.Mark, 1<<20)...), api.ErrCard)
		for _, first := range []string{"", "\x30\x00", "\x30\x83\xff\xff\xff", "\x1f"} {
			wantNotRead(t, "very many bytes", first+long, 0, api.ErrLong)
		}
		marks := element(0xa3, element(0x30, strings.Repeat("\x30\x05\x06\x01\x01\x04\x00", 550)))
		wantNotRead(t, "as many marks as the bytes may reach", withPart(aCard(), 5, marks), 0, api.ErrCard)
		for range 100000 {
			data := make([]byte, r.Intn(12))
			for i := range data {
				data[i] = []byte{byte(r.Intn(256)), byte(r.Intn(12)), 0x30, 0xa0, 0x02}[r.Intn(5)]
			}
			c, place, e := hallmark.ReadCard(string(data))
			if e == api.OK || !reflect.DeepEqual(c, api.Card{}) || place < 0 || place > len(data) {
				t.Fatalf("P1: ReadCard(%x) = %s, %d, %d", data, briefCard(c), place, e)
			}
		}
	})
}

// What comes out is the caller's: all of it may be written into.
func TestReadCardGivesNewLists(t *testing.T) {
	want := marked(unknown(5)...)
	data := cardBytes(want)
	mine := api.Mark{Kind: "mine"}
	var all [][]api.Mark
	for i := range 10 {
		got, _, e := hallmark.ReadCard(data)
		if e != api.OK || !sameCard(got, want) {
			t.Fatalf("P2: ReadCard number %d: %s, %d, though nothing but earlier answers was written into", i, briefCard(got), e)
		}
		for _, earlier := range all {
			for k, m := range earlier[:cap(earlier)] {
				if m != mine {
					t.Fatalf("P2: ReadCard number %d wrote into an earlier answer, at %d: %v", i, k, m)
				}
			}
		}
		room := got.Marks[:cap(got.Marks)]
		for k := range room {
			room[k] = mine
		}
		all = append(all, got.Marks)
	}
}

// What is handed in is not changed and not kept: other marks in the same memory are other marks.
func TestWriteCardKeepsNothing(t *testing.T) {
	room := append(make([]api.Mark, 0, 5), unknown(2)...)
	c := marked(room...)
	first, _ := hallmark.WriteCard(c)
	want := cardBytes(c)
	if first != want {
		t.Fatalf("P7: WriteCard(%s) = %x, want %x", briefCard(c), first, want)
	}
	if spare := room[2:5]; spare[0] != (api.Mark{}) || spare[1] != (api.Mark{}) || spare[2] != (api.Mark{}) {
		t.Error("P2: WriteCard wrote into the spare room of the marks")
	}
	c.Marks[0] = api.Mark{Kind: limits, Body: "\x30\x00"}
	wantCard(t, "then", c, cardBytes(c))
	c.Marks[1].Kind = limits
	wantNotWritten(t, "and then", c, api.ErrMark)
	if first != want {
		t.Errorf("P2: an earlier answer has become %x", first)
	}
}
