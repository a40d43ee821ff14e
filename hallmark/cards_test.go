package hallmark_test

import (
	"fmt"
	"reflect"
	"strings"
	"testing"

	"hallmark/api"
	"hallmark/hallmark"
)

const (
	early, late  = "19990101000000Z", "20240229235959Z"
	limits, uses = "\x55\x1d\x13", "\x55\x1d\x0f"
	other        = "\x2a\x03"
)

// aCard is a right one of the version 2; each of these changes it.
func aCard(changes ...func(*api.Card)) api.Card {
	c := api.Card{Version: 2, Serial: "\x05", Name: "Hay", From: early, To: late, Key: "\x00key"}
	for _, change := range changes {
		change(&c)
	}
	return c
}

func marked(marks ...api.Mark) api.Card { return aCard(func(c *api.Card) { c.Marks = marks }) }

// unknown is so many marks that are not known, each of another Kind.
func unknown(count int) []api.Mark {
	var marks []api.Mark
	for i := range count {
		marks = append(marks, api.Mark{Kind: string([]byte{0x2a, byte(i)}), Body: strings.Repeat("b", i)})
	}
	return marks
}

// cardParts is the elements that a card is of, by the document's words: version, serial, name, times, key, marks.
func cardParts(c api.Card) []string {
	version, name, marks := "", element(19, c.Name), ""
	if c.Version != 0 {
		version = element(0xa0, element(2, string([]byte{byte(c.Version)})))
	}
	if strings.Trim(c.Name, "ABCDEFGHIJKLMNOPQRSTUVWXYZabcdefghijklmnopqrstuvwxyz0123456789 '()+,-./:=?") != "" {
		name = element(12, c.Name)
	}
	for _, m := range c.Marks {
		must := ""
		if m.Must {
			must = "\x01\x01\xff"
		}
		marks += element(0x30, element(6, m.Kind)+must+element(4, m.Body))
	}
	if marks != "" {
		marks = element(0xa3, element(0x30, marks))
	}
	return []string{version, element(2, c.Serial), name, element(0x30, element(24, c.From)+element(24, c.To)), element(3, c.Key), marks}
}

func cardBytes(c api.Card) string { return element(0x30, strings.Join(cardParts(c), "")) }

// withPart is the bytes of a card one of whose elements is another one.
func withPart(c api.Card, part int, bytes string) string {
	parts := cardParts(c)
	parts[part] = bytes
	return element(0x30, strings.Join(parts, ""))
}

// placeOf is where an element of a card begins.
func placeOf(c api.Card, part int) int {
	whole := strings.Join(cardParts(c), "")
	return len(element(0x30, whole)) - len(whole) + len(strings.Join(cardParts(c)[:part], ""))
}

func sameCard(a, b api.Card) bool {
	a.Marks, b.Marks = append([]api.Mark{}, a.Marks...), append([]api.Mark{}, b.Marks...)
	return reflect.DeepEqual(a, b)
}

// briefCard is a card as a test that fails shows it.
func briefCard(c api.Card) string {
	text := fmt.Sprintf("{%d %.40x %.70q %.20q %.20q %.40x, %d marks:", c.Version, c.Serial, c.Name, c.From, c.To, c.Key, len(c.Marks))
	for _, m := range c.Marks[:min(len(c.Marks), 9)] {
		text += fmt.Sprintf(" {%.40x %v %.40x}", m.Kind, m.Must, m.Body)
	}
	return text + "}"
}

// wantCard holds a right card against its bytes, both ways.
func wantCard(t *testing.T, what string, c api.Card, bytes string) {
	t.Helper()
	if got, e := hallmark.WriteCard(c); got != bytes || e != api.OK {
		t.Errorf("P7: %s: WriteCard(%s) = %.300x, %d, want %.300x", what, briefCard(c), got, e, bytes)
	}
	if got, place, e := hallmark.ReadCard(bytes); !sameCard(got, c) || place != 0 || e != api.OK {
		t.Errorf("P7: %s: ReadCard(%.300x) = %s, %d, %d, want %s", what, bytes, briefCard(got), place, e, briefCard(c))
	}
}

func wantNotRead(t *testing.T, what, data string, place int, want api.Errno) {
	t.Helper()
	if c, at, e := hallmark.ReadCard(data); !reflect.DeepEqual(c, api.Card{}) || at != place || e != want {
		t.Errorf("P7: %s: ReadCard(%.300x) = %s, %d, %d, want %d, %d", what, data, briefCard(c), at, e, place, want)
	}
}

func wantNotWritten(t *testing.T, what string, c api.Card, want api.Errno) {
	t.Helper()
	if data, e := hallmark.WriteCard(c); data != "" || e != want {
		t.Errorf("P7: %s: WriteCard(%s) = %.300x, %d, want %d", what, briefCard(c), data, e, want)
	}
}

// wantNoCard holds what is no card against both calls.
func wantNoCard(t *testing.T, what string, c api.Card, want api.Errno) {
	t.Helper()
	wantNotWritten(t, what, c, want)
	wantNotRead(t, what, cardBytes(c), 0, want)
}

// The bytes as the document tells them, written out.
func TestCardBytes(t *testing.T) {
	const times = "\x30\x22\x18\x0f" + early + "\x18\x0f" + late
	const key = "\x03\x04\x00key"
	wantCard(t, "version 0", aCard(func(c *api.Card) { c.Version = 0 }), "\x30\x32\x02\x01\x05\x13\x03Hay"+times+key)
	wantCard(t, "version 1", aCard(func(c *api.Card) { c.Version = 1 }), "\x30\x37\xa0\x03\x02\x01\x01\x02\x01\x05\x13\x03Hay"+times+key)
	wantCard(t, "version 2", aCard(), "\x30\x37\xa0\x03\x02\x01\x02\x02\x01\x05\x13\x03Hay"+times+key)
	wantCard(t, "a name that is not Printable", aCard(func(c *api.Card) { c.Name = "H\u00e4y" }), "\x30\x38\xa0\x03\x02\x01\x02\x02\x01\x05\x0c\x04H\xc3\xa4y"+times+key)
	wantCard(t, "a mark", marked(api.Mark{Kind: other, Body: "body"}), "\x30\x47\xa0\x03\x02\x01\x02\x02\x01\x05\x13\x03Hay"+times+key+"\xa3\x0e\x30\x0c\x30\x0a\x06\x02\x2a\x03\x04\x04body")
	wantCard(t, "marks that are known", marked(api.Mark{Kind: uses, Must: true, Body: "\x03\x02\x01\x06"}, api.Mark{Kind: limits, Body: "\x30\x00"}),
		"\x30\x56\xa0\x03\x02\x01\x02\x02\x01\x05\x13\x03Hay"+times+key+"\xa3\x1d\x30\x1b\x30\x0e\x06\x03\x55\x1d\x0f\x01\x01\xff\x04\x04\x03\x02\x01\x06\x30\x09\x06\x03\x55\x1d\x13\x04\x02\x30\x00")
}

func TestCardVersions(t *testing.T) {
	for version := range 3 {
		c := aCard(func(c *api.Card) { c.Version = version })
		wantCard(t, "a version", c, cardBytes(c))
	}
	for _, version := range []int{-1 << 63, -1 << 32, -256, -255, -254, -3, -2, -1, 3, 4, 127, 128, 255, 256, 257, 258, 1<<16 + 1, 1<<32 + 2, 1<<63 - 1} {
		wantNotWritten(t, "no version", aCard(func(c *api.Card) { c.Version = version }), api.ErrCard)
	}
	for _, text := range []string{"\x03", "\x7f", "\x80", "\xfe", "\xff", "\x00\x80", "\x01\x00", "\x01\x01", "\x01\x02", "\xff\x02", strings.Repeat("\x01", 19) + "\x02", "\x01" + strings.Repeat("\x00", 19)} {
		wantNotRead(t, "no version", withPart(aCard(), 0, element(0xa0, element(2, text))), 0, api.ErrCard)
	}
	wantNotRead(t, "version 0 that is told", withPart(aCard(), 0, "\xa0\x03\x02\x01\x00"), 2, api.ErrDefault)
	wantNotRead(t, "a version without its Tag", withPart(aCard(), 0, "\x02\x01\x02"), 5, api.ErrTag)
	wantNotRead(t, "a version in the place of its tag", withPart(aCard(), 0, "\x80\x01\x02"), 2, api.ErrTag)
	wantNotRead(t, "a version of no content", withPart(aCard(), 0, "\xa0\x02\x02\x00"), 4, api.ErrValue)
	wantNotRead(t, "a version told too long", withPart(aCard(), 0, "\xa0\x04\x02\x02\x00\x01"), 4, api.ErrValue)
}

// The contents of kinds that a card's texts are: those that may not be are no card, and bytes of no value.
func TestCardContents(t *testing.T) {
	fields := []struct {
		kind, part, behind int // behind: so many bytes behind the beginning of the part
		set                func(*api.Card, string)
	}{
		{api.Int, 1, 0, func(c *api.Card, s string) { c.Serial = s }},
		{api.Time, 3, 2, func(c *api.Card, s string) { c.From, c.To = s, "99991231235959Z" }},
		{api.Time, 3, 19, func(c *api.Card, s string) { c.From, c.To = "00000101000000Z", s }},
		{api.Bits, 4, 0, func(c *api.Card, s string) { c.Key = s }},
	}
	for _, f := range fields {
		for _, known := range contents {
			if known.kind != f.kind {
				continue
			}
			for _, text := range known.right {
				c := aCard(func(c *api.Card) { f.set(c, text) })
				wantCard(t, "a right content", c, cardBytes(c))
			}
			for _, text := range known.wrong {
				c := aCard(func(c *api.Card) { f.set(c, text) })
				wantNotWritten(t, "a wrong content", c, api.ErrCard)
				if len(text) < 100 {
					wantNotRead(t, "a wrong content", cardBytes(c), placeOf(c, f.part)+f.behind, api.ErrValue)
				}
			}
		}
	}
}

func TestCardNames(t *testing.T) {
	named := func(name string) api.Card { return aCard(func(c *api.Card) { c.Name = name }) }
	for _, name := range []string{"a", " ", "*", "\x00", "\u00e9", "a*b", "a@b", "AZ az 09 '()+,-./:=?", strings.Repeat("n", 63), strings.Repeat("n", 64), strings.Repeat("n", 63) + "*", strings.Repeat("\u00e9", 32), strings.Repeat("\U0001f600", 16), strings.Repeat("n", 61) + "\u20ac", "\ufffd"} {
		wantCard(t, "a name", named(name), cardBytes(named(name)))
	}
	for _, name := range []string{"", strings.Repeat("n", 65), strings.Repeat("n", 64) + "*", strings.Repeat("\u00e9", 33), strings.Repeat("n", 62) + "\u20ac", strings.Repeat("n", 1000)} {
		wantNoCard(t, "no name", named(name), api.ErrCard)
		wantNotRead(t, "no name, as Utf8", withPart(aCard(), 2, element(12, name)), 0, api.ErrCard)
	}
	for _, name := range []string{"\xff", "\x80", "a\xc3", "\xc0\x80", "\xed\xa0\x80", strings.Repeat("n", 63) + "\xe2"} {
		wantNotWritten(t, "not UTF-8", named(name), api.ErrCard)
		wantNotRead(t, "not UTF-8", withPart(aCard(), 2, element(12, name)), 10, api.ErrValue)
	}
	wantNotWritten(t, "a very long name", named(strings.Repeat("n", 1<<22)), api.ErrCard)
	for _, first := range []byte{4, 22, 30, 0x2c, 0x33, 0x8c, 0x93} {
		wantNotRead(t, "a name of another kind", withPart(aCard(), 2, element(first, "Hay")), 10, api.ErrTag)
	}
}

// Each byte by itself: Printable if it may be, else Utf8, and never the other way.
func TestCardNamesOfOneByte(t *testing.T) {
	for b := range 128 {
		name := string([]byte{byte(b)})
		printable := strings.Contains("ABCDEFGHIJKLMNOPQRSTUVWXYZabcdefghijklmnopqrstuvwxyz0123456789 '()+,-./:=?", name)
		c := aCard(func(c *api.Card) { c.Name = name })
		as := func(first byte) string { return withPart(c, 2, element(first, name)) }
		if printable {
			wantCard(t, "Printable", c, as(19))
			wantNotRead(t, "Utf8, though it may be Printable", as(12), 0, api.ErrCard)
			continue
		}
		wantCard(t, "Utf8", c, as(12))
		wantNotRead(t, "no Printable", as(19), 10, api.ErrValue)
	}
}

func TestCardTimes(t *testing.T) {
	timed := func(from, to string) api.Card {
		return aCard(func(c *api.Card) { c.From, c.To = from, to })
	}
	rising := []string{"00000101000000Z", "00000101000001Z", "19991231235959Z", "20000101000000Z", "20240228235959Z", "20240229000000Z", "20240301000000Z", "20241001000000Z", "20241001000100Z", "20241001010000Z", "99991231235959Z"}
	for i, from := range rising {
		for k, to := range rising {
			if c := timed(from, to); i <= k {
				wantCard(t, "From not behind To", c, cardBytes(c))
			} else {
				wantNoCard(t, "From behind To", c, api.ErrCard)
			}
		}
	}
	one := element(24, early)
	wantNotRead(t, "one time", withPart(aCard(), 3, element(0x30, one)), placeOf(aCard(), 3)+2+len(one), api.ErrEnd)
	wantNotRead(t, "three times", withPart(aCard(), 3, element(0x30, one+one+one)), placeOf(aCard(), 3)+2+2*len(one), api.ErrMore)
}

func TestCardMarksCount(t *testing.T) {
	for count := range 12 {
		for version := range 3 {
			c := aCard(func(c *api.Card) { c.Version, c.Marks = version, unknown(count) })
			if count == 0 || count <= 8 && version == 2 {
				wantCard(t, "so many marks", c, cardBytes(c))
			} else {
				wantNoCard(t, "too many marks", c, api.ErrCard)
			}
		}
	}
	none := aCard(func(c *api.Card) { c.Marks = []api.Mark{} })
	wantCard(t, "a list that is empty, not nil", none, cardBytes(none))
	for version := range 3 {
		c := aCard(func(c *api.Card) { c.Version = version })
		wantNotRead(t, "an empty list of marks", withPart(c, 5, "\xa3\x02\x30\x00"), 0, api.ErrCard)
	}
	wantNotRead(t, "nothing in the Tag of marks", withPart(aCard(), 5, "\xa3\x00"), placeOf(aCard(), 5)+2, api.ErrEnd)
	wantNotRead(t, "two lists of marks", withPart(aCard(), 5, "\xa3\x04\x30\x00\x30\x00"), placeOf(aCard(), 5)+4, api.ErrMore)
}

func TestCardMarksOfOneKind(t *testing.T) {
	body := map[string]string{limits: "\x30\x00", uses: "\x03\x01\x00"}
	for count := 2; count <= 8; count++ {
		for i := range count {
			for k := range i {
				for _, kind := range []string{limits, uses, other} {
					c := marked(unknown(count)...)
					c.Marks[i] = api.Mark{Kind: kind, Body: body[kind]}
					c.Marks[k] = api.Mark{Kind: kind, Body: body[kind]}
					if kind == other {
						c.Marks[k].Body = "not the same"
					}
					wantNoCard(t, "two of a Kind", c, api.ErrMark)
				}
			}
		}
	}
	alike := marked(api.Mark{Kind: "\x2a", Body: "b"}, api.Mark{Kind: "\x2a\x00", Body: "b"}, api.Mark{Kind: "\x00\x2a", Body: "b"})
	wantCard(t, "other Kinds, one Body", alike, cardBytes(alike))
	falling := marked(api.Mark{Kind: "\x7f"}, api.Mark{Kind: "\x01"}, api.Mark{Kind: "\x2a"})
	wantCard(t, "in any order", falling, cardBytes(falling))
}

func TestCardMarkKinds(t *testing.T) {
	for _, c := range contents {
		if c.kind != api.Oid {
			continue
		}
		for _, kind := range c.right {
			if kind != limits {
				c := marked(api.Mark{Kind: kind})
				wantCard(t, "a Kind", c, cardBytes(c))
			}
		}
		for _, kind := range c.wrong {
			c := marked(api.Mark{Kind: other}, api.Mark{Kind: kind})
			wantNotWritten(t, "no Kind", c, api.ErrMark)
			place := len(cardBytes(c)) - len(element(6, kind)) - len(element(4, ""))
			wantNotRead(t, "no Kind", cardBytes(c), place, api.ErrValue)
		}
	}
	wantNotWritten(t, "a very long Kind", marked(api.Mark{Kind: strings.Repeat("\x01", 1<<22)}), api.ErrMark)
}

// A mark that is not known has no Must, however near its Kind is to one that is; its Body is any bytes.
func TestCardMarksThatAreNotKnown(t *testing.T) {
	for _, kind := range []string{other, "\x00", "\x55\x1d", "\x55\x1d\x12", "\x55\x1d\x14", "\x55\x1d\x0e", "\x55\x1d\x10", "\x55\x1c\x13", "\x54\x1d\x0f", "\x55\x1d\x13\x00", "\x55\x1d\x0f\x00", "\x55\x1d\x93\x00", "\x1d\x13"} {
		for _, body := range []string{"", "b", "\x30\x00", "\x03\x01\x00", "\xff\x80", strings.Repeat("\x00", 127), strings.Repeat("\x00", 128), strings.Repeat("x", 3000)} {
			c := marked(api.Mark{Kind: kind, Body: body})
			wantCard(t, "not known", c, cardBytes(c))
			c.Marks[0].Must = true
			wantNoCard(t, "not known, Must", c, api.ErrMark)
		}
	}
	c := marked(append(unknown(7), api.Mark{Kind: other + other, Must: true})...)
	wantNoCard(t, "the last one has Must", c, api.ErrMark)
}

func TestCardMarksThatAreKnown(t *testing.T) {
	long := strings.Repeat("\x7f", 20)
	right := map[string][]string{
		limits: {"\x30\x00", "\x30\x03\x01\x01\xff", "\x30\x03\x02\x01\x00", "\x30\x03\x02\x01\xff", "\x30\x06\x01\x01\xff\x02\x01\x03", "\x30\x04\x02\x02\x01\x00", "\x30\x19\x01\x01\xff\x02\x14" + long},
		uses:   {"\x03\x01\x00", "\x03\x02\x00\x00", "\x03\x02\x01\x06", "\x03\x02\x07\x80", "\x03\x03\x03\xff\xf8", element(3, "\x00"+strings.Repeat("\x01", 126)), element(3, "\x00"+strings.Repeat("\x01", 127)), element(3, "\x00"+strings.Repeat("\x01", 3000))},
	}
	wrong := map[string][]string{
		limits: {"", "\x30", "\x30\x01", "\x30\x00\x00", "\x30\x03\x01\x01\x00", "\x30\x03\x01\x01\x01", "\x30\x04\x02\x02\x00\x05", "\x30\x06\x02\x01\x03\x01\x01\xff", "\x30\x06\x01\x01\x00\x02\x01\x03", "\x30\x02\x05\x00", "\x30\x06\x02\x01\x03\x02\x01\x04", "\x30\x09\x01\x01\xff\x02\x01\x03\x02\x01\x03", "\x31\x00", "\x10\x00", "\x03\x01\x00", "\x30\x81\x00", "\x30\x80", "\x30\x02\x02\x00", "\x30\x17\x02\x15\x7f" + long, "\x01\x01\xff", strings.Repeat("\x30", 3000)},
		uses:   {"", "\x03", "\x03\x00", "\x03\x01", "\x03\x01\x01", "\x03\x02\x08\x00", "\x03\x02\x01\x07", "\x03\x01\x00\x00", "\x23\x01\x00", "\x04\x01\x00", "\x83\x01\x00", "\x03\x81\x01\x00", "\x03\x80\x00\x00", "\x30\x00", "\x00", "\x06\x00", "\xa0\x03\x03\x01\x00", element(3, strings.Repeat("\x01", 3000))},
	}
	for _, must := range []bool{false, true} {
		for _, kind := range []string{limits, uses} {
			for _, body := range right[kind] {
				c := marked(api.Mark{Kind: other}, api.Mark{Kind: kind, Must: must, Body: body})
				wantCard(t, "a right Body", c, cardBytes(c))
			}
			for _, body := range wrong[kind] {
				wantNoCard(t, "a wrong Body", marked(api.Mark{Kind: other}, api.Mark{Kind: kind, Must: must, Body: body}), api.ErrMark)
				wantNoCard(t, "a wrong Body ahead", marked(api.Mark{Kind: kind, Must: must, Body: body}, api.Mark{Kind: other}), api.ErrMark)
			}
		}
	}
	c := marked(api.Mark{Kind: limits, Must: true, Body: "\x30\x00"}, api.Mark{Kind: uses, Body: "\x03\x01\x00"}, api.Mark{Kind: other, Body: "b"})
	wantCard(t, "all of them", c, cardBytes(c))
}

// What is no card is told ahead of what is wrong with a mark, and that ahead of too many bytes.
func TestCardFirstFault(t *testing.T) {
	wrongMark := []api.Mark{{Kind: other, Must: true}}
	for what, change := range map[string]func(*api.Card){
		"version": func(c *api.Card) { c.Version = 3 },
		"marks":   func(c *api.Card) { c.Version = 1 },
		"name":    func(c *api.Card) { c.Name = "" },
		"times":   func(c *api.Card) { c.From, c.To = late, early },
		"count":   func(c *api.Card) { c.Marks = append(unknown(8), wrongMark...) },
	} {
		wantNoCard(t, what+" and a mark", aCard(func(c *api.Card) { c.Marks = wrongMark }, change), api.ErrCard)
		long := aCard(func(c *api.Card) { c.Key, c.Marks = "\x00"+strings.Repeat("k", 4000), wrongMark }, change)
		wantNotWritten(t, what+", a mark, and too many bytes", long, api.ErrCard)
	}
	for what, change := range map[string]func(*api.Card){
		"serial": func(c *api.Card) { c.Serial = "" },
		"UTF-8":  func(c *api.Card) { c.Name = "\xff" },
		"From":   func(c *api.Card) { c.From = "" },
		"To":     func(c *api.Card) { c.To = "20230229000000Z" },
		"key":    func(c *api.Card) { c.Key = "" },
	} {
		wantNotWritten(t, what+" and a mark", aCard(func(c *api.Card) { c.Marks = wrongMark }, change), api.ErrCard)
		wantNotWritten(t, what+" and too many bytes", aCard(func(c *api.Card) { c.Marks = []api.Mark{{Kind: other, Body: strings.Repeat("b", 4000)}} }, change), api.ErrCard)
	}
	long := aCard(func(c *api.Card) { c.Key, c.Marks = "\x00"+strings.Repeat("k", 4000), wrongMark })
	wantNotWritten(t, "a mark and too many bytes", long, api.ErrMark)
	named := marked(wrongMark...)
	wantNotRead(t, "a name that is not as it must be, and a mark", withPart(named, 2, element(12, "Hay")), 0, api.ErrCard)
	wantNotRead(t, "what is wrong with the bytes, and no card", withPart(aCard(func(c *api.Card) { c.Version = 3 }), 5, "\xa3\x02\x30\x01"), placeOf(aCard(), 5)+2, api.ErrEnd)
	wantNotRead(t, "too much behind, and no card", cardBytes(named)+"\x00", len(cardBytes(named)), api.ErrMore)
}

// Cards of 4000 bytes and of one more, by their key and by a Body.
func TestCardLong(t *testing.T) {
	for what, change := range map[string]func(*api.Card, int){
		"key":         func(c *api.Card, n int) { c.Key = "\x00" + strings.Repeat("k", n) },
		"a Body":      func(c *api.Card, n int) { c.Marks = []api.Mark{{Kind: other, Body: strings.Repeat("b", n)}} },
		"many Bodies": func(c *api.Card, n int) { c.Marks = unknown(8); c.Marks[3].Body = strings.Repeat("b", n) },
		"a Body of use": func(c *api.Card, n int) {
			c.Marks = []api.Mark{{Kind: uses, Body: element(3, strings.Repeat("\x00", n))}}
		},
	} {
		sized := func(n int) api.Card { return aCard(func(c *api.Card) { change(c, n) }) }
		most := 4000 - (len(cardBytes(sized(3500))) - 3500)
		if len(cardBytes(sized(most))) != 4000 {
			t.Fatalf("the test made a card of %d bytes", len(cardBytes(sized(most))))
		}
		wantCard(t, what+", 4000 bytes", sized(most), cardBytes(sized(most)))
		wantNoCard(t, what+", 4001 bytes", sized(most+1), api.ErrLong)
		for _, n := range []int{3990, 3996, 4000, 4001, 5000, 65536, 1 << 22} {
			wantNotWritten(t, what+", many bytes", sized(n), api.ErrLong)
		}
	}
	wantNotRead(t, "4001 bytes of nothing", strings.Repeat("\x00", 4001), 0, api.ErrLong)
	wantNotRead(t, "4001 bytes, no card", cardBytes(aCard(func(c *api.Card) { c.Key, c.Version = "\x00"+strings.Repeat("k", 4000), 3 })), 0, api.ErrLong)
}

// The Body of a known mark may be longer than any card: it is held against what it must be all the same.
func TestCardLongBodies(t *testing.T) {
	for _, n := range []int{3998, 4000, 5000, 1 << 20, api.MaxLength} {
		zeros := strings.Repeat("\x00", n)
		use := element(3, zeros)
		wantNotWritten(t, "long bits", marked(api.Mark{Kind: uses, Body: use}), api.ErrLong)
		wantNotWritten(t, "long bits, Must", marked(api.Mark{Kind: uses, Must: true, Body: use}), api.ErrLong)
		wantNotWritten(t, "long bits that are none", marked(api.Mark{Kind: uses, Body: element(3, "\x08"+zeros[1:])}), api.ErrMark)
		wantNotWritten(t, "long bits with something behind", marked(api.Mark{Kind: uses, Body: use + "\x00"}), api.ErrMark)
		wantNotWritten(t, "long bits that end", marked(api.Mark{Kind: uses, Body: use[:len(use)-1]}), api.ErrMark)
		wantNotWritten(t, "long octets", marked(api.Mark{Kind: uses, Body: element(4, zeros)}), api.ErrMark)
		wantNotWritten(t, "long limits", marked(api.Mark{Kind: limits, Body: element(0x30, zeros)}), api.ErrMark)
		wantNotWritten(t, "limits with much behind", marked(api.Mark{Kind: limits, Body: "\x30\x00" + zeros}), api.ErrMark)
		wantNotWritten(t, "long, and two of a Kind", marked(api.Mark{Kind: uses, Body: use}, api.Mark{Kind: uses, Body: use}), api.ErrMark)
	}
}

// What the bytes of a mark must be.
func TestCardMarkBytes(t *testing.T) {
	base := marked(api.Mark{Kind: uses, Must: true, Body: "\x03\x01\x00"})
	at := placeOf(base, 5) + 4 // where the mark begins
	with := func(mark string) string { return withPart(base, 5, element(0xa3, element(0x30, mark))) }
	const kind, yes, body = "\x06\x03" + uses, "\x01\x01\xff", "\x04\x03\x03\x01\x00"
	wantCard(t, "as it must be", base, with(element(0x30, kind+yes+body)))
	for _, c := range []struct {
		what, mark string
		behind     int
		e          api.Errno
	}{
		{"nothing", "\x30\x00", 2, api.ErrEnd},
		{"no Body", element(0x30, kind), 7, api.ErrEnd},
		{"no Body behind Must", element(0x30, kind+yes), 10, api.ErrEnd},
		{"no Kind", element(0x30, body), 2, api.ErrTag},
		{"Must ahead", element(0x30, yes+kind+body), 2, api.ErrTag},
		{"Must that is FALSE", element(0x30, kind+"\x01\x01\x00"+body), 7, api.ErrDefault},
		{"Must that is neither", element(0x30, kind+"\x01\x01\x01"+body), 7, api.ErrValue},
		{"Must behind", element(0x30, kind+body+yes), 12, api.ErrMore},
		{"a Body that is not one of Octets", element(0x30, kind+"\x03\x01\x00"), 7, api.ErrTag},
		{"a Body that is built", element(0x30, kind+"\x24\x03\x03\x01\x00"), 7, api.ErrTag},
		{"two Bodies", element(0x30, kind+body+body), 12, api.ErrMore},
		{"a set", element(0x31, kind+body), 0, api.ErrTag},
		{"a length told too long", "\x30\x81\x0a" + kind + body, 0, api.ErrLength},
	} {
		wantNotRead(t, c.what, with(c.mark), at+c.behind, c.e)
	}
	wantNotRead(t, "marks without a Tag", withPart(base, 5, element(0x30, element(0x30, kind+body))), at-4, api.ErrMore)
	wantNotRead(t, "marks of another Tag", withPart(base, 5, element(0xa2, element(0x30, element(0x30, kind+body)))), at-4, api.ErrMore)
	wantNotRead(t, "marks in the place of their tag", withPart(base, 5, element(0xa3, element(0x30, kind+body))), at, api.ErrTag)
	wantNotRead(t, "marks that are a set", withPart(base, 5, element(0xa3, element(0x31, element(0x30, kind+body)))), at-2, api.ErrTag)
}

// Each element of a card that is missing, is there twice, or has changed its place with the next.
func TestCardElements(t *testing.T) {
	c := aCard(func(c *api.Card) { c.Marks = unknown(1) })
	parts := cardParts(c)
	for i, part := range parts {
		missing := withPart(c, i, "")
		switch i {
		case 0: // it is of version 0 then, and may have no marks
			wantNotRead(t, "no version", missing, 0, api.ErrCard)
		case 5:
			wantCard(t, "no marks", aCard(), missing)
		default:
			wantNotRead(t, "one missing", missing, placeOf(c, i), api.ErrTag)
		}
		want := api.ErrTag
		if i >= 4 {
			want = api.ErrMore
		}
		wantNotRead(t, "one twice", withPart(c, i, part+part), placeOf(c, i)+len(part), want)
		cut := element(0x30, strings.Join(parts[:i], ""))
		if i < 5 {
			wantNotRead(t, "no more", cut, len(cut), api.ErrEnd)
		}
	}
	wantNotRead(t, "nothing", "", 0, api.ErrEnd)
	wantNotRead(t, "an empty Seq", "\x30\x00", 2, api.ErrEnd)
	wantNotRead(t, "a set", "\x31"+cardBytes(c)[1:], 0, api.ErrTag)
	wantNotRead(t, "a byte behind", cardBytes(c)+"\x00", len(cardBytes(c)), api.ErrMore)
	wantNotRead(t, "twice", cardBytes(c)+cardBytes(c), len(cardBytes(c)), api.ErrMore)
	wantNotRead(t, "one more element", withPart(c, 5, parts[5]+"\x05\x00"), len(cardBytes(c)), api.ErrMore)
	for cut := range len(cardBytes(c)) {
		wantNotRead(t, "cut off", cardBytes(c)[:cut], 0, api.ErrEnd)
	}
}
