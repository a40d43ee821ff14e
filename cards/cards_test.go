package cards_test

import (
	"errors"
	"reflect"
	"strings"
	"testing"

	"hallmark/api"
	"hallmark/cards"
	"hallmark/fault"
)

// right is a card with a mark, and its bytes.
func right() (api.Card, string) {
	c := api.Card{Version: 2, Serial: "\x05", Name: "Hay", From: "19990101000000Z", To: "20240229235959Z", Key: "\x00k"}
	c.Marks = []api.Mark{{Kind: "\x2a", Body: "b"}}
	return c, "\x30\x41\xa0\x03\x02\x01\x02\x02\x01\x05\x13\x03Hay\x30\x22\x18\x0f19990101000000Z\x18\x0f20240229235959Z\x03\x02\x00k\xa3\x0a\x30\x08\x30\x06\x06\x01\x2a\x04\x01b"
}

func isFault(err error, place int, which error) bool {
	var f fault.Fault
	return errors.Is(err, which) && errors.As(err, &f) && f.Place == place
}

// What is wrong tells its place, in bytes, and wraps which it is; the place of what is no card is 0.
func TestReadTellsThePlace(t *testing.T) {
	want, data := right()
	if c, err := cards.Read(data); !reflect.DeepEqual(c, want) || err != nil {
		t.Errorf("Read(%x) = %+v, %v", data, c, err)
	}
	for _, c := range []struct {
		old, new string
		place    int
		which    error
	}{
		{"\x30\x41", "\x31\x41", 0, fault.Tag},
		{"\x02\x01\x02\x02\x01\x05", "\x02\x01\x00\x02\x01\x05", 2, fault.Default},
		{"Hay", "H*y", 10, fault.Value},
		{"\x04\x01b", "\x04\x02b", 64, fault.End},
		{"\x02\x01\x02\x02\x01\x05", "\x02\x01\x03\x02\x01\x05", 0, fault.Card},
		{"\x02\x01\x02\x02\x01\x05", "\x02\x01\x01\x02\x01\x05", 0, fault.Card},
		{"\x13\x03Hay", "\x0c\x03Hay", 0, fault.Card},
		{"1999", "2999", 0, fault.Card},
		{"\x30\x06\x06\x01\x2a\x04\x01b", "\x30\x06\x06\x01\x2a\x04\x01c\x00", 67, fault.More},
	} {
		broken := strings.Replace(data, c.old, c.new, 1)
		if got, err := cards.Read(broken); !reflect.DeepEqual(got, api.Card{}) || !isFault(err, c.place, c.which) {
			t.Errorf("Read(%x) = %+v, %v, want %v at %d", broken, got, err, c.which, c.place)
		}
	}
	must := strings.NewReplacer("\x30\x41", "\x30\x44", "\xa3\x0a\x30\x08\x30\x06\x06\x01\x2a", "\xa3\x0d\x30\x0b\x30\x09\x06\x01\x2a\x01\x01\xff").Replace(data)
	if got, err := cards.Read(must); !reflect.DeepEqual(got, api.Card{}) || !isFault(err, 0, fault.Mark) {
		t.Errorf("Read(%x) = %+v, %v, want %v at 0", must, got, err, fault.Mark)
	}
}

func TestWriteTellsWhichItIs(t *testing.T) {
	c, want := right()
	if data, err := cards.Write(c); data != want || err != nil {
		t.Errorf("Write(%+v) = %x, %v, want %x", c, data, err, want)
	}
	for _, w := range []struct {
		spoil func(*api.Card)
		which error
	}{
		{func(c *api.Card) { c.Version = 1 }, fault.Card},
		{func(c *api.Card) { c.Name = "" }, fault.Card},
		{func(c *api.Card) { c.Marks[0].Must = true }, fault.Mark},
		{func(c *api.Card) { c.Marks[0].Kind = "\x80" }, fault.Mark},
		{func(c *api.Card) { c.Key = "\x00" + strings.Repeat("k", api.MaxData) }, fault.Long},
	} {
		c, _ := right()
		w.spoil(&c)
		if data, err := cards.Write(c); data != "" || !isFault(err, 0, w.which) {
			t.Errorf("Write(%.300v) = %x, %v, want %v at 0", c, data, err, w.which)
		}
	}
}
