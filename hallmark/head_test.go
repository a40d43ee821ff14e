package hallmark_test

import (
	"strings"
	"testing"

	"hallmark/api"
	"hallmark/hallmark"
)

// wantHead asks Head and holds its answer against what is wanted: nothing beside an error.
func wantHead(t *testing.T, data string, want api.Head, errno api.Errno) {
	t.Helper()
	if h, e := hallmark.Head(data); h != want || e != errno {
		t.Errorf("P3: Head(%.12x), of %d bytes, = %+v, %d, want %+v, %d", data, len(data), h, e, want, errno)
	}
}

func wantTold(t *testing.T, h api.Head, want string, errno api.Errno) {
	t.Helper()
	if s, e := hallmark.Tell(h); s != want || e != errno {
		t.Errorf("P3: Tell(%+v) = %x, %d, want %x, %d", h, s, e, want, errno)
	}
}

func TestHeadExamples(t *testing.T) {
	wantHead(t, "\x30\x03\x02\x01\x05", api.Head{Built: true, Number: 16, Size: 2, Length: 3}, api.OK)
	wantHead(t, "\x02\x81\x05\x00\x00\x00\x00\x00", api.Head{}, api.ErrLength)
	wantHead(t, "\x1f\x01\x00", api.Head{}, api.ErrTag)
	wantHead(t, "\x02\x80", api.Head{}, api.ErrLength)
	wantHead(t, "\x02", api.Head{}, api.ErrEnd)
	wantTold(t, api.Head{Class: 2, Built: true, Number: 3, Length: 200}, "\xa3\x81\xc8", api.OK)
}

func TestHeadOfNothing(t *testing.T) {
	wantHead(t, "", api.Head{}, api.ErrEnd)
}

func TestHeadOfOneByte(t *testing.T) {
	for first := range 256 {
		want := api.ErrEnd
		if first&31 == 31 {
			want = api.ErrTag
		}
		wantHead(t, string([]byte{byte(first)}), api.Head{}, want)
	}
}

// Every first and second byte, where data ends behind them, and where enough follows.
func TestHeadOfTwoBytes(t *testing.T) {
	zeros := strings.Repeat("\x00", 127)
	for first := range 256 {
		h := api.Head{Class: first / 64, Built: first/32%2 == 1, Number: first % 32, Size: 2}
		for second := range 256 {
			data := string([]byte{byte(first), byte(second)})
			switch {
			case h.Number == 31:
				wantHead(t, data, api.Head{}, api.ErrTag)
				wantHead(t, data+zeros, api.Head{}, api.ErrTag)
			case second < 128:
				h.Length = second
				wantHead(t, data+zeros, h, api.OK)
				wantHead(t, data+zeros[:second], h, api.OK)
				if second > 0 {
					wantHead(t, data+zeros[1:second], api.Head{}, api.ErrEnd)
				}
			case second == 128 || second > 131:
				wantHead(t, data, api.Head{}, api.ErrLength)
				wantHead(t, data+zeros, api.Head{}, api.ErrLength)
			default:
				wantHead(t, data, api.Head{}, api.ErrEnd)
				wantHead(t, data+zeros, api.Head{}, api.ErrLength)
			}
		}
	}
}

// The lengths at which the telling changes: all of it there, one byte missing, and all the head's own bytes cut off one by one.
func TestHeadLengths(t *testing.T) {
	room := strings.Repeat("\x00", api.MaxLength+1)
	for _, c := range []struct {
		length int
		told   string
	}{
		{0, "\x00"}, {1, "\x01"}, {127, "\x7f"}, {128, "\x81\x80"}, {255, "\x81\xff"}, {256, "\x82\x01\x00"}, {257, "\x82\x01\x01"}, {0x1234, "\x82\x12\x34"},
		{65535, "\x82\xff\xff"}, {65536, "\x83\x01\x00\x00"}, {0x123456, "\x83\x12\x34\x56"}, {16777215, "\x83\xff\xff\xff"},
	} {
		head := "\x64" + c.told
		want := api.Head{Class: 1, Built: true, Number: 4, Size: len(head), Length: c.length}
		wantHead(t, head+room[:c.length], want, api.OK)
		wantHead(t, head+room[:c.length+1], want, api.OK)
		wantTold(t, want, head, api.OK)
		if c.length > 0 {
			wantHead(t, head+room[:c.length-1], api.Head{}, api.ErrEnd)
			wantHead(t, head, api.Head{}, api.ErrEnd)
		}
		for cut := range len(head) {
			wantHead(t, head[:cut], api.Head{}, api.ErrEnd)
		}
	}
}

// Lengths that can be told shorter: with all that they say behind them, and with nothing.
func TestHeadLengthsToldTooLong(t *testing.T) {
	room := strings.Repeat("\x00", 70000)
	for _, told := range []string{
		"\x81\x00", "\x81\x01", "\x81\x7f", "\x82\x00\x00", "\x82\x00\x7f", "\x82\x00\x80", "\x82\x00\xff",
		"\x83\x00\x00\x00", "\x83\x00\x00\x7f", "\x83\x00\x00\xff", "\x83\x00\x01\x00", "\x83\x00\xff\xff",
		"\x84\x00\x00\x00\x05", "\x84\x01\x00\x00\x00", "\x80\x00\x00", "\xff",
	} {
		wantHead(t, "\x04"+told+room, api.Head{}, api.ErrLength)
		wantHead(t, "\x04"+told, api.Head{}, api.ErrLength)
	}
}

// Where two errors could be told, what comes first in the bytes is.
func TestHeadFirstError(t *testing.T) {
	for _, c := range []struct {
		data string
		want api.Errno
	}{
		{"\x1f", api.ErrTag}, {"\x1f\x80", api.ErrTag}, {"\xff\x84", api.ErrTag}, {"\x3f\x05", api.ErrTag}, {"\x5f\x81\x05", api.ErrTag},
		{"\x02\x80", api.ErrLength}, {"\x02\x84", api.ErrLength}, {"\x02\x84\x01", api.ErrLength}, {"\x02\xff", api.ErrLength},
		{"\x02\x82\x00", api.ErrEnd}, {"\x02\x83\x00", api.ErrEnd}, {"\x02\x83\x00\x00", api.ErrEnd},
		{"\x02\x81\x05", api.ErrLength}, {"\x02\x82\x00\x05", api.ErrLength}, {"\x02\x83\x00\xff\xff", api.ErrLength},
	} {
		wantHead(t, c.data, api.Head{}, c.want)
	}
}

// Every tag is told and read again, and Size is not looked at.
func TestTellEveryTag(t *testing.T) {
	for class := range 4 {
		for number := range 31 {
			for built, bit := range map[bool]int{false: 0, true: 32} {
				for _, size := range []int{-1 << 63, -1, 0, 2, 99, 1<<63 - 1} {
					h := api.Head{Class: class, Built: built, Number: number, Size: size, Length: 5}
					wantTold(t, h, string([]byte{byte(class*64 + bit + number), 5}), api.OK)
				}
			}
		}
	}
}

// Every length of up to 70000, and some on the way to the greatest, is told in a way that Head takes.
func TestTellEveryLength(t *testing.T) {
	room := strings.Repeat("\x00", api.MaxLength)
	step := 1
	for length := 0; length <= api.MaxLength; length += step {
		if length > 70000 {
			step = 104729
		}
		s, e := hallmark.Tell(api.Head{Number: 4, Length: length})
		h, again := hallmark.Head(s)
		if length > 0 && again != api.ErrEnd {
			t.Fatalf("P3: Head of a head alone, of length %d: %+v, %d", length, h, again)
		}
		if e != api.OK || len(s) < 2 || len(s) > 5 {
			t.Fatalf("P3: Tell of length %d = %x, %d", length, s, e)
		}
		if length%1000 == 0 || step > 1 {
			wantHead(t, s+room[:length], api.Head{Number: 4, Size: len(s), Length: length}, api.OK)
		}
	}
}

func TestTellErrors(t *testing.T) {
	far := []int{-1 << 63, -1 << 32, -256, -1, 1 << 32, 1<<63 - 1}
	for _, n := range append(far, 4, 5, 64, 256) {
		wantTold(t, api.Head{Class: n}, "", api.ErrTag)
		wantTold(t, api.Head{Class: n, Length: -1}, "", api.ErrTag)
	}
	for _, n := range append(far, 31, 32, 64, 256) {
		wantTold(t, api.Head{Number: n}, "", api.ErrTag)
		wantTold(t, api.Head{Number: n, Length: 16777216}, "", api.ErrTag)
	}
	for _, n := range append(far, 16777216) {
		wantTold(t, api.Head{Class: 3, Number: 30, Length: n}, "", api.ErrLength)
	}
}
