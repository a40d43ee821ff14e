package content_test

import (
	"fmt"
	"math/big"
	"strings"
	"testing"
	"time"
	"unicode/utf8"

	"hallmark/api"
	"hallmark/content"
)

// same asks Fits of one text and holds it against what is wanted.
func same(t *testing.T, kind int, text string, want bool) {
	t.Helper()
	if got := content.Fits(kind, text); got != want {
		t.Errorf("Fits(%d, %.40x) = %v, want %v", kind, text, got, want)
	}
}

// shortTexts: every text of at most two bytes.
func shortTexts() []string {
	texts := []string{""}
	for a := range 256 {
		texts = append(texts, string([]byte{byte(a)}))
		for b := range 256 {
			texts = append(texts, string([]byte{byte(a), byte(b)}))
		}
	}
	return texts
}

func TestShortContents(t *testing.T) {
	for _, s := range shortTexts() {
		same(t, api.Bool, s, s == "\x00" || s == "\xff")
		same(t, api.Null, s, s == "")
		same(t, api.Octets, s, true)
		same(t, api.Utf8, s, utf8.ValidString(s))
		same(t, api.Int, s, s != "" && s == shortest(s))
		same(t, api.Bits, s, s == "\x00" || len(s) == 2 && s[0] < 8 && s[1]&(1<<s[0]-1) == 0)
		same(t, api.Oid, s, isShortOid(s))
	}
}

// shortest tells the number that s tells by as few bytes as can be.
func shortest(s string) string {
	n := new(big.Int).SetBytes([]byte(s))
	if s[0] >= 128 {
		n.Sub(n, new(big.Int).Lsh(big.NewInt(1), uint(8*len(s))))
	}
	for size := 1; ; size++ {
		half := new(big.Int).Lsh(big.NewInt(1), uint(8*size-1))
		if n.Cmp(half) < 0 && n.Cmp(new(big.Int).Neg(half)) >= 0 {
			whole := new(big.Int).Lsh(half, 1)
			low := new(big.Int).Mod(n, whole)
			return string(low.FillBytes(make([]byte, size)))
		}
	}
}

func isShortOid(s string) bool {
	switch len(s) {
	case 1:
		return s[0] < 128
	case 2:
		return s[1] < 128 && s[0] != 128
	}
	return false
}

func TestInt(t *testing.T) {
	for _, head := range []string{"\x00\x7f", "\x00\x80", "\x01\x00", "\x7f\xff", "\x80\x00", "\xfe\xff", "\xff\x7f", "\xff\x80", "\xff\xff", "\x00\x00"} {
		s := head + strings.Repeat("\x5a", 18)
		same(t, api.Int, s, s == shortest(s))
		same(t, api.Int, s+"\x5a", false)
	}
	same(t, api.Int, strings.Repeat("\x01", 100000), false)
}

func TestOid(t *testing.T) {
	for _, s := range []string{"\x55\x1d\x13", "\x2a\x86\x48\x86\xf7\x0d\x01\x01\x01", "\x81\x80\x00", "\x81\x80\x80\x80\x01", strings.Repeat("\x01", 20), strings.Repeat("\xff", 19) + "\x7f"} {
		same(t, api.Oid, s, true)
	}
	for _, s := range []string{"\x55\x1d\x80\x13", "\x80\x55\x1d", "\x55\x1d\x93", "\x55\x80", strings.Repeat("\x01", 21), strings.Repeat("\xff", 20) + "\x7f", strings.Repeat("\xff", 20), strings.Repeat("\x01", 100000)} {
		same(t, api.Oid, s, false)
	}
}

func TestBits(t *testing.T) {
	for _, s := range []string{"\x00", "\x00\x00", "\x00\xff\xff", "\x07\x80", "\x07\x00", "\x04\xff\xf0", "\x01\xff\xfe"} {
		same(t, api.Bits, s, true)
	}
	for _, s := range []string{"", "\x01", "\x07", "\x08", "\x08\x00", "\xff\x00", "\x04\xf0\xff", "\x04\xff\xf8", "\x07\x40"} {
		same(t, api.Bits, s, false)
	}
}

func TestUtf8(t *testing.T) {
	for _, s := range []string{"", "plain", "\x00", "h\u00e9", "\u20ac", "\U0010ffff", strings.Repeat("\u20ac", 30000)} {
		same(t, api.Utf8, s, true)
	}
	for _, s := range []string{"\x80", "\xc3", "\xc0\x80", "\xed\xa0\x80", "\xf4\x90\x80\x80", "\xf8\x88\x80\x80\x80", "fine\xff", strings.Repeat("a", 70000) + "\xe2\x82"} {
		same(t, api.Utf8, s, false)
	}
}

func TestPrintable(t *testing.T) {
	const signs = "ABCDEFGHIJKLMNOPQRSTUVWXYZabcdefghijklmnopqrstuvwxyz0123456789 '()+,-./:=?"
	same(t, api.Printable, "", true)
	same(t, api.Printable, strings.Repeat(signs, 1000), true)
	for b := range 256 {
		s := string([]byte{byte(b)})
		same(t, api.Printable, s, strings.Contains(signs, s))
		same(t, api.Printable, "a"+s+"z", strings.Contains(signs, s))
	}
}

func TestTimeDays(t *testing.T) {
	for year := range 10000 {
		for month := 0; month <= 13; month++ {
			last := 0
			if 1 <= month && month <= 12 {
				last = time.Date(year, time.Month(month)+1, 0, 0, 0, 0, 0, time.UTC).Day()
			}
			for _, day := range []int{0, 1, 28, 29, 30, 31, 32} {
				want := 1 <= day && day <= last
				same(t, api.Time, fmt.Sprintf("%04d%02d%02d000000Z", year, month, day), want)
			}
		}
	}
}

func TestTimeHours(t *testing.T) {
	for n := range 100 {
		same(t, api.Time, fmt.Sprintf("20261116%02d0000Z", n), n < 24)
		same(t, api.Time, fmt.Sprintf("2026111600%02d00Z", n), n < 60)
		same(t, api.Time, fmt.Sprintf("202611160000%02dZ", n), n < 60)
	}
}

func TestTimeForm(t *testing.T) {
	const right = "20261116235959Z"
	same(t, api.Time, right, true)
	for i := range len(right) {
		for b := range 256 {
			broken := right[:i] + string([]byte{byte(b)}) + right[i+1:]
			if b < '0' || b > '9' {
				same(t, api.Time, broken, broken == right)
			}
		}
		same(t, api.Time, right[:i], false)
		same(t, api.Time, right[:i]+right[i+1:], false)
	}
	for _, s := range []string{right + "Z", right + "0", "202611162359590", "20261116235959z", "20261116235959.5Z", "261116235959Z", strings.Repeat("1", 70000)} {
		same(t, api.Time, s, false)
	}
}

func TestOtherKindsHaveNoContent(t *testing.T) {
	for _, kind := range []int{-1 << 63, -1, 0, api.Seq, api.SeqOf, api.SetOf, api.Choice, api.Any, api.Absent, 1<<63 - 1} {
		same(t, kind, "", false)
		same(t, kind, "\x00", false)
	}
}
