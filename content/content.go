// Package content: which bytes may be the content of the kinds 1 to 9.
package content

import (
	"math/bits"
	"strings"
	"unicode/utf8"

	"hallmark/api"
)

// printableSigns: what a Printable may have beside letters and digits.
const printableSigns = " '()+,-./:=?"

// Fits tells whether text may be the content of this kind: never, if the kind is none of 1 to 9.
func Fits(kind int, text string) bool {
	switch kind {
	case api.Bool:
		return text == "\x00" || text == "\xff"
	case api.Int:
		return fitsInt(text)
	case api.Null:
		return text == ""
	case api.Oid:
		return fitsOid(text)
	case api.Bits:
		return fitsBits(text)
	case api.Octets:
		return true
	case api.Utf8:
		return utf8.ValidString(text)
	case api.Printable:
		return fitsPrintable(text)
	case api.Time:
		return fitsTime(text)
	}
	return false
}

func fitsInt(text string) bool {
	if len(text) < 1 || len(text) > api.MaxInt {
		return false
	}
	if len(text) == 1 {
		return true
	}
	highestNine := int(text[0])<<1 | int(text[1])>>7
	return highestNine != 0 && highestNine != 1<<9-1
}

func fitsOid(text string) bool {
	if len(text) < 1 || len(text) > api.MaxOid {
		return false
	}
	between := true // no number has been begun and not ended
	for i := range len(text) {
		if between && text[i] == 128 {
			return false
		}
		between = text[i] < 128
	}
	return between
}

func fitsBits(text string) bool {
	switch len(text) {
	case 0:
		return false
	case 1:
		return text[0] == 0
	}
	return text[0] <= 7 && bits.TrailingZeros8(text[len(text)-1]) >= int(text[0])
}

func fitsPrintable(text string) bool {
	for i := range len(text) {
		if !isPrintable(text[i]) {
			return false
		}
	}
	return true
}

func isPrintable(b byte) bool {
	return 'A' <= b && b <= 'Z' || 'a' <= b && b <= 'z' || isDigit(b) || strings.IndexByte(printableSigns, b) >= 0
}

func isDigit(b byte) bool { return '0' <= b && b <= '9' }
