// Package fault: what is wrong, and where.
package fault

import (
	"errors"
	"strconv"
)

// Which of the things that can be wrong it is: asked by errors.Is.
var (
	Schema  = errors.New("a schema that is not right")
	Long    = errors.New("too many bytes")
	End     = errors.New("the bytes end")
	Tag     = errors.New("another tag")
	Length  = errors.New("a length not told as it must be")
	Value   = errors.New("a content that may not be")
	More    = errors.New("bytes too many")
	Order   = errors.New("not in rising order")
	Default = errors.New("a Default that is told")
	Deep    = errors.New("too deep")
	Tree    = errors.New("no tree of the node")
	Card    = errors.New("no card")
	Mark    = errors.New("a mark that may not be")
)

// Fault tells the place of what is wrong and wraps which it is: asked by errors.As.
// The place counts bytes from the front, or the nodes of a schema, or the values of a tree.
type Fault struct {
	Place int
	Which error
}

// At is the fault of this kind at this place.
func At(place int, which error) error { return Fault{Place: place, Which: which} }

func (f Fault) Error() string { return f.Which.Error() + ", at " + strconv.Itoa(f.Place) }

func (f Fault) Unwrap() error { return f.Which }
