package schemas

import (
	"hallmark/api"
	"hallmark/element"
)

const (
	noTag  = -1
	maxTag = 30

	modeInstead = 0 // the Tag stands in the place of the own one
	modeAround  = 1 // the Tag is an element around

	classOwn = 0
	classTag = 2
)

// ownNumbers: the number of each kind's own tag; a Choice and Any have none.
var ownNumbers = [...]int{
	api.Bool:      1,
	api.Int:       2,
	api.Null:      5,
	api.Oid:       6,
	api.Bits:      3,
	api.Octets:    4,
	api.Utf8:      12,
	api.Printable: 19,
	api.Time:      24,
	api.Seq:       16,
	api.SeqOf:     16,
	api.SetOf:     17,
}

// outerTag is the tag that an element of this node begins with: of nodes that isOpen is false of.
func outerTag(n api.Node) element.Tag {
	if n.Tag != noTag {
		return element.Tag{Class: classTag, Number: n.Tag}
	}
	return ownTag(n.Kind)
}

func ownTag(kind int) element.Tag {
	return element.Tag{Class: classOwn, Number: ownNumbers[kind]}
}

// layers is what the heads of an element of this node say, the outermost first: of kinds with an own tag.
func layers(n api.Node) []element.First {
	built := n.Kind >= api.Seq
	if n.Mode == modeAround {
		return []element.First{
			{Tag: outerTag(n), Built: true},
			{Tag: ownTag(n.Kind), Built: built},
		}
	}
	return []element.First{{Tag: outerTag(n), Built: built}}
}
