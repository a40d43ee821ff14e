package schemas

import (
	"hallmark/api"
	"hallmark/element"
)

const (
	noTag  = -1
	maxTag = 30

	modeInstead = 0 // the Tag stands in the place of the own one
	modeAround  = 1 // the Tag is an element around

	classOwn = 0
	classTag = 2
)

// ownNumbers: the number of each kind's own tag; a Choice and Any have none.
var ownNumbers = [...]int{
	api.Bool:      1,
	api.Int:       2,
	api.Null:      5,
	api.Oid:       6,
	api.Bits:      3,
	api.Octets:    4,
	api.Utf8:      12,
	api.Printable: 19,
	api.Time:      24,
	api.Seq:       16,
	api.SeqOf:     16,
	api.SetOf:     17,
}

// outerTag is the tag that an element of this node begins with: of nodes that isOpen is false of.
func outerTag(n api.Node) element.Tag {
	if n.Tag != noTag {
		return element.Tag{Class: classTag, Number: n.Tag}
	}
	return ownTag(n.Kind)
}

func ownTag(kind int) element.Tag {
	return element.Tag{Class: classOwn, Number: ownNumbers[kind]}
}

// Around is what the head of the element around says; ok is false of a node that has none.
func Around(n api.Node) (first element.First, ok bool) {
	if n.Mode != modeAround {
		return element.First{}, false
	}
	return element.First{Tag: outerTag(n), Built: true}, true
}

// Own is what the head of the element itself says, in what may be around it: of kinds with an own tag.
func Own(n api.Node) element.First {
	tag := ownTag(n.Kind)
	if n.Mode == modeInstead {
		tag = outerTag(n)
	}
	return element.First{Tag: tag, Built: n.Kind >= api.Seq}
}

// layers is what the heads of an element of this node say, the outermost first: of kinds with an own tag.
func layers(n api.Node) []element.First {
	if outer, ok := Around(n); ok {
		return []element.First{outer, Own(n)}
	}
	return []element.First{Own(n)}
}
