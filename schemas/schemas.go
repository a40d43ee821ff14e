// Package schemas: whether a schema is right, and what its nodes say of the elements.
package schemas

import (
	"hallmark/api"
	"hallmark/content"
	"hallmark/element"
	"hallmark/fault"
)

// Check tells at which node a schema is not right; nil, if it is.
func Check(nodes []api.Node) error {
	if len(nodes) < 1 || len(nodes) > api.MaxNodes {
		return fault.At(0, fault.Schema)
	}
	// Of all nodes first: what is asked below follows kids into other nodes.
	for i, n := range nodes {
		if !isShaped(n, len(nodes)) {
			return fault.At(i, fault.Schema)
		}
	}
	// Of all nodes next: while Choices go round, they have no beginnings.
	for i, n := range nodes {
		if !defaultsFit(nodes, n) || comesBack(nodes, i) {
			return fault.At(i, fault.Schema)
		}
	}
	begins := AllBeginnings(nodes)
	for i, n := range nodes {
		if !isPlain(n, begins) {
			return fault.At(i, fault.Schema)
		}
	}
	return nil
}

// CheckRoot tells, at the place 0, whether a schema is right and root one of its nodes.
func CheckRoot(nodes []api.Node, root int) error {
	if err := Check(nodes); err != nil {
		return fault.At(0, err) // its own place counts nodes
	}
	if root < 0 || root >= len(nodes) {
		return fault.At(0, fault.Schema)
	}
	return nil
}

// isShaped looks at what a node says by itself, in a schema of so many nodes.
func isShaped(n api.Node, nodes int) bool {
	if n.Kind < api.Bool || n.Kind > api.Any || !isTagged(n) {
		return false
	}
	least, most := kidBounds(n.Kind)
	if len(n.Kids) < least || len(n.Kids) > most {
		return false
	}
	for _, k := range n.Kids {
		if k.Node < 0 || k.Node >= nodes {
			return false
		}
		if mayLack(k) && n.Kind != api.Seq || k.Optional && k.Default != "" {
			return false
		}
	}
	return true
}

// isTagged looks at a node's Tag and Mode.
func isTagged(n api.Node) bool {
	if n.Tag < noTag || n.Tag > maxTag {
		return false
	}
	if n.Tag == noTag {
		return n.Mode == modeInstead
	}
	if n.Kind == api.Choice || n.Kind == api.Any {
		return n.Mode == modeAround
	}
	return n.Mode == modeInstead || n.Mode == modeAround
}

func kidBounds(kind int) (least, most int) {
	switch kind {
	case api.Seq:
		return 0, api.MaxKids
	case api.SeqOf, api.SetOf:
		return 1, 1
	case api.Choice:
		return 1, api.MaxKids
	}
	return 0, 0
}

// mayLack tells whether a kid may have no bytes.
func mayLack(k api.Kid) bool { return k.Optional || k.Default != "" }

// defaultsFit tells whether the Defaults of a node's kids are elements of these kids.
func defaultsFit(nodes []api.Node, n api.Node) bool {
	for _, k := range n.Kids {
		if k.Default != "" && !IsElement(nodes[k.Node], k.Default) {
			return false
		}
	}
	return true
}

// IsElement tells whether text is just one element of this node, and the node of the kinds 1 to 9.
func IsElement(n api.Node, text string) bool {
	if n.Kind > api.Time {
		return false
	}
	inner, ok := within(n, text)
	return ok && content.Fits(n.Kind, inner)
}

// within is what the heads of an element of this node are around, if text has just these heads.
func within(n api.Node, text string) (inner string, ok bool) {
	for _, want := range layers(n) {
		h, err := element.Read(text, 0)
		if err != nil || element.FirstOf(h) != want || h.Size+h.Length != len(text) {
			return "", false
		}
		text = text[h.Size:]
	}
	return text, true
}

// Default is the value of a kid that has a Default and is left out. The content
// was looked at by Check: it may be long, and be asked for often.
func Default(nodes []api.Node, k api.Kid) api.Value {
	n := nodes[k.Node]
	text, _ := within(n, k.Default)
	return api.Value{Kind: n.Kind, Text: text}
}
