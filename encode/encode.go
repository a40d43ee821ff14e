// Package encode: writes the element of a tree, or tells why there is none.
package encode

import (
	"bytes"
	"slices"

	"hallmark/api"
	"hallmark/content"
	"hallmark/element"
	"hallmark/fault"
	"hallmark/schemas"
)

// mostAround: so many elements may stand around one, since each has two bytes at least.
const mostAround = api.MaxData / 2

// writer goes through the tree once, from the front, and adds to the bytes as it goes.
// What is too long or out of order waits until all of it is known to be a tree.
type writer struct {
	nodes []api.Node
	tree  []api.Value
	next  int // the value that comes next
	told  []byte
	long  bool  // more bytes than may be: from then on told stays as it is
	order error // the first that is out of order
}

// Bytes writes the element of the root's node that the tree is of. The places of
// what is wrong with the tree count its values.
func Bytes(nodes []api.Node, root int, tree []api.Value) (string, error) {
	if err := schemas.CheckRoot(nodes, root); err != nil {
		return "", err
	}
	w := &writer{nodes: nodes, tree: tree}
	if err := w.value(root, 1); err != nil {
		return "", err
	}
	switch {
	case w.next < len(tree):
		return "", fault.At(w.next, fault.Tree)
	case w.long:
		return "", fault.At(0, fault.Long)
	case w.order != nil:
		return "", w.order
	}
	return string(w.told), nil
}

// value writes an element of a node. Choices are gone through by a loop: nothing
// but the tree's length bounds how many of them may stand within one another.
func (w *writer) value(node, depth int) error {
	start := len(w.told)
	var around []element.First // the outermost first
	for {
		n := w.nodes[node]
		v, err := w.take(n, depth)
		if err != nil {
			return err
		}
		if outer, ok := schemas.Around(n); ok && !w.long {
			around = append(around, outer)
			w.long = len(around) > mostAround
		}
		if n.Kind != api.Choice {
			if err := w.own(n, v, depth); err != nil {
				return err
			}
			break
		}
		node = n.Kids[v.Alt].Node
	}
	for _, outer := range slices.Backward(around) {
		w.wrap(start, outer)
	}
	return nil
}

// take is the value that comes next, if it may be one of the node at this depth.
func (w *writer) take(n api.Node, depth int) (api.Value, error) {
	if w.next == len(w.tree) || depth > api.MaxDepth || !fits(n, w.tree[w.next]) {
		return api.Value{}, fault.At(w.next, fault.Tree)
	}
	w.next++
	return w.tree[w.next-1], nil
}

// own writes an element of a node, but for what may be around it: of all kinds but Choice.
func (w *writer) own(n api.Node, v api.Value, depth int) error {
	start := len(w.told)
	var err error
	switch n.Kind {
	case api.Any:
		w.insert(start, v.Text)
		return nil // it has its head
	case api.Seq:
		err = w.seq(n, depth)
	case api.SeqOf, api.SetOf:
		err = w.list(n, v.Kids, depth)
	default:
		w.insert(start, v.Text)
	}
	if err != nil {
		return err
	}
	w.wrap(start, schemas.Own(n))
	return nil
}

func (w *writer) seq(n api.Node, depth int) error {
	for _, k := range n.Kids {
		if w.leftOut(k) {
			continue
		}
		if err := w.value(k.Node, depth+1); err != nil {
			return err
		}
	}
	return nil
}

// leftOut goes past the value of a kid that has no bytes, and so no depth; false, if it has some.
func (w *writer) leftOut(k api.Kid) bool {
	if w.next == len(w.tree) {
		return false
	}
	v := w.tree[w.next]
	if k.Optional && v == (api.Value{Kind: api.Absent}) || k.Default != "" && v == schemas.Default(w.nodes, k) {
		w.next++
		return true
	}
	return false
}

// list writes the kids of a SeqOf or a SetOf.
func (w *writer) list(n api.Node, kids, depth int) error {
	before := len(w.told) // where the one before begins
	for range kids {
		start, place := len(w.told), w.next
		if err := w.value(n.Kids[0].Node, depth+1); err != nil {
			return err
		}
		if n.Kind == api.SetOf && w.order == nil && bytes.Compare(w.told[start:], w.told[before:start]) < 0 {
			w.order = fault.At(place, fault.Order)
		}
		before = start
	}
	return nil
}

// wrap puts a head ahead of all that has been told from start on.
func (w *writer) wrap(start int, first element.First) {
	// Tell refuses nothing here: a node has a tag that can be told, and told is short.
	head, _ := element.Tell(first.Head(len(w.told) - start))
	w.insert(start, head)
}

func (w *writer) insert(place int, text string) {
	if w.long || len(text) > api.MaxData-len(w.told) {
		w.long = true
		return
	}
	w.told = slices.Insert(w.told, place, []byte(text)...)
}

// fits tells whether a value may be one of this node, its kids apart.
func fits(n api.Node, v api.Value) bool {
	if v.Kind != n.Kind {
		return false
	}
	switch n.Kind {
	case api.Seq:
		return v == api.Value{Kind: n.Kind, Kids: len(n.Kids)}
	case api.SeqOf, api.SetOf:
		return v == api.Value{Kind: n.Kind, Kids: max(v.Kids, 0)}
	case api.Choice:
		return v == api.Value{Kind: n.Kind, Alt: v.Alt, Kids: 1} && v.Alt >= 0 && v.Alt < len(n.Kids)
	}
	if v.Alt != 0 || v.Kids != 0 {
		return false
	}
	if n.Kind == api.Any {
		return element.IsWhole(v.Text)
	}
	return content.Fits(n.Kind, v.Text)
}
