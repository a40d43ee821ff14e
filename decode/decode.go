// Package decode: reads the tree of an element, or tells what is wrong and where.
package decode

import (
	"hallmark/api"
	"hallmark/content"
	"hallmark/element"
	"hallmark/fault"
	"hallmark/schemas"
)

// reader goes through data once, from the front, and adds to the tree as it goes.
type reader struct {
	nodes  []api.Node
	begins schemas.Beginnings
	data   string
	tree   []api.Value
}

// span is an element whose head has been read: where it begins, where its
// content does, and where it ends.
type span struct {
	first             element.First
	place, inner, end int
}

// Tree reads the one element of the root's node that data is.
func Tree(nodes []api.Node, root int, data string) ([]api.Value, error) {
	if err := schemas.CheckRoot(nodes, root); err != nil {
		return nil, err
	}
	if len(data) > api.MaxData {
		return nil, fault.At(0, fault.Long)
	}
	r := &reader{nodes: nodes, begins: schemas.AllBeginnings(nodes), data: data}
	err := r.lone(0, len(data), func(e span) error { return r.value(root, 1, e) })
	if err != nil {
		return nil, err
	}
	return r.tree, nil
}

// open reads the head of the element that begins at place, in what ends at limit.
func (r *reader) open(place, limit int) (span, error) {
	h, err := element.Read(r.data[:limit], place)
	if err != nil {
		return span{}, err
	}
	inner := place + h.Size
	return span{first: element.FirstOf(h), place: place, inner: inner, end: inner + h.Length}, nil
}

// lone reads the one element that all the bytes from place to end must be.
func (r *reader) lone(place, end int, read func(span) error) error {
	e, err := r.open(place, end)
	if err != nil {
		return err
	}
	if err := read(e); err != nil {
		return err
	}
	if e.end < end {
		return fault.At(e.end, fault.More)
	}
	return nil
}

// value reads an element of a node.
func (r *reader) value(node, depth int, e span) error {
	n := r.nodes[node]
	outer, ok := schemas.Around(n)
	if !ok {
		return r.own(n, depth, e)
	}
	if err := expect(e, outer, depth); err != nil {
		return err
	}
	return r.lone(e.inner, e.end, func(in span) error { return r.own(n, depth, in) })
}

// own reads an element of a node, but for the one that may be around it.
func (r *reader) own(n api.Node, depth int, e span) error {
	switch n.Kind {
	case api.Choice:
		return r.choice(n, depth, e)
	case api.Any:
		return r.any(depth, e)
	}
	if err := expect(e, schemas.Own(n), depth); err != nil {
		return err
	}
	switch n.Kind {
	case api.Seq:
		return r.seq(n, depth, e)
	case api.SeqOf, api.SetOf:
		return r.list(n, depth, e)
	}
	text := r.data[e.inner:e.end]
	if !content.Fits(n.Kind, text) {
		return fault.At(e.place, fault.Value)
	}
	r.add(api.Value{Kind: n.Kind, Text: text})
	return nil
}

// expect tells what is wrong with an element's head at this depth.
func expect(e span, want element.First, depth int) error {
	if e.first != want {
		return fault.At(e.place, fault.Tag)
	}
	return notDeep(e, depth)
}

func notDeep(e span, depth int) error {
	if depth > api.MaxDepth {
		return fault.At(e.place, fault.Deep)
	}
	return nil
}

func (r *reader) add(v api.Value) { r.tree = append(r.tree, v) }

// choice leaves it to the kid whether it is too deep: it has the same depth, and may be another thing.
func (r *reader) choice(n api.Node, depth int, e span) error {
	for alt, k := range n.Kids {
		if r.begins.Has(k.Node, e.first.Tag) {
			r.add(api.Value{Kind: api.Choice, Alt: alt, Kids: 1})
			return r.value(k.Node, depth, e)
		}
	}
	return fault.At(e.place, fault.Tag)
}

func (r *reader) any(depth int, e span) error {
	if err := notDeep(e, depth); err != nil {
		return err
	}
	r.add(api.Value{Kind: api.Any, Text: r.data[e.place:e.end]})
	return nil
}

// list reads a SeqOf or a SetOf.
func (r *reader) list(n api.Node, depth int, e span) error {
	self := len(r.tree)
	r.add(api.Value{Kind: n.Kind})
	before := ""
	for place := e.inner; place < e.end; {
		in, err := r.open(place, e.end)
		if err != nil {
			return err
		}
		if err := r.value(n.Kids[0].Node, depth+1, in); err != nil {
			return err
		}
		whole := r.data[in.place:in.end]
		if n.Kind == api.SetOf && whole < before {
			return fault.At(place, fault.Order)
		}
		before, place = whole, in.end
		r.tree[self].Kids++
	}
	return nil
}

// seq reads a Seq: each element is of the next kid that begins so, and those ahead of that are left out.
func (r *reader) seq(n api.Node, depth int, e span) error {
	r.add(api.Value{Kind: api.Seq, Kids: len(n.Kids)})
	place, kids := e.inner, n.Kids
elements:
	for place < e.end && len(kids) > 0 {
		in, err := r.open(place, e.end)
		if err != nil {
			return err
		}
		for i, k := range kids {
			if r.begins.Has(k.Node, in.first.Tag) {
				if err := r.kid(k, depth+1, in); err != nil {
					return err
				}
				place, kids = in.end, kids[i+1:]
				continue elements
			}
			if !r.leaveOut(k) {
				return fault.At(place, fault.Tag)
			}
		}
		kids = nil // all of them are left out
	}
	if place < e.end {
		return fault.At(place, fault.More)
	}
	for _, k := range kids {
		if !r.leaveOut(k) {
			return fault.At(place, fault.End)
		}
	}
	return nil
}

// kid reads an element of a kid of a Seq.
func (r *reader) kid(k api.Kid, depth int, e span) error {
	if err := r.value(k.Node, depth, e); err != nil {
		return err
	}
	if k.Default != "" && r.data[e.place:e.end] == k.Default {
		return fault.At(e.place, fault.Default)
	}
	return nil
}

// leaveOut adds what a kid without bytes is; false, if it may not be without.
func (r *reader) leaveOut(k api.Kid) bool {
	switch {
	case k.Optional:
		r.add(api.Value{Kind: api.Absent})
	case k.Default != "":
		r.add(schemas.Default(r.nodes, k))
	default:
		return false
	}
	return true
}
