package schemas

import (
	"slices"

	"hallmark/api"
	"hallmark/element"
)

// Beginnings of the nodes of a schema, by their places in it.
type Beginnings []tagSet

// tagSet: all tags that there are, or these.
type tagSet struct {
	all  bool
	tags []element.Tag
}

// Has tells whether an element of the node may begin with this tag.
func (b Beginnings) Has(node int, t element.Tag) bool {
	return b[node].all || slices.Contains(b[node].tags, t)
}

// isOpen tells whether a node is a Choice without a Tag: its element is that of a kid.
func isOpen(n api.Node) bool { return n.Kind == api.Choice && n.Tag == noTag }

// reach goes from a node through Choices without a Tag, each of them once: the
// nodes where that ends, and whether it comes back to the node it went from.
func reach(nodes []api.Node, from int) (ends []int, back bool) {
	var seen [api.MaxNodes]bool
	ahead := []int{from}
	for len(ahead) > 0 {
		at := ahead[len(ahead)-1]
		ahead = ahead[:len(ahead)-1]
		if !isOpen(nodes[at]) {
			ends = append(ends, at)
			continue
		}
		for _, k := range nodes[at].Kids {
			back = back || k.Node == from
			if !seen[k.Node] {
				seen[k.Node] = true
				ahead = append(ahead, k.Node)
			}
		}
	}
	return ends, back
}

func comesBack(nodes []api.Node, from int) bool {
	_, back := reach(nodes, from)
	return back
}

// AllBeginnings is those of a schema whose Choices do not come back to themselves.
func AllBeginnings(nodes []api.Node) Beginnings {
	begins := make(Beginnings, len(nodes))
	for i := range nodes {
		begins[i] = beginningsOf(nodes, i)
	}
	return begins
}

func beginningsOf(nodes []api.Node, from int) tagSet {
	var b tagSet
	ends, _ := reach(nodes, from)
	for _, end := range ends {
		if n := nodes[end]; n.Kind == api.Any && n.Tag == noTag {
			b.all = true
		} else {
			b.tags = append(b.tags, outerTag(n))
		}
	}
	return b
}

// meets tells whether two nodes have a beginning in common. None is without any,
// so what has all of them meets each.
func (b tagSet) meets(other tagSet) bool {
	if b.all || other.all {
		return true
	}
	for _, t := range b.tags {
		if slices.Contains(other.tags, t) {
			return true
		}
	}
	return false
}

// isPlain tells whether the first byte says which kid of the node an element is.
func isPlain(n api.Node, begins Beginnings) bool {
	switch n.Kind {
	case api.Choice:
		return choiceIsPlain(n.Kids, begins)
	case api.Seq:
		return seqIsPlain(n.Kids, begins)
	}
	return true
}

func choiceIsPlain(kids []api.Kid, begins Beginnings) bool {
	for i, k := range kids {
		for _, other := range kids[i+1:] {
			if begins[k.Node].meets(begins[other.Node]) {
				return false
			}
		}
	}
	return true
}

func seqIsPlain(kids []api.Kid, begins Beginnings) bool {
kids:
	for i, k := range kids {
		if !mayLack(k) {
			continue
		}
		for _, behind := range kids[i+1:] {
			if begins[k.Node].meets(begins[behind.Node]) {
				return false
			}
			if !mayLack(behind) {
				continue kids // what is behind that is never taken for this kid
			}
		}
	}
	return true
}
