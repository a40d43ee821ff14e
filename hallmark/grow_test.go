package hallmark_test

import (
	"math/rand"
	"sort"

	"hallmark/api"
	"hallmark/hallmark"
)

// What follows writes values by the document's words and shares nothing with the program:
// what Decode reads is held against it.

var ownFirst = map[int]byte{
	api.Bool: 1, api.Int: 2, api.Null: 5, api.Oid: 6, api.Bits: 3, api.Octets: 4, api.Utf8: 12,
	api.Printable: 19, api.Time: 24, api.Seq: 0x30, api.SeqOf: 0x30, api.SetOf: 0x31,
}

// someContent is a right content of one of the kinds 1 to 9.
func someContent(r *rand.Rand, kind int) string {
	var right []string
	for _, c := range contents {
		if c.kind == kind {
			right = c.right
		}
	}
	for {
		if text := right[r.Intn(len(right))]; len(text) < 200 {
			return text
		}
	}
}

// wrapped puts the heads of a node around a content: of a Choice or Any, which have none of their own, at most the Tag.
func wrapped(n api.Node, content string) string {
	first, own := ownFirst[n.Kind]
	switch {
	case n.Tag >= 0 && n.Mode == 0:
		return element(0x80|first&0x20|byte(n.Tag), content)
	case own:
		content = element(first, content)
	}
	if n.Mode == 1 {
		content = element(0xa0|byte(n.Tag), content)
	}
	return content
}

// rightSchema is a random schema that is right, with all kinds of nodes.
func rightSchema(r *rand.Rand) []api.Node {
	for {
		nodes := make([]api.Node, 2+r.Intn(9))
		for i := range nodes {
			nodes[i] = api.Node{Kind: 1 + r.Intn(14), Tag: -1}
			if n := &nodes[i]; r.Intn(5) < 3 {
				n.Tag, n.Mode = r.Intn(31), r.Intn(2)
				if n.Kind >= api.Choice {
					n.Mode = 1
				}
			}
		}
		for i := range nodes {
			nodes[i].Kids = someKids(r, nodes, nodes[i].Kind)
		}
		if hallmark.Check(nodes) == api.OK {
			return nodes
		}
	}
}

func someKids(r *rand.Rand, nodes []api.Node, kind int) []api.Kid {
	count := 0
	switch kind {
	case api.Seq:
		count = r.Intn(7)
	case api.SeqOf, api.SetOf:
		count = 1
	case api.Choice:
		count = 1 + r.Intn(4)
	}
	kids := make([]api.Kid, count)
	for i := range kids {
		at := r.Intn(len(nodes))
		kids[i].Node = at
		if kind != api.Seq {
			continue
		}
		switch n := nodes[at]; {
		case r.Intn(3) == 0:
			kids[i].Optional = true
		case n.Kind <= api.Time && r.Intn(2) == 0:
			kids[i].Default = wrapped(n, someContent(r, n.Kind))
		}
	}
	return kids
}

// grower makes random trees of a schema, of at most so many values more.
type grower struct {
	r     *rand.Rand
	nodes []api.Node
	left  int
}

// grown is a random tree of a node; ok is false if it would be too deep or too great.
func grown(r *rand.Rand, nodes []api.Node, node int) (values []api.Value, ok bool) {
	g := &grower{r: r, nodes: nodes, left: 150}
	return g.value(node, 1)
}

func (g *grower) value(node, depth int) (values []api.Value, ok bool) {
	n := g.nodes[node]
	g.left--
	if depth > 12 || g.left < 0 {
		return nil, false
	}
	switch n.Kind {
	case api.Any:
		first := byte(g.r.Intn(8)<<5 | g.r.Intn(31))
		return tree(leaf(api.Any, element(first, someContent(g.r, api.Octets)))), true
	case api.Choice:
		at := g.r.Intn(len(n.Kids))
		inner, ok := g.value(n.Kids[at].Node, depth)
		return append(tree(alt(at)), inner...), ok
	case api.Seq:
		return g.seq(n, depth)
	case api.SeqOf, api.SetOf:
		return g.list(n, depth), true
	}
	return tree(leaf(n.Kind, someContent(g.r, n.Kind))), true
}

func (g *grower) seq(n api.Node, depth int) (values []api.Value, ok bool) {
	values = tree(built(api.Seq, len(n.Kids)))
	for _, k := range n.Kids {
		kind := g.nodes[k.Node].Kind
		if k.Default != "" && (depth == 12 || g.r.Intn(2) == 0) {
			values = append(values, leaf(kind, unwrapped(g.nodes[k.Node], k.Default)))
			continue
		}
		if k.Optional && g.r.Intn(2) == 0 {
			values = append(values, absent)
			continue
		}
		inner, ok := g.value(k.Node, depth+1)
		switch {
		case ok:
			values = append(values, inner...)
		case k.Optional:
			values = append(values, absent)
		default:
			return nil, false
		}
	}
	return values, true
}

func (g *grower) list(n api.Node, depth int) []api.Value {
	var all [][]api.Value
	for range g.r.Intn(4) {
		if inner, ok := g.value(n.Kids[0].Node, depth+1); ok {
			all = append(all, inner)
		}
	}
	if n.Kind == api.SetOf {
		sort.SliceStable(all, func(i, j int) bool {
			one, _ := told(g.nodes, n.Kids[0].Node, all[i])
			other, _ := told(g.nodes, n.Kids[0].Node, all[j])
			return one < other
		})
	}
	values := tree(built(n.Kind, len(all)))
	for _, inner := range all {
		values = append(values, inner...)
	}
	return values
}

// unwrapped is the content in the heads of a node, of the kinds 1 to 9.
func unwrapped(n api.Node, whole string) string {
	for range 1 + n.Mode {
		h, _ := hallmark.Head(whole)
		whole = whole[h.Size:]
	}
	return whole
}

// told is the bytes of the tree of a node at the front of the values, and how many values that is.
func told(nodes []api.Node, node int, values []api.Value) (bytes string, count int) {
	n, v := nodes[node], values[0]
	if v.Kind != n.Kind {
		return "no value of this node", 1
	}
	count = 1
	content := v.Text
	for i := range v.Kids {
		k := api.Kid{}
		switch n.Kind {
		case api.Seq:
			k = n.Kids[i]
		case api.Choice:
			k = n.Kids[v.Alt]
		default:
			k = n.Kids[0]
		}
		if k.Optional && values[count] == absent {
			count++
			continue
		}
		inner, more := told(nodes, k.Node, values[count:])
		count += more
		if k.Default == "" || inner != k.Default {
			content += inner
		}
	}
	return wrapped(n, content), count
}
