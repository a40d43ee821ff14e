package cards

import (
	"hallmark/api"
	"hallmark/content"
)

// The places of a card's values in its tree: the same in each, since only what is
// behind them differs in how many values it has.
const (
	versionPlace = 1
	serialPlace  = 2
	namePlace    = 4 // behind its Choice
	fromPlace    = 6 // behind the Seq of both times
	toPlace      = 7
	keyPlace     = 8
	firstMark    = 10 // behind the SeqOf, or where the tree ends
)

// The places of a mark's values behind its Seq, and how many it has with that.
const (
	kindPlace  = 1
	mustPlace  = 2
	bodyPlace  = 3
	markValues = 4
)

// The kids of the Choice of names.
const (
	printableAlt = 0
	utf8Alt      = 1
)

// The contents of a Bool.
const (
	noText  = "\x00"
	yesText = "\xff"
)

// cardOf is what the tree of a card says, be it right or not; of the version, its first
// byte: treeOf writes one alone, so a tree with more is not the one that the card is written as.
func cardOf(tree []api.Value) api.Card {
	c := api.Card{
		Version: int(tree[versionPlace].Text[0]),
		Serial:  tree[serialPlace].Text,
		Name:    tree[namePlace].Text,
		From:    tree[fromPlace].Text,
		To:      tree[toPlace].Text,
		Key:     tree[keyPlace].Text,
	}
	for rest := tree[firstMark:]; len(rest) > 0; rest = rest[markValues:] {
		c.Marks = append(c.Marks, api.Mark{
			Kind: rest[kindPlace].Text,
			Must: rest[mustPlace].Text == yesText,
			Body: rest[bodyPlace].Text,
		})
	}
	return c
}

// treeOf is the one tree that a card is written as; of what is no card, it need be none.
func treeOf(c api.Card) []api.Value {
	kind, alt := nameKind(c.Name)
	tree := []api.Value{
		{Kind: api.Seq, Kids: 6},
		{Kind: api.Int, Text: string([]byte{byte(c.Version)})},
		{Kind: api.Int, Text: c.Serial},
		{Kind: api.Choice, Alt: alt, Kids: 1},
		{Kind: kind, Text: c.Name},
		{Kind: api.Seq, Kids: 2},
		{Kind: api.Time, Text: c.From},
		{Kind: api.Time, Text: c.To},
		{Kind: api.Bits, Text: c.Key},
	}
	if len(c.Marks) == 0 {
		return append(tree, api.Value{Kind: api.Absent})
	}
	tree = append(tree, api.Value{Kind: api.SeqOf, Kids: len(c.Marks)})
	for _, m := range c.Marks {
		tree = append(tree,
			api.Value{Kind: api.Seq, Kids: 3},
			api.Value{Kind: api.Oid, Text: m.Kind},
			api.Value{Kind: api.Bool, Text: boolText(m.Must)},
			api.Value{Kind: api.Octets, Text: m.Body})
	}
	return tree
}

// nameKind is the kind that a name is written as, and which kid of its Choice that is.
func nameKind(name string) (kind, alt int) {
	if content.Fits(api.Printable, name) {
		return api.Printable, printableAlt
	}
	return api.Utf8, utf8Alt
}

func boolText(yes bool) string {
	if yes {
		return yesText
	}
	return noText
}
