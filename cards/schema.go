package cards

import "hallmark/api"

// The places of the nodes in the schema of cards.
const (
	cardNode = iota
	versionNode
	serialNode
	nameNode
	printableNode
	utf8Node
	spanNode
	timeNode
	keyNode
	marksNode
	markNode
	kindNode
	mustNode
	bodyNode
)

const (
	versionTag = 0
	marksTag   = 3

	noTag      = -1
	modeAround = 1
)

// The bytes of what is left out where it is so.
const (
	falseElement   = "\x01\x01\x00"
	versionElement = "\xa0\x03\x02\x01\x00"
)

// schema is that of cards.
func schema() []api.Node {
	return []api.Node{
		cardNode: plain(api.Seq,
			api.Kid{Node: versionNode, Default: versionElement},
			api.Kid{Node: serialNode},
			api.Kid{Node: nameNode},
			api.Kid{Node: spanNode},
			api.Kid{Node: keyNode},
			api.Kid{Node: marksNode, Optional: true}),
		versionNode:   around(versionTag, plain(api.Int)),
		serialNode:    plain(api.Int),
		nameNode:      plain(api.Choice, api.Kid{Node: printableNode}, api.Kid{Node: utf8Node}),
		printableNode: plain(api.Printable),
		utf8Node:      plain(api.Utf8),
		spanNode:      plain(api.Seq, api.Kid{Node: timeNode}, api.Kid{Node: timeNode}),
		timeNode:      plain(api.Time),
		keyNode:       plain(api.Bits),
		marksNode:     around(marksTag, plain(api.SeqOf, api.Kid{Node: markNode})),
		markNode: plain(api.Seq,
			api.Kid{Node: kindNode},
			api.Kid{Node: mustNode, Default: falseElement},
			api.Kid{Node: bodyNode}),
		kindNode: plain(api.Oid),
		mustNode: plain(api.Bool),
		bodyNode: plain(api.Octets),
	}
}

// limitsSchema is that of the Body of a mark of the kind limits, its first node.
func limitsSchema() []api.Node {
	return []api.Node{
		plain(api.Seq, api.Kid{Node: 1, Default: falseElement}, api.Kid{Node: 2, Optional: true}),
		plain(api.Bool),
		plain(api.Int),
	}
}

// plain is a node without a Tag.
func plain(kind int, kids ...api.Kid) api.Node {
	return api.Node{Kind: kind, Tag: noTag, Kids: kids}
}

// around is a node with a Tag around what it is without.
func around(tag int, n api.Node) api.Node {
	n.Tag, n.Mode = tag, modeAround
	return n
}
