// Package hallmark: values that can be written in one way alone: see DOC.md.
package hallmark

import (
	"errors"

	"hallmark/api"
	"hallmark/cards"
	"hallmark/decode"
	"hallmark/element"
	"hallmark/encode"
	"hallmark/fault"
	"hallmark/schemas"
)

// Head reads an element's head (P3).
func Head(data string) (api.Head, api.Errno) {
	h, err := element.Read(data, 0)
	return h, number(err)
}

// Tell writes one (P3).
func Tell(h api.Head) (string, api.Errno) {
	text, err := element.Tell(h)
	return text, number(err)
}

// Check tells whether a schema is right (P4).
func Check(schema []api.Node) api.Errno { return number(schemas.Check(schema)) }

// Decode reads a value (P5).
func Decode(schema []api.Node, root int, data string) ([]api.Value, int, api.Errno) {
	tree, err := decode.Tree(schema, root, data)
	return tree, place(err), number(err)
}

// Encode writes one (P6).
func Encode(schema []api.Node, root int, tree []api.Value) (string, api.Errno) {
	data, err := encode.Bytes(schema, root, tree)
	return data, number(err)
}

// ReadCard reads a card (P7).
func ReadCard(data string) (api.Card, int, api.Errno) {
	c, err := cards.Read(data)
	return c, place(err), number(err)
}

// WriteCard writes one (P7).
func WriteCard(c api.Card) (string, api.Errno) {
	data, err := cards.Write(c)
	return data, number(err)
}

// place is where it is that something is wrong.
func place(err error) int {
	var f fault.Fault
	if errors.As(err, &f) {
		return f.Place
	}
	return 0
}

// number is the one by which a call answers what is wrong.
func number(err error) api.Errno {
	switch {
	case err == nil:
		return api.OK
	case errors.Is(err, fault.Long):
		return api.ErrLong
	case errors.Is(err, fault.End):
		return api.ErrEnd
	case errors.Is(err, fault.Tag):
		return api.ErrTag
	case errors.Is(err, fault.Length):
		return api.ErrLength
	case errors.Is(err, fault.Value):
		return api.ErrValue
	case errors.Is(err, fault.More):
		return api.ErrMore
	case errors.Is(err, fault.Order):
		return api.ErrOrder
	case errors.Is(err, fault.Default):
		return api.ErrDefault
	case errors.Is(err, fault.Deep):
		return api.ErrDeep
	case errors.Is(err, fault.Tree):
		return api.ErrTree
	case errors.Is(err, fault.Card):
		return api.ErrCard
	case errors.Is(err, fault.Mark):
		return api.ErrMark
	}
	return api.ErrSchema // fault.Schema is what is left
}
