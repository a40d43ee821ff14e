// Package hallmark: values that can be written in one way alone: see DOC.md.
package hallmark

import (
	"errors"

	"hallmark/api"
	"hallmark/element"
	"hallmark/fault"
	"hallmark/schemas"
)

// Head reads an element's head (P3).
func Head(data string) (api.Head, api.Errno) {
	h, err := element.Read(data, 0)
	return h, number(err)
}

// Tell writes one (P3).
func Tell(h api.Head) (string, api.Errno) {
	text, err := element.Tell(h)
	return text, number(err)
}

// Check tells whether a schema is right (P4).
func Check(schema []api.Node) api.Errno { return number(schemas.Check(schema)) }

// Decode reads a value (P5).
func Decode(schema []api.Node, root int, data string) ([]api.Value, int, api.Errno) {
	return nil, 0, api.OK
}

// Encode writes one (P6).
func Encode(schema []api.Node, root int, tree []api.Value) (string, api.Errno) { return "", api.OK }

// ReadCard reads a card (P7).
func ReadCard(data string) (api.Card, int, api.Errno) { return api.Card{}, 0, api.OK }

// WriteCard writes one (P7).
func WriteCard(c api.Card) (string, api.Errno) { return "", api.OK }

// number is the one by which a call answers what is wrong.
func number(err error) api.Errno {
	switch {
	case err == nil:
		return api.OK
	case errors.Is(err, fault.End):
		return api.ErrEnd
	case errors.Is(err, fault.Tag):
		return api.ErrTag
	case errors.Is(err, fault.Length):
		return api.ErrLength
	}
	return api.ErrSchema // fault.Schema is what is left
}
