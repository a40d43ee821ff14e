// Package cards: small certificates, read and written by a schema of their own.
package cards

import (
	"slices"
	"unicode/utf8"

	"hallmark/api"
	"hallmark/content"
	"hallmark/decode"
	"hallmark/encode"
	"hallmark/fault"
	"hallmark/schemas"
)

// lastVersion is the one that may have marks.
const lastVersion = 2

// The kinds of the marks that are known.
const (
	limitsKind = "\x55\x1d\x13"
	usesKind   = "\x55\x1d\x0f"
)

// Read reads a card. What is wrong with the card, not with its bytes, is told at the place 0.
func Read(data string) (api.Card, error) {
	tree, err := decode.Tree(schema(), cardNode, data)
	if err != nil {
		return api.Card{}, err
	}
	c := cardOf(tree)
	// The writer's own tree is asked for, so that no other way of telling the card gets through.
	if !slices.Equal(tree, treeOf(c)) {
		return api.Card{}, fault.At(0, fault.Card)
	}
	if err := check(c); err != nil {
		return api.Card{}, err
	}
	return c, nil
}

// Write writes one.
func Write(c api.Card) (string, error) {
	if err := check(c); err != nil {
		return "", err
	}
	return encode.Bytes(schema(), cardNode, treeOf(c))
}

// check tells whether it is a card, and then whether its marks are as they must be.
func check(c api.Card) error {
	if !isCard(c) {
		return fault.At(0, fault.Card)
	}
	if !areMarks(c.Marks) {
		return fault.At(0, fault.Mark)
	}
	return nil
}

// isCard tells whether all is right but for what stands in the marks.
func isCard(c api.Card) bool {
	return c.Version >= 0 && c.Version <= lastVersion &&
		content.Fits(api.Int, c.Serial) &&
		isName(c.Name) &&
		content.Fits(api.Time, c.From) && content.Fits(api.Time, c.To) && c.From <= c.To &&
		content.Fits(api.Bits, c.Key) &&
		len(c.Marks) <= mostMarks(c.Version)
}

func isName(name string) bool {
	return len(name) >= 1 && len(name) <= api.MaxName && utf8.ValidString(name)
}

func mostMarks(version int) int {
	if version == lastVersion {
		return api.MaxMarks
	}
	return 0
}

// areMarks tells whether each is as it must be, and no two have one Kind.
func areMarks(marks []api.Mark) bool {
	for i, m := range marks {
		if !isMark(m) {
			return false
		}
		for _, other := range marks[:i] {
			if other.Kind == m.Kind {
				return false
			}
		}
	}
	return true
}

func isMark(m api.Mark) bool {
	switch m.Kind {
	case limitsKind:
		return isLimits(m.Body)
	case usesKind:
		return isUses(m.Body)
	}
	return content.Fits(api.Oid, m.Kind) && !m.Must
}

// isLimits leans on decode, which takes no more than MaxData bytes: no such Body has so many.
func isLimits(body string) bool {
	_, err := decode.Tree(limitsSchema(), 0, body)
	return err == nil
}

// isUses does not lean on decode: a Body of more than MaxData bytes may be right, and only the card too long.
func isUses(body string) bool { return schemas.IsElement(plain(api.Bits), body) }
