// Package element: the heads of elements, and what their first byte says.
package element

import (
	"hallmark/api"
	"hallmark/fault"
)

const (
	maxClass   = 3
	maxNumber  = 30
	builtBit   = 32
	numberBits = 31
	longLength = 128 // from here on the length has bytes of its own
	maxCount   = 3   // of these bytes
)

// Tag is the class and the number of an element.
type Tag struct{ Class, Number int }

// First is what the first byte of a head says.
type First struct {
	Tag
	Built bool
}

// FirstOf is what the first byte of this head says.
func FirstOf(h api.Head) First {
	return First{Tag: Tag{Class: h.Class, Number: h.Number}, Built: h.Built}
}

// Head is the head that says so of a content of this length.
func (f First) Head(length int) api.Head {
	return api.Head{Class: f.Class, Built: f.Built, Number: f.Number, Length: length}
}

// IsWhole tells whether text is just one element.
func IsWhole(text string) bool {
	h, err := Read(text, 0)
	return err == nil && h.Size+h.Length == len(text)
}

// Read reads the head of the element that begins at place. What is wrong is
// told at that place, wherever in the head it is.
func Read(data string, place int) (api.Head, error) {
	rest := data[place:]
	if rest == "" {
		return api.Head{}, fault.At(place, fault.End)
	}
	first := int(rest[0])
	if first&numberBits > maxNumber {
		return api.Head{}, fault.At(place, fault.Tag)
	}
	size, length, err := readLength(rest[1:])
	if err != nil {
		return api.Head{}, fault.At(place, err)
	}
	size++
	if length > len(rest)-size {
		return api.Head{}, fault.At(place, fault.End)
	}
	return api.Head{
		Class:  first >> 6,
		Built:  first&builtBit != 0,
		Number: first & numberBits,
		Size:   size,
		Length: length,
	}, nil
}

// readLength reads a length: how many bytes tell it, and what it is.
func readLength(text string) (size, length int, which error) {
	if text == "" {
		return 0, 0, fault.End
	}
	if text[0] < longLength {
		return 1, int(text[0]), nil
	}
	count := int(text[0]) - longLength
	if count == 0 || count > maxCount {
		return 0, 0, fault.Length
	}
	if len(text) <= count {
		return 0, 0, fault.End
	}
	for i := 1; i <= count; i++ {
		length = length<<8 | int(text[i])
	}
	// The writer's own rule is asked, so that no other way of telling it gets through.
	if count != countFor(length) {
		return 0, 0, fault.Length
	}
	return 1 + count, length, nil
}

// Tell writes a head.
func Tell(h api.Head) (string, error) {
	if h.Class < 0 || h.Class > maxClass || h.Number < 0 || h.Number > maxNumber {
		return "", fault.At(0, fault.Tag)
	}
	if h.Length < 0 || h.Length > api.MaxLength {
		return "", fault.At(0, fault.Length)
	}
	first := h.Class<<6 | h.Number
	if h.Built {
		first |= builtBit
	}
	return string(appendLength([]byte{byte(first)}, h.Length)), nil
}

func appendLength(head []byte, length int) []byte {
	count := countFor(length)
	if count == 0 {
		return append(head, byte(length))
	}
	head = append(head, byte(longLength+count))
	for i := count - 1; i >= 0; i-- {
		head = append(head, byte(length>>(8*i)))
	}
	return head
}

// countFor is how many bytes of its own a length has, when told as short as it can be.
func countFor(length int) int {
	switch {
	case length < longLength:
		return 0
	case length < 1<<8:
		return 1
	case length < 1<<16:
		return 2
	}
	return maxCount
}
