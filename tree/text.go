package tree

import (
	"margin/api"
	"margin/chars"
)

// findText answers an error, if there is no such node, or it is an element.
func (f *Forest) findText(number int) error {
	if err := f.find(number); err != nil {
		return err
	}
	if !f.nodes[number].isText {
		return Refusal{number, api.ErrKind}
	}
	return nil
}

// Replace puts the characters of s in the place of count ones of a text, from offset on.
func (f *Forest) Replace(number int, offset int, count int, s string) (Move, error) {
	if err := f.findText(number); err != nil {
		return nil, err
	}
	text := &f.nodes[number]
	characters, err := chars.Splice(text.characters, offset, count, s, api.MaxText)
	if err != nil {
		return nil, Refusal{number, err}
	}
	taken := min(count, chars.Count(text.characters)-offset)
	text.characters = characters
	return resize(number, offset, taken, chars.Count(s)), nil
}

// Split moves the characters of a text from offset on to a new one, directly behind it.
func (f *Forest) Split(number int, offset int) (int, Move, error) {
	if err := f.findText(number); err != nil {
		return 0, nil, err
	}
	characters := f.nodes[number].characters
	at, err := chars.Find(characters, offset)
	if err != nil {
		return 0, nil, Refusal{number, err}
	}
	fresh, err := f.addText(characters[at:], number)
	if err != nil {
		return 0, nil, err
	}
	f.nodes[number].characters = characters[:at]
	parent := f.nodes[number].parent
	if parent == noParent {
		// Places don't follow the characters into another tree, for a range must not be in two: for them it is as if these were taken.
		return fresh, resize(number, offset, chars.Count(characters[at:]), 0), nil
	}
	index := f.index(number)
	f.attach(parent, fresh, index+1)
	// From index, not from index + 1, on: a place directly behind the text is behind the new one, too.
	return fresh, carry(number, offset, fresh, shift(parent, index, 1)), nil
}
