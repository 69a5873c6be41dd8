package tree

import (
	"margin/api"
	"margin/chars"
)

// findText answers an error, if there is no such node, or it is an element.
func (f *Forest) findText(number int) error {
	if err := f.find(number); err != nil {
		return err
	}
	if !f.nodes[number].isText {
		return Refusal{number, api.ErrKind}
	}
	return nil
}

// Replace puts the characters of s in the place of count ones of a text, from offset on.
func (f *Forest) Replace(number int, offset int, count int, s string) error {
	if err := f.findText(number); err != nil {
		return err
	}
	text := &f.nodes[number]
	characters, err := chars.Splice(text.characters, offset, count, s, api.MaxText)
	if err != nil {
		return Refusal{number, err}
	}
	text.characters = characters
	return nil
}

// Split moves the characters of a text from offset on to a new one, directly behind it.
func (f *Forest) Split(number int, offset int) (int, error) {
	if err := f.findText(number); err != nil {
		return 0, err
	}
	characters := f.nodes[number].characters
	at, err := chars.Find(characters, offset)
	if err != nil {
		return 0, Refusal{number, err}
	}
	fresh, err := f.addText(characters[at:], number)
	if err != nil {
		return 0, err
	}
	f.nodes[number].characters = characters[:at]
	if parent := f.nodes[number].parent; parent != noParent {
		f.attach(parent, fresh, f.index(number)+1)
	}
	return fresh, nil
}
