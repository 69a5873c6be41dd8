// Package chars: strings as texts, which are made of characters (runes).
package chars

import (
	"strconv"
	"unicode/utf8"

	"margin/api"
)

// Flaw is why a string can't be a text. It wraps api.ErrText.
type Flaw struct {
	At int // how many good characters stand ahead of it
}

// Error tells the problem, and where it is.
func (f Flaw) Error() string {
	return api.ErrText.Error() + " at character " + strconv.Itoa(f.At)
}

// Unwrap gives the problem.
func (f Flaw) Unwrap() error { return api.ErrText }

// Check answers a Flaw, if s is not all UTF-8 or has more than most characters.
func Check(s string, most int) error {
	count := 0
	for at, c := range s {
		if count == most || isBroken(c, s[at:]) {
			return Flaw{At: count}
		}
		count++
	}
	return nil
}

// isBroken: ranging gives the same rune for a bad byte and for a written U+FFFD, so only the width tells them apart.
func isBroken(c rune, rest string) bool {
	if c != utf8.RuneError {
		return false
	}
	_, width := utf8.DecodeRuneInString(rest)
	return width == 1
}
