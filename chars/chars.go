// Package chars: strings as texts, which are made of characters (runes).
package chars

import (
	"errors"
	"strconv"
	"strings"
	"unicode/utf8"

	"margin/api"
)

// Flaw is why a string can't be a text. It wraps api.ErrText.
type Flaw struct {
	At int // how many good characters stand ahead of it
}

// Error tells the problem, and where it is.
func (f Flaw) Error() string {
	return api.ErrText.Error() + " at character " + strconv.Itoa(f.At)
}

// Unwrap gives the problem.
func (f Flaw) Unwrap() error { return api.ErrText }

// Outside is an offset that a string has not, or a count that none has. It wraps api.ErrIndex.
type Outside struct {
	Offset int
}

// Error tells the problem, and the offset.
func (o Outside) Error() string {
	return api.ErrIndex.Error() + " at offset " + strconv.Itoa(o.Offset)
}

// Unwrap gives the problem.
func (o Outside) Unwrap() error { return api.ErrIndex }

// Check answers a Flaw, if s is not all UTF-8 or has more than most characters.
func Check(s string, most int) error {
	count := 0
	for at, c := range s {
		if count >= most || isBroken(c, s[at:]) {
			return Flaw{At: count}
		}
		count++
	}
	return nil
}

// isBroken: ranging gives the same rune for a bad byte and for a written U+FFFD, so only the width tells them apart.
func isBroken(c rune, rest string) bool {
	if c != utf8.RuneError {
		return false
	}
	_, width := utf8.DecodeRuneInString(rest)
	return width == 1
}

// Count tells how many characters s has.
func Count(s string) int {
	count := 0
	for range s {
		count++
	}
	return count
}

// Find tells how many bytes of s the characters ahead of offset take. It answers an Outside, if s has no such offset.
func Find(s string, offset int) (int, error) {
	count := 0
	for at := range s {
		if count == offset {
			return at, nil
		}
		count++
	}
	if count == offset {
		return len(s), nil
	}
	return 0, Outside{Offset: offset}
}

// Splice gives s with fresh in the place of count characters from offset on, or of as many as there are. It answers an Outside or, if there would be more than most characters, or fresh is not all UTF-8, a Flaw.
func Splice(s string, offset int, count int, fresh string, most int) (string, error) {
	start, err := Find(s, offset)
	if err != nil {
		return "", err
	}
	if count < 0 {
		return "", Outside{Offset: count}
	}
	ahead, behind := s[:start], s[start:]
	taken, err := Find(behind, count)
	if errors.Is(err, api.ErrIndex) {
		taken = len(behind)
	}
	behind = behind[taken:]
	if err := Check(fresh, most-offset-Count(behind)); err != nil {
		return "", err
	}
	// Joined, not added: beside empty strings, + would keep the very string that was handed in.
	return strings.Join([]string{ahead, fresh, behind}, ""), nil
}
