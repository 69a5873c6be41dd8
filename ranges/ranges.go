// Package ranges: ranges by their numbers, and where they start and end.
package ranges

import (
	"errors"
	"strconv"

	"margin/api"
	"margin/tree"
)

// Missing is the number of a range that there is not. It wraps api.ErrRange.
type Missing struct {
	Range int
}

// Error tells the problem, and the number.
func (m Missing) Error() string {
	return "range " + strconv.Itoa(m.Range) + ": " + api.ErrRange.Error()
}

// Unwrap gives the problem.
func (m Missing) Unwrap() error { return api.ErrRange }

// List is ranges in the trees of a forest. Each one's places are, in one tree, and its end does not come first, if every change of the forest is followed.
type List struct {
	nodes *tree.Forest
	spans []api.Span
}

// New gives a list of no ranges.
func New(nodes *tree.Forest) *List { return &List{nodes: nodes} }

// Add makes a range, at the beginning of the root, and tells its number.
func (l *List) Add() (int, error) {
	if len(l.spans) >= api.MaxRanges {
		return 0, tree.Refusal{Node: tree.Root, Why: api.ErrFull}
	}
	begin := api.Place{Node: tree.Root}
	l.spans = append(l.spans, api.Span{Start: begin, End: begin})
	return len(l.spans) - 1, nil
}

// Span tells from where to where a range is.
func (l *List) Span(number int) (api.Span, error) {
	if number < 0 || number >= len(l.spans) {
		return api.Span{}, Missing{Range: number}
	}
	return l.spans[number], nil
}

// SetStart lets a range start at p; if it can't end where it did, it ends there, too.
func (l *List) SetStart(number int, p api.Place) error {
	span, err := l.Span(number)
	if err != nil {
		return err
	}
	return l.set(number, api.Span{Start: p, End: span.End}, p)
}

// SetEnd lets a range end at p; if it can't start where it did, it starts there, too.
func (l *List) SetEnd(number int, p api.Place) error {
	span, err := l.Span(number)
	if err != nil {
		return err
	}
	return l.set(number, api.Span{Start: span.Start, End: p}, p)
}

// set lets a range be from where to where it is wished, or, if none can be so, at p alone.
func (l *List) set(number int, wished api.Span, p api.Place) error {
	order, err := l.nodes.Compare(wished.Start, wished.End)
	switch {
	case errors.Is(err, api.ErrRoots) || order > 0:
		l.spans[number] = api.Span{Start: p, End: p}
	case err != nil:
		return err
	default:
		l.spans[number] = wished
	}
	return nil
}

// Follow lets all ranges go with a change of the forest.
func (l *List) Follow(move tree.Move) {
	for i, span := range l.spans {
		l.spans[i] = api.Span{Start: move(span.Start), End: move(span.End)}
	}
}

// Read tells the characters in a range.
func (l *List) Read(number int) (string, error) {
	span, err := l.Span(number)
	if err != nil {
		return "", err
	}
	return l.nodes.Read(span), nil
}

// Delete takes away what is in a range; then it is at the one place that is left of it.
func (l *List) Delete(number int) error {
	span, err := l.Span(number)
	if err != nil {
		return err
	}
	left, move, err := l.nodes.Delete(span)
	if err != nil {
		return err
	}
	l.Follow(move)
	l.spans[number] = api.Span{Start: left, End: left}
	return nil
}
