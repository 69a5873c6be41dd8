package tree

import (
	"strings"

	"margin/api"
	"margin/chars"
)

// The spans that are handed in here are ranges: both places are, in one tree, and the end does not come first.

// Read gives the characters in a span, one text behind the other.
func (f *Forest) Read(span api.Span) string {
	var out strings.Builder
	for number := range f.all(f.top(span.Start.Node)) {
		p := api.Place{Node: number}
		for _, c := range f.nodes[number].characters {
			if f.covers(span, p) {
				out.WriteRune(c)
			}
			p.Offset++
		}
	}
	return out.String()
}

// covers tells whether what stands directly behind a place, a child or a character, is all in a span.
func (f *Forest) covers(span api.Span, p api.Place) bool {
	behind := api.Place{Node: p.Node, Offset: p.Offset + 1}
	return f.order(span.Start, p) <= 0 && f.order(behind, span.End) <= 0
}

// Delete takes away what is in a span, and tells the place at which the two sides of it meet then.
func (f *Forest) Delete(span api.Span) (api.Place, Move, error) {
	// Both are told ahead of all changes, for these may leave the span's places nowhere.
	joint, changes := f.joint(span), f.deletion(span)
	var moves []Move
	for _, change := range changes {
		move, err := change()
		if err != nil {
			return api.Place{}, nil, err
		}
		moves = append(moves, move)
	}
	return joint, inTurn(moves), nil
}

// joint gives the place behind what stays of the nodes in which a span starts, and ahead of what stays of those in which it ends.
func (f *Forest) joint(span api.Span) api.Place {
	if f.holds(span.Start.Node, span.End.Node) {
		return span.Start
	}
	number := span.Start.Node
	for !f.holds(f.nodes[number].parent, span.End.Node) {
		number = f.nodes[number].parent
	}
	p := f.ahead(number)
	return api.Place{Node: p.Node, Offset: p.Offset + 1}
}

// change is a change of the trees that is yet to be made.
type change func() (Move, error)

// deletion gives the changes by which what is in a span goes.
func (f *Forest) deletion(span api.Span) []change {
	start, end := span.Start, span.End
	startsInText, endsInText := f.nodes[start.Node].isText, f.nodes[end.Node].isText
	if startsInText && start.Node == end.Node {
		return []change{f.cut(start.Node, start.Offset, end.Offset)}
	}
	var changes []change
	if startsInText {
		changes = append(changes, f.cut(start.Node, start.Offset, chars.Count(f.nodes[start.Node].characters)))
	}
	for _, number := range f.inside(span) {
		changes = append(changes, func() (Move, error) { return f.Remove(number) })
	}
	if endsInText {
		changes = append(changes, f.cut(end.Node, 0, end.Offset))
	}
	return changes
}

// cut is the change that takes the characters of a text from one offset up to another one.
func (f *Forest) cut(number int, from int, to int) change {
	return func() (Move, error) { return f.Replace(number, from, to-from, "") }
}

// inside gives the nodes that are wholly in a span and whose parent is not, in the order of the tree.
func (f *Forest) inside(span api.Span) []int {
	isIn := func(number int) bool {
		return f.nodes[number].parent != noParent && f.covers(span, f.ahead(number))
	}
	var found []int
	for number := range f.all(f.top(span.Start.Node)) {
		if isIn(number) && !isIn(f.nodes[number].parent) {
			found = append(found, number)
		}
	}
	return found
}
