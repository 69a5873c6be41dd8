package tree

import (
	"slices"

	"margin/api"
	"margin/chars"
)

// Compare tells which of two places comes first: -1, if a does, 1, if b does, 0, if they are the same.
func (f *Forest) Compare(a api.Place, b api.Place) (int, error) {
	if err := f.findPlace(a); err != nil {
		return 0, err
	}
	if err := f.findPlace(b); err != nil {
		return 0, err
	}
	if f.top(a.Node) != f.top(b.Node) {
		return 0, Refusal{b.Node, api.ErrRoots}
	}
	return f.order(a, b), nil
}

// order compares two places of one tree.
func (f *Forest) order(a api.Place, b api.Place) int {
	return slices.Compare(f.path(a), f.path(b))
}

// findPlace answers an error, if there is no such node, or it has no such offset.
func (f *Forest) findPlace(p api.Place) error {
	if err := f.find(p.Node); err != nil {
		return err
	}
	if f.nodes[p.Node].isText {
		if _, err := chars.Find(f.nodes[p.Node].characters, p.Offset); err != nil {
			return Refusal{p.Node, err}
		}
		return nil
	}
	if p.Offset < 0 || p.Offset > len(f.nodes[p.Node].children) {
		return Refusal{p.Node, api.ErrIndex}
	}
	return nil
}

// ahead gives the place directly ahead of a node, which must have a parent.
func (f *Forest) ahead(number int) api.Place {
	return api.Place{Node: f.nodes[number].parent, Offset: f.index(number)}
}

// top gives the node of a node's tree that has no parent.
func (f *Forest) top(number int) int {
	for f.nodes[number].parent != noParent {
		number = f.nodes[number].parent
	}
	return number
}

// path gives the way from the top of the tree down to a place: the indexes of children, then the offset. Places are in the order of their paths; that an offset comes ahead of the child with the same index follows from its path being the shorter one.
func (f *Forest) path(p api.Place) []int {
	path := []int{p.Offset}
	for number := p.Node; f.nodes[number].parent != noParent; number = f.nodes[number].parent {
		path = append(path, f.index(number))
	}
	slices.Reverse(path)
	return path
}
