package tree

import (
	"iter"
	"slices"
)

// Walk gives a node and all within it, in the order of the tree.
func (f *Forest) Walk(number int) (iter.Seq[int], error) {
	if err := f.find(number); err != nil {
		return nil, err
	}
	// A list of its own, since the walk is to give the tree as it is now, whatever is changed later.
	return slices.Values(slices.Collect(f.all(number))), nil
}

// all goes through the tree as it is while it is gone through: nothing may be changed meanwhile.
func (f *Forest) all(number int) iter.Seq[int] {
	return func(yield func(int) bool) {
		if !yield(number) {
			return
		}
		for _, child := range f.nodes[number].children {
			for inner := range f.all(child) {
				if !yield(inner) {
					return
				}
			}
		}
	}
}

// holds tells whether a node is another one, or has it within it.
func (f *Forest) holds(number int, other int) bool {
	for inner := range f.all(number) {
		if inner == other {
			return true
		}
	}
	return false
}
