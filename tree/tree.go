// Package tree: elements and texts by their numbers, and the trees that they make.
package tree

import (
	"slices"
	"strings"

	"margin/api"
	"margin/chars"
)

// Root is the number of a forest's first node.
const Root = 0

// noParent is no node's number.
const noParent = -1

type node struct {
	parent     int
	isText     bool
	children   []int
	characters string
}

// Forest is nodes, each of which is in one tree.
type Forest struct {
	nodes []node
}

// New gives a forest of a root alone.
func New() *Forest {
	return &Forest{nodes: []node{{parent: noParent}}}
}

// Element makes an element without children or parent.
func (f *Forest) Element() (int, error) {
	return f.add(node{parent: noParent}, Root)
}

// Text makes a text without parent.
func (f *Forest) Text(s string) (int, error) {
	if err := chars.Check(s, api.MaxText); err != nil {
		return 0, Refusal{Root, err}
	}
	// A copy, since s may be a short piece of a long string, all of which would be kept with it.
	return f.addText(strings.Clone(s), Root)
}

func (f *Forest) addText(characters string, about int) (int, error) {
	return f.add(node{parent: noParent, isText: true, characters: characters}, about)
}

// add relies on no node ever leaving the forest: how many there are is how many were ever made.
func (f *Forest) add(n node, about int) (int, error) {
	if len(f.nodes) >= api.MaxNodes {
		return 0, Refusal{about, api.ErrFull}
	}
	f.nodes = append(f.nodes, n)
	return len(f.nodes) - 1, nil
}

// find answers an error, if there is no such node.
func (f *Forest) find(number int) error {
	if number < 0 || number >= len(f.nodes) {
		return Refusal{number, api.ErrNode}
	}
	return nil
}

// Insert makes a node the child of another one, at that index.
func (f *Forest) Insert(parent int, number int, index int) (Move, error) {
	if err := f.mayInsert(parent, number, index); err != nil {
		return nil, err
	}
	f.attach(parent, number, index)
	return shift(parent, index, 1), nil
}

func (f *Forest) attach(parent int, number int, index int) {
	above := &f.nodes[parent]
	above.children = slices.Insert(above.children, index, number)
	f.nodes[number].parent = parent
}

func (f *Forest) mayInsert(parent int, number int, index int) error {
	if err := f.find(parent); err != nil {
		return err
	}
	if err := f.find(number); err != nil {
		return err
	}
	switch {
	case f.nodes[parent].isText:
		return Refusal{parent, api.ErrKind}
	case number == Root || f.nodes[number].parent != noParent:
		return Refusal{number, api.ErrParent}
	case f.holds(number, parent):
		return Refusal{number, api.ErrCycle}
	case index < 0 || index > len(f.nodes[parent].children):
		return Refusal{parent, api.ErrIndex}
	}
	return nil
}

// Remove takes a node from its parent, with all within it.
func (f *Forest) Remove(number int) (Move, error) {
	if err := f.find(number); err != nil {
		return nil, err
	}
	if f.nodes[number].parent == noParent {
		return nil, Refusal{number, api.ErrParent}
	}
	left := f.ahead(number)
	above := &f.nodes[left.Node]
	above.children = slices.Delete(above.children, left.Offset, left.Offset+1)
	f.nodes[number].parent = noParent
	gone := slices.Collect(f.all(number))
	return gather(gone, left, shift(left.Node, left.Offset, -1)), nil
}

// index tells which child of its parent a node is, which must have one.
func (f *Forest) index(number int) int {
	return slices.Index(f.nodes[f.nodes[number].parent].children, number)
}
