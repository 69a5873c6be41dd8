// Package margin: a tree of elements and texts, and ranges in it: see DOC.md.
package margin

import (
	"margin/api"
	"margin/ranges"
	"margin/tree"
)

// Doc is nodes and ranges.
type Doc struct {
	nodes  *tree.Forest
	ranges *ranges.List
}

// New gives a document (P3).
func New() *Doc {
	nodes := tree.New()
	return &Doc{nodes: nodes, ranges: ranges.New(nodes)}
}

// follow lets the ranges go with a change of the nodes, if it was not refused.
func (d *Doc) follow(move tree.Move, err error) error {
	if err != nil {
		return fault(err)
	}
	d.ranges.Follow(move)
	return nil
}

// Element makes an element (P4).
func (d *Doc) Element() (int, error) {
	number, err := d.nodes.Element()
	return number, fault(err)
}

// Text makes a text (P4).
func (d *Doc) Text(s string) (int, error) {
	number, err := d.nodes.Text(s)
	return number, fault(err)
}

// Insert puts a node under another one (P5).
func (d *Doc) Insert(parent int, node int, index int) error {
	return d.follow(d.nodes.Insert(parent, node, index))
}

// Remove takes a node from its parent (P6).
func (d *Doc) Remove(node int) error {
	return d.follow(d.nodes.Remove(node))
}

// Show tells a node, with all within it, as text (P7).
func (d *Doc) Show(node int) (string, error) {
	shown, err := d.nodes.Show(node)
	return shown, fault(err)
}

// Walk gives a node and all within it (P8).
func (d *Doc) Walk(node int) (func(yield func(node int) bool), error) {
	walk, err := d.nodes.Walk(node)
	return walk, fault(err)
}

// Replace puts characters in the place of others (P9).
func (d *Doc) Replace(node int, offset int, count int, s string) error {
	return d.follow(d.nodes.Replace(node, offset, count, s))
}

// Split makes two texts of one (P10).
func (d *Doc) Split(node int, offset int) (int, error) {
	number, move, err := d.nodes.Split(node, offset)
	return number, d.follow(move, err)
}

// Compare tells which of two places comes first (P11).
func (d *Doc) Compare(a api.Place, b api.Place) (int, error) {
	order, err := d.nodes.Compare(a, b)
	return order, fault(err)
}

// Range makes a range (P12).
func (d *Doc) Range() (int, error) {
	number, err := d.ranges.Add()
	return number, fault(err)
}

// SetStart sets where a range begins (P13).
func (d *Doc) SetStart(r int, p api.Place) error {
	return fault(d.ranges.SetStart(r, p))
}

// SetEnd sets where it ends (P13).
func (d *Doc) SetEnd(r int, p api.Place) error {
	return fault(d.ranges.SetEnd(r, p))
}

// Span tells from where to where a range is (P12).
func (d *Doc) Span(r int) (api.Span, error) {
	span, err := d.ranges.Span(r)
	return span, fault(err)
}

// Read tells the characters in a range (P14).
func (d *Doc) Read(r int) (string, error) {
	characters, err := d.ranges.Read(r)
	return characters, fault(err)
}

// Delete takes away what is in a range (P15).
func (d *Doc) Delete(r int) error {
	return fault(d.ranges.Delete(r))
}
