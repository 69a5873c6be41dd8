package margin_test

import (
	"math"
	"testing"

	"margin/api"
	"margin/margin"
)

// step is a place: its node and offset ahead of a change, and then.
type step [4]int

func (s step) was() api.Place { return at(s[0], s[1]) }
func (s step) is() api.Place  { return at(s[2], s[3]) }

// follows looks where all ranges that a tree may have are, once it is changed. The steps are places as they lie ahead of the change.
func follows(t *testing.T, build func(*testing.T) *margin.Doc, change func(*margin.Doc) error, steps []step) {
	t.Helper()
	for i, start := range steps {
		for _, end := range steps[i:] {
			d := build(t)
			makeRange(t, d, 0)
			makeRange(t, d, 1)
			lay(t, d, 1, start.was(), end.was())
			if err := change(d); err != nil {
				t.Fatal(err)
			}
			spans(t, d, 1, start.is(), end.is())
		}
	}
}

// still are steps of places that stay where they are.
func still(places ...api.Place) []step {
	var steps []step
	for _, p := range places {
		steps = append(steps, step{p.Node, p.Offset, p.Node, p.Offset})
	}
	return steps
}

func TestP5InsertMovesWhatIsBehind(t *testing.T) {
	// In <0 <7 5'a世' <2>> 6'' <1 <4 3'b'>>>, 8 comes to the root.
	for index := range 4 {
		steps := still(trees()[0]...)
		for i, s := range steps {
			if s[0] == 0 && s[1] > index {
				steps[i][3]++
			}
		}
		change := func(d *margin.Doc) error { return d.Insert(0, 8, index) }
		follows(t, grove, change, steps)
		follows(t, grove, change, still(trees()[1]...))
	}
}

func TestP5InsertMovesNothingBesideTheParent(t *testing.T) {
	change := func(d *margin.Doc) error { return d.Insert(7, 8, 1) }
	follows(t, grove, change, []step{
		{0, 0, 0, 0}, {7, 0, 7, 0}, {5, 0, 5, 0}, {5, 2, 5, 2}, {7, 1, 7, 1}, {2, 0, 2, 0}, {7, 2, 7, 3},
		{0, 1, 0, 1}, {6, 0, 6, 0}, {0, 2, 0, 2}, {1, 0, 1, 0}, {4, 1, 4, 1}, {1, 1, 1, 1}, {0, 3, 0, 3},
	})
	follows(t, grove, change, still(trees()[1]...))
}

func TestP5InsertIntoATreeOfItsOwn(t *testing.T) {
	build := func(t *testing.T) *margin.Doc {
		d := grove(t)
		remove(t, d, 2)
		return d
	}
	change := func(d *margin.Doc) error { return d.Insert(8, 2, 0) }
	follows(t, build, change, []step{{8, 0, 8, 0}, {9, 0, 9, 0}, {9, 1, 9, 1}, {8, 1, 8, 2}})
	follows(t, build, change, []step{{2, 0, 2, 0}})
	follows(t, build, change, still(at(0, 0), at(7, 0), at(7, 1), at(0, 1), at(0, 3)))
}

func TestP6RemoveGathersWhatIsWithin(t *testing.T) {
	for node, steps := range map[int][]step{
		7: {
			{0, 0, 0, 0}, {7, 0, 0, 0}, {5, 0, 0, 0}, {5, 1, 0, 0}, {5, 2, 0, 0}, {7, 1, 0, 0}, {2, 0, 0, 0}, {7, 2, 0, 0},
			{0, 1, 0, 0}, {6, 0, 6, 0}, {0, 2, 0, 1}, {1, 0, 1, 0}, {3, 1, 3, 1}, {4, 1, 4, 1}, {1, 1, 1, 1}, {0, 3, 0, 2},
		},
		2: {
			{0, 0, 0, 0}, {7, 0, 7, 0}, {5, 2, 5, 2}, {7, 1, 7, 1}, {2, 0, 7, 1}, {7, 2, 7, 1}, {0, 1, 0, 1}, {6, 0, 6, 0}, {0, 3, 0, 3},
		},
		5: {
			{0, 0, 0, 0}, {7, 0, 7, 0}, {5, 0, 7, 0}, {5, 1, 7, 0}, {5, 2, 7, 0}, {7, 1, 7, 0}, {2, 0, 2, 0}, {7, 2, 7, 1}, {0, 1, 0, 1}, {0, 3, 0, 3},
		},
		6: {
			{0, 0, 0, 0}, {7, 2, 7, 2}, {0, 1, 0, 1}, {6, 0, 0, 1}, {0, 2, 0, 1}, {1, 0, 1, 0}, {3, 0, 3, 0}, {1, 1, 1, 1}, {0, 3, 0, 2},
		},
		1: {
			{0, 0, 0, 0}, {5, 1, 5, 1}, {0, 1, 0, 1}, {6, 0, 6, 0}, {0, 2, 0, 2}, {1, 0, 0, 2}, {4, 0, 0, 2}, {3, 0, 0, 2}, {3, 1, 0, 2}, {4, 1, 0, 2}, {1, 1, 0, 2}, {0, 3, 0, 2},
		},
		4: {
			{0, 2, 0, 2}, {1, 0, 1, 0}, {4, 0, 1, 0}, {3, 0, 1, 0}, {3, 1, 1, 0}, {4, 1, 1, 0}, {1, 1, 1, 0}, {0, 3, 0, 3},
		},
		9: still(trees()[0]...),
	} {
		follows(t, grove, func(d *margin.Doc) error { return d.Remove(node) }, steps)
	}
}

func TestP6RemoveInAnotherTree(t *testing.T) {
	follows(t, grove, func(d *margin.Doc) error { return d.Remove(9) }, []step{{8, 0, 8, 0}, {9, 0, 8, 0}, {9, 1, 8, 0}, {8, 1, 8, 0}})
	follows(t, grove, func(d *margin.Doc) error { return d.Remove(7) }, still(trees()[1]...))
}

func TestP6WhatIsRemovedTakesNoRangeBack(t *testing.T) {
	d := example(t)
	makeRange(t, d, 0)
	lay(t, d, 0, at(2, 1), at(2, 3))
	remove(t, d, 1)
	spans(t, d, 0, at(0, 0), at(0, 0))
	insert(t, d, 0, 1, 1)
	spans(t, d, 0, at(0, 0), at(0, 0))
	lay(t, d, 0, at(3, 0), at(2, 3))
	remove(t, d, 2)
	spans(t, d, 0, at(3, 0), at(1, 0))
}

func TestP9ReplaceMovesPlacesInTheText(t *testing.T) {
	for _, c := range []struct {
		offset, count int
		s             string
		then          [5]int
	}{
		{0, 0, "", [5]int{0, 1, 2, 3, 4}},
		{0, 0, "世é", [5]int{0, 3, 4, 5, 6}},
		{0, 1, "", [5]int{0, 0, 1, 2, 3}},
		{0, 2, "xyz", [5]int{0, 0, 0, 4, 5}},
		{0, 4, "世世世世", [5]int{0, 0, 0, 0, 0}},
		{0, math.MaxInt, "é", [5]int{0, 0, 0, 0, 0}},
		{1, 0, "é", [5]int{0, 1, 3, 4, 5}},
		{1, 1, "é", [5]int{0, 1, 1, 3, 4}},
		{1, 1, "éé", [5]int{0, 1, 1, 4, 5}},
		{1, 2, "", [5]int{0, 1, 1, 1, 2}},
		{1, 2, "x", [5]int{0, 1, 1, 1, 3}},
		{1, 3, "xyz", [5]int{0, 1, 1, 1, 1}},
		{2, 1, "", [5]int{0, 1, 2, 2, 3}},
		{2, 9, "xyz", [5]int{0, 1, 2, 2, 2}},
		{3, 1, "世", [5]int{0, 1, 2, 3, 3}},
		{3, math.MaxInt, "", [5]int{0, 1, 2, 3, 3}},
		{4, 0, "世世", [5]int{0, 1, 2, 3, 4}},
		{4, 1, "x", [5]int{0, 1, 2, 3, 4}},
	} {
		steps := still(at(0, 0), at(1, 0))
		for was, is := range c.then {
			steps = append(steps, step{2, was, 2, is})
		}
		steps = append(steps, still(at(1, 1), at(0, 1), at(3, 0), at(3, 1), at(0, 2))...)
		follows(t, example, func(d *margin.Doc) error { return d.Replace(2, c.offset, c.count, c.s) }, steps)
	}
}

func TestP9ReplaceInATreeOfItsOwn(t *testing.T) {
	build := func(t *testing.T) *margin.Doc {
		d := example(t)
		remove(t, d, 2)
		return d
	}
	change := func(d *margin.Doc) error { return d.Replace(2, 1, 2, "世") }
	follows(t, build, change, []step{{2, 0, 2, 0}, {2, 1, 2, 1}, {2, 2, 2, 1}, {2, 3, 2, 1}, {2, 4, 2, 3}})
	follows(t, build, change, still(at(0, 0), at(1, 0), at(0, 1), at(3, 0), at(3, 1), at(0, 2)))
}

// words gives <0 1'a' <2 3'x' 4'b世éd' 5'y'> 6'c'>.
func words(t *testing.T) *margin.Doc {
	t.Helper()
	d := margin.New()
	makeText(t, d, "a")
	makeElements(t, d, 1)
	for _, s := range []string{"x", "b世éd", "y", "c"} {
		makeText(t, d, s)
	}
	for _, in := range [][3]int{{0, 1, 0}, {0, 2, 1}, {0, 6, 2}, {2, 3, 0}, {2, 4, 1}, {2, 5, 2}} {
		insert(t, d, in[0], in[1], in[2])
	}
	return d
}

func splitter(node, offset int) func(*margin.Doc) error {
	return func(d *margin.Doc) error {
		_, err := d.Split(node, offset)
		return err
	}
}

func TestP10SplitMovesPlacesToTheNewText(t *testing.T) {
	for offset := range 5 {
		steps := still(at(0, 0), at(1, 0), at(1, 1), at(0, 1), at(2, 0), at(3, 0), at(3, 1), at(2, 1))
		for was := range 5 {
			if was > offset {
				steps = append(steps, step{4, was, 7, was - offset})
			} else {
				steps = append(steps, step{4, was, 4, was})
			}
		}
		steps = append(steps, step{2, 2, 2, 3}, step{5, 0, 5, 0}, step{5, 1, 5, 1}, step{2, 3, 2, 4})
		steps = append(steps, still(at(0, 2), at(6, 0), at(6, 1), at(0, 3))...)
		follows(t, words, splitter(4, offset), steps)
	}
}

func TestP10SplitOfTheFirstAndOfTheLastChild(t *testing.T) {
	follows(t, words, splitter(1, 0), []step{{0, 0, 0, 0}, {1, 0, 1, 0}, {1, 1, 7, 1}, {0, 1, 0, 2}, {2, 0, 2, 0}, {4, 4, 4, 4}, {2, 3, 2, 3}, {0, 2, 0, 3}, {6, 1, 6, 1}, {0, 3, 0, 4}})
	follows(t, words, splitter(6, 1), []step{{0, 0, 0, 0}, {1, 1, 1, 1}, {0, 1, 0, 1}, {2, 1, 2, 1}, {0, 2, 0, 2}, {6, 0, 6, 0}, {6, 1, 6, 1}, {0, 3, 0, 4}})
}

func TestP10SplitWithoutParentKeepsRanges(t *testing.T) {
	build := func(t *testing.T) *margin.Doc {
		d := words(t)
		remove(t, d, 4)
		return d
	}
	for offset := range 5 {
		var steps []step
		for was := range 5 {
			steps = append(steps, step{4, was, 4, min(was, offset)})
		}
		follows(t, build, splitter(4, offset), steps)
		follows(t, build, splitter(4, offset), still(at(0, 0), at(2, 0), at(3, 1), at(2, 1), at(5, 0), at(2, 2), at(0, 2), at(0, 3)))
	}
}
