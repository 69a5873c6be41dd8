package margin_test

import (
	"cmp"
	"testing"

	"margin/api"
	"margin/margin"
)

func at(node, offset int) api.Place { return api.Place{Node: node, Offset: offset} }

func compares(t *testing.T, d *margin.Doc, a, b api.Place, want int) {
	t.Helper()
	if got, err := d.Compare(a, b); got != want || err != nil {
		t.Errorf("Compare(%v, %v) = %d, %#v, want %d", a, b, got, err, want)
	}
}

func compareRefused(t *testing.T, d *margin.Doc, a, b api.Place, about int, why api.Problem) {
	t.Helper()
	got, err := d.Compare(a, b)
	faulty(t, "Compare", err, about, why)
	if got != 0 {
		t.Errorf("Compare(%v, %v) = %d beside an error", a, b, got)
	}
}

// inOrder compares all pairs of places, which are listed as they lie.
func inOrder(t *testing.T, d *margin.Doc, places []api.Place) {
	t.Helper()
	for i, a := range places {
		for j, b := range places {
			compares(t, d, a, b, cmp.Compare(i, j))
		}
	}
}

// grove gives the document that is shown below, with <8 9'c'> as a tree of its own.
func grove(t *testing.T) *margin.Doc {
	t.Helper()
	d := margin.New()
	makeElements(t, d, 2)
	makeText(t, d, "b")
	makeElements(t, d, 1)
	makeText(t, d, "a世")
	makeText(t, d, "")
	makeElements(t, d, 2)
	makeText(t, d, "c")
	for _, in := range [][3]int{{0, 7, 0}, {0, 6, 1}, {0, 1, 2}, {7, 5, 0}, {7, 2, 1}, {1, 4, 0}, {4, 3, 0}, {8, 9, 0}} {
		insert(t, d, in[0], in[1], in[2])
	}
	shows(t, d, 0, "<0 <7 5'a世' <2>> 6'' <1 <4 3'b'>>>")
	return d
}

// trees are all places of the document that grove gives, tree by tree, as they lie.
func trees() [][]api.Place {
	return [][]api.Place{
		{
			at(0, 0), at(7, 0), at(5, 0), at(5, 1), at(5, 2), at(7, 1), at(2, 0), at(7, 2),
			at(0, 1), at(6, 0), at(0, 2), at(1, 0), at(4, 0), at(3, 0), at(3, 1), at(4, 1), at(1, 1), at(0, 3),
		},
		{at(8, 0), at(9, 0), at(9, 1), at(8, 1)},
	}
}

func TestP11CompareOfTheExample(t *testing.T) {
	d := example(t)
	compares(t, d, at(0, 0), at(2, 0), -1)
	compares(t, d, at(0, 1), at(2, 4), 1)
	compares(t, d, at(1, 1), at(2, 4), 1)
	compares(t, d, at(2, 4), at(3, 0), -1)
	compares(t, d, at(0, 1), at(3, 0), -1)
}

func TestP11CompareAllPlacesOfATree(t *testing.T) {
	d := grove(t)
	for _, places := range trees() {
		inOrder(t, d, places)
	}
}

func TestP11CompareGoesWithWhatIsChanged(t *testing.T) {
	d := grove(t)
	remove(t, d, 7)
	insert(t, d, 4, 7, 1)
	insert(t, d, 0, 8, 0)
	split(t, d, 5, 1, 10)
	if err := d.Replace(6, 0, 0, "é"); err != nil {
		t.Fatal(err)
	}
	shows(t, d, 0, "<0 <8 9'c'> 6'é' <1 <4 3'b' <7 5'a' 10'世' <2>>>>>")
	inOrder(t, d, []api.Place{
		at(0, 0), at(8, 0), at(9, 0), at(9, 1), at(8, 1), at(0, 1), at(6, 0), at(6, 1), at(0, 2),
		at(1, 0), at(4, 0), at(3, 0), at(3, 1), at(4, 1), at(7, 0), at(5, 0), at(5, 1), at(7, 1), at(10, 0), at(10, 1),
		at(7, 2), at(2, 0), at(7, 3), at(4, 2), at(1, 1), at(0, 3),
	})
}

func TestP11CompareInATreeOfItsOwn(t *testing.T) {
	d := grove(t)
	remove(t, d, 7)
	inOrder(t, d, []api.Place{at(7, 0), at(5, 0), at(5, 1), at(5, 2), at(7, 1), at(2, 0), at(7, 2)})
	inOrder(t, d, []api.Place{at(0, 0), at(6, 0), at(0, 1), at(1, 0), at(4, 0), at(3, 0), at(3, 1), at(4, 1), at(1, 1), at(0, 2)})
	compareRefused(t, d, at(0, 0), at(7, 0), 7, api.ErrRoots)
	remove(t, d, 5)
	inOrder(t, d, []api.Place{at(5, 0), at(5, 1), at(5, 2)})
	compareRefused(t, d, at(5, 0), at(7, 1), 7, api.ErrRoots)
}

func TestP11CompareOfTwoTrees(t *testing.T) {
	d := grove(t)
	for _, a := range []api.Place{at(0, 0), at(0, 3), at(5, 1), at(2, 0)} {
		for _, b := range []api.Place{at(8, 0), at(8, 1), at(9, 0), at(9, 1)} {
			compareRefused(t, d, a, b, b.Node, api.ErrRoots)
			compareRefused(t, d, b, a, a.Node, api.ErrRoots)
		}
	}
}

func TestP11CompareTellsTheFirstProblem(t *testing.T) {
	d := grove(t)
	for _, n := range nowhere {
		compareRefused(t, d, at(n, -1), at(n-1, -1), n, api.ErrNode)
		compareRefused(t, d, at(n, 0), at(8, 9), n, api.ErrNode)
		compareRefused(t, d, at(0, n), at(n, n), 0, api.ErrIndex)
		compareRefused(t, d, at(5, n), at(5, n), 5, api.ErrIndex)
		compareRefused(t, d, at(0, 0), at(n, n), n, api.ErrNode)
		compareRefused(t, d, at(0, 0), at(8, n), 8, api.ErrIndex)
		compareRefused(t, d, at(0, 0), at(9, n), 9, api.ErrIndex)
	}
	compareRefused(t, d, at(0, 4), at(10, 0), 0, api.ErrIndex)
	compareRefused(t, d, at(2, 1), at(0, 4), 2, api.ErrIndex)
	compareRefused(t, d, at(5, 3), at(5, 4), 5, api.ErrIndex)
	compareRefused(t, d, at(6, 1), at(6, 0), 6, api.ErrIndex)
	compareRefused(t, d, at(0, 3), at(10, 0), 10, api.ErrNode)
	compareRefused(t, d, at(0, 3), at(8, 2), 8, api.ErrIndex)
	compareRefused(t, d, at(8, 1), at(5, 3), 5, api.ErrIndex)
}

func TestP11CompareChangesNothing(t *testing.T) {
	d := grove(t)
	compares(t, d, at(5, 2), at(3, 1), -1)
	compareRefused(t, d, at(5, 2), at(9, 1), 9, api.ErrRoots)
	shows(t, d, 0, "<0 <7 5'a世' <2>> 6'' <1 <4 3'b'>>>")
	shows(t, d, 8, "<8 9'c'>")
}
