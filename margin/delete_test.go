package margin_test

import (
	"errors"
	"slices"
	"testing"

	"margin/api"
	"margin/margin"
)

func erase(t *testing.T, d *margin.Doc, r int) {
	t.Helper()
	if err := d.Delete(r); err != nil {
		t.Fatalf("Delete(%d): %#v", r, err)
	}
}

func TestP15DeleteOfNoRange(t *testing.T) {
	d := example(t)
	faulty(t, "Delete", d.Delete(0), 0, api.ErrRange)
	makeRange(t, d, 0)
	lay(t, d, 0, at(2, 1), at(3, 1))
	faulty(t, "Delete", d.Delete(1), 1, api.ErrRange)
	for _, n := range nowhere {
		faulty(t, "Delete", d.Delete(n), n, api.ErrRange)
	}
	shows(t, d, 0, "<0 <1 2'abcd'> 3'é'>")
	spans(t, d, 0, at(2, 1), at(3, 1))
}

func TestP15DeleteFromHereToThere(t *testing.T) {
	const shown = "<0 <1 2'ab世d'> <3> <4 5'xé' 6'z'>>"
	for _, c := range []struct {
		what       string
		start, end api.Place
		want       string
		then       api.Place
	}{
		{"from text to text", at(2, 1), at(6, 1), "<0 <1 2'a'> <4 6''>>", at(0, 1)},
		{"from text to text in one element", at(5, 1), at(6, 0), "<0 <1 2'ab世d'> <3> <4 5'x' 6'z'>>", at(4, 1)},
		{"from a text's beginning to a text's end", at(2, 0), at(5, 2), "<0 <1 2''> <4 5'' 6'z'>>", at(0, 1)},
		{"from a text's end to a text's beginning", at(2, 4), at(5, 0), "<0 <1 2'ab世d'> <4 5'xé' 6'z'>>", at(0, 1)},
		{"within a text", at(2, 1), at(2, 3), "<0 <1 2'ad'> <3> <4 5'xé' 6'z'>>", at(2, 1)},
		{"a whole text's characters", at(2, 0), at(2, 4), "<0 <1 2''> <3> <4 5'xé' 6'z'>>", at(2, 0)},
		{"the characters at a text's end", at(2, 2), at(2, 4), "<0 <1 2'ab'> <3> <4 5'xé' 6'z'>>", at(2, 2)},
		{"nothing in a text", at(2, 2), at(2, 2), shown, at(2, 2)},
		{"nothing in an element", at(0, 2), at(0, 2), shown, at(0, 2)},
		{"nothing in an element without children", at(3, 0), at(3, 0), shown, at(3, 0)},
		{"all", at(0, 0), at(0, 3), "<0>", at(0, 0)},
		{"within an element", at(0, 1), at(0, 2), "<0 <1 2'ab世d'> <4 5'xé' 6'z'>>", at(0, 1)},
		{"the last ones of an element", at(0, 1), at(0, 3), "<0 <1 2'ab世d'>>", at(0, 1)},
		{"from element to element", at(1, 0), at(4, 1), "<0 <1> <4 6'z'>>", at(0, 1)},
		{"from an element's end to an element's beginning", at(1, 1), at(4, 0), "<0 <1 2'ab世d'> <4 5'xé' 6'z'>>", at(0, 1)},
		{"from an element's place to a text", at(0, 1), at(5, 1), "<0 <1 2'ab世d'> <4 5'é' 6'z'>>", at(0, 1)},
		{"from an element to a text beside it", at(3, 0), at(6, 1), "<0 <1 2'ab世d'> <3> <4 6''>>", at(0, 2)},
		{"from a text to an element beside it", at(2, 3), at(3, 0), "<0 <1 2'ab世'> <3> <4 5'xé' 6'z'>>", at(0, 1)},
		{"from a text up to an element's place", at(2, 4), at(0, 2), "<0 <1 2'ab世d'> <4 5'xé' 6'z'>>", at(0, 1)},
		{"from a text up to the root's end", at(5, 1), at(0, 3), "<0 <1 2'ab世d'> <3> <4 5'x'>>", at(0, 3)},
		{"from a text up to its parent", at(2, 2), at(1, 1), "<0 <1 2'ab'> <3> <4 5'xé' 6'z'>>", at(1, 1)},
		{"from a text up to its parent's next child", at(5, 0), at(4, 2), "<0 <1 2'ab世d'> <3> <4 5''>>", at(4, 1)},
		{"from an element up to its parent", at(3, 0), at(0, 2), shown, at(0, 2)},
		{"from a parent down to its text", at(1, 0), at(2, 1), "<0 <1 2'b世d'> <3> <4 5'xé' 6'z'>>", at(1, 0)},
		{"from the root down to a text", at(0, 0), at(6, 0), "<0 <4 6'z'>>", at(0, 0)},
		{"from a parent down to an element", at(0, 1), at(3, 0), shown, at(0, 1)},
	} {
		d := plant(t, shown)
		makeRange(t, d, 0)
		lay(t, d, 0, c.start, c.end)
		if err := d.Delete(0); err != nil {
			t.Errorf("%s: %#v", c.what, err)
		}
		if got, err := d.Show(0); got != c.want || err != nil {
			t.Errorf("%s: %q, %v, want %q", c.what, got, err, c.want)
		}
		if got, err := d.Span(0); got != (api.Span{Start: c.then, End: c.then}) || err != nil {
			t.Errorf("%s: the range is at %v, %v, want %v", c.what, got, err, c.then)
		}
		reads(t, d, 0, "")
	}
}

func TestP15DeleteOfTheExample(t *testing.T) {
	for _, c := range []struct {
		start, end api.Place
		want       string
		then       api.Place
	}{
		{at(2, 1), at(6, 1), "<0 <1 2'a'> <4 6''>>", at(0, 1)},
		{at(0, 1), at(5, 1), "<0 <1 2'abcd'> <4 5'y' 6'z'>>", at(0, 1)},
		{at(2, 1), at(2, 3), "<0 <1 2'ad'> <3> <4 5'xy' 6'z'>>", at(2, 1)},
		{at(2, 4), at(0, 2), "<0 <1 2'abcd'> <4 5'xy' 6'z'>>", at(0, 1)},
	} {
		d := plant(t, "<0 <1 2'abcd'> <3> <4 5'xy' 6'z'>>")
		makeRange(t, d, 0)
		lay(t, d, 0, c.start, c.end)
		erase(t, d, 0)
		shows(t, d, 0, c.want)
		spans(t, d, 0, c.then, c.then)
	}
}

func TestP15NodesThatGoAreTreesOfTheirOwn(t *testing.T) {
	d := plant(t, "<0 1'ab' <2 3'c' <4 5'd'>> 6'' <7 8'e' 9'fg'>>")
	makeRange(t, d, 0)
	lay(t, d, 0, at(1, 1), at(9, 1))
	erase(t, d, 0)
	shows(t, d, 0, "<0 1'a' <7 9'g'>>")
	for node, want := range map[int]string{2: "<2 3'c' <4 5'd'>>", 6: "6''", 8: "8'e'"} {
		shows(t, d, node, want)
		faulty(t, "Remove", d.Remove(node), node, api.ErrParent)
	}
	compareRefused(t, d, at(2, 0), at(6, 0), 6, api.ErrRoots)
	insert(t, d, 7, 2, 0)
	shows(t, d, 0, "<0 1'a' <7 <2 3'c' <4 5'd'>> 9'g'>>")
	spans(t, d, 0, at(0, 1), at(0, 1))
}

// eraser lays range 0 and deletes what is in it.
func eraser(start, end api.Place) func(*margin.Doc) error {
	return func(d *margin.Doc) error {
		return errors.Join(d.SetStart(0, start), d.SetEnd(0, end), d.Delete(0))
	}
}

func TestP15OtherRangesGoWithWhatIsDone(t *testing.T) {
	build := func(t *testing.T) *margin.Doc {
		return plant(t, "<0 <1 2'abcd'> <3> <4 5'xy' 6'z'>>", "<7 8'pq'>")
	}
	change := eraser(at(2, 1), at(6, 1))
	follows(t, build, change, []step{
		{0, 0, 0, 0}, {1, 0, 1, 0}, {2, 0, 2, 0}, {2, 1, 2, 1}, {2, 2, 2, 1}, {2, 4, 2, 1}, {1, 1, 1, 1}, {0, 1, 0, 1},
		{3, 0, 0, 1}, {0, 2, 0, 1}, {4, 0, 4, 0}, {5, 0, 4, 0}, {5, 1, 4, 0}, {5, 2, 4, 0}, {4, 1, 4, 0}, {6, 0, 6, 0}, {6, 1, 6, 0}, {4, 2, 4, 1}, {0, 3, 0, 2},
	})
	follows(t, build, change, still(at(7, 0), at(8, 0), at(8, 1), at(8, 2), at(7, 1)))
}

func TestP15OtherRangesInTheOneText(t *testing.T) {
	build := func(t *testing.T) *margin.Doc { return plant(t, "<0 1'abcde' 2'f'>") }
	follows(t, build, eraser(at(1, 1), at(1, 3)), []step{
		{0, 0, 0, 0}, {1, 0, 1, 0}, {1, 1, 1, 1}, {1, 2, 1, 1}, {1, 3, 1, 1}, {1, 4, 1, 2}, {1, 5, 1, 3}, {0, 1, 0, 1}, {2, 0, 2, 0}, {2, 1, 2, 1}, {0, 2, 0, 2},
	})
}

func TestP15AnEmptyRangeMovesNone(t *testing.T) {
	for _, places := range trees() {
		for _, p := range places {
			follows(t, grove, eraser(p, p), still(places...))
		}
	}
}

// top gives the node of a node's tree that is within none.
func top(t *testing.T, d *margin.Doc, node int) int {
	t.Helper()
	most, found := 0, node
	for other := 0; ; other++ {
		walk, err := d.Walk(other)
		if err != nil {
			return found
		}
		all := slices.Collect(walk)
		if slices.Contains(all, node) && len(all) > most {
			most, found = len(all), other
		}
	}
}

// allShown tells all nodes, by their numbers.
func allShown(d *margin.Doc) []string {
	var all []string
	for {
		shown, err := d.Show(len(all))
		if err != nil {
			return all
		}
		all = append(all, shown)
	}
}

// allSpans tells where all ranges are, by their numbers.
func allSpans(d *margin.Doc) []api.Span {
	var all []api.Span
	for {
		span, err := d.Span(len(all))
		if err != nil {
			return all
		}
		all = append(all, span)
	}
}

// deletes deletes what is in a range, and looks whether all nodes and ranges are as the strip of its tree tells.
func deletes(t *testing.T, d *margin.Doc, r int) {
	t.Helper()
	nodes, ranges := allShown(d), allSpans(d)
	s := flatten(nodes[top(t, d, ranges[r].Start.Node)])
	places := s.places()
	i, j := slices.Index(places, ranges[r].Start), slices.Index(places, ranges[r].End)
	rest, then := s.without(i, j)
	left := rest.places()
	reads(t, d, r, s.read(i, j))
	erase(t, d, r)
	for number, shown := range nodes {
		if slices.ContainsFunc(rest, func(m mark) bool { return m.node == number }) {
			shown = rest.node(number).show()
		}
		shows(t, d, number, shown)
	}
	follow := func(p api.Place) api.Place {
		if k := slices.Index(places, p); k >= 0 {
			return left[then[k]]
		}
		return p
	}
	for other, span := range ranges {
		if other != r {
			spans(t, d, other, follow(span.Start), follow(span.End))
		}
	}
	joint := left[s.joint(i, j)]
	spans(t, d, r, joint, joint)
	if t.Failed() {
		t.Fatalf("so when Delete(%d) took from %v to %v of %s", r, places[i], places[j], s.show())
	}
}

func TestP15DeleteOfAllRangesBesideOthers(t *testing.T) {
	for _, forest := range forests() {
		var all, others []api.Span
		for _, shown := range forest {
			places := flatten(shown).places()
			for i, start := range places {
				others = append(others, api.Span{Start: start, End: places[(i+len(places))/2]})
				for _, end := range places[i:] {
					all = append(all, api.Span{Start: start, End: end})
				}
			}
		}
		for _, span := range all {
			for some := range slices.Chunk(others, api.MaxRanges-1) {
				d := plant(t, forest...)
				for r, s := range append([]api.Span{span}, some...) {
					makeRange(t, d, r)
					lay(t, d, r, s.Start, s.End)
				}
				deletes(t, d, 0)
			}
		}
	}
}

func TestP15DeleteAmongOtherChanges(t *testing.T) {
	count := 0
	for seed := range 100 {
		by := dice(seed)
		d := grove(t)
		for r := range api.MaxRanges {
			makeRange(t, d, r)
		}
		for range 50 {
			for range 30 {
				change(d, &by)
			}
			// What is within one node is tested enough elsewhere.
			r := slices.IndexFunc(allSpans(d), func(s api.Span) bool { return s.Start.Node != s.End.Node })
			if r >= 0 {
				deletes(t, d, r)
				count++
			}
		}
	}
	if count < 1000 {
		t.Errorf("only %d ranges went from one node to another one", count)
	}
}
