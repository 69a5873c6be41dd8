package margin_test

import (
	"testing"

	"margin/api"
	"margin/margin"
)

func reads(t *testing.T, d *margin.Doc, r int, want string) {
	t.Helper()
	if got, err := d.Read(r); got != want || err != nil {
		t.Errorf("Read(%d) = %q, %#v, want %q", r, got, err, want)
	}
}

func readRefused(t *testing.T, d *margin.Doc, r int) {
	t.Helper()
	got, err := d.Read(r)
	faulty(t, "Read", err, r, api.ErrRange)
	if got != "" {
		t.Errorf("Read(%d) = %q beside an error", r, got)
	}
}

// forests are shown trees of a document each, the root's first; what is of interest is in how the nodes lie.
func forests() [][]string {
	return [][]string{
		{"<0>"},
		{"<0>", "1'a世'"},
		{"<0 <1 2'abcd'> <3> <4 5'xy' 6'z'>>"},
		{"<0 <7 5'a世' <2>> 6'' <1 <4 3'b'>>>", "<8 9'c'>"},
		{"<0 1'é' <2 <3 4'😀-'> <5>> 6'x'>", "<7 <8 9'pq'> 10'r' <11>>"},
	}
}

func TestP14ReadOfNoRange(t *testing.T) {
	d := example(t)
	readRefused(t, d, 0)
	makeRange(t, d, 0)
	lay(t, d, 0, at(0, 0), at(0, 2))
	readRefused(t, d, 1)
	for _, n := range nowhere {
		readRefused(t, d, n)
	}
	reads(t, d, 0, "abcdé")
}

func TestP14ReadOfTheExample(t *testing.T) {
	d := example(t)
	makeRange(t, d, 0)
	lay(t, d, 0, at(2, 1), at(3, 1))
	reads(t, d, 0, "bcdé")
	replace(t, d, 2, 0, 2, "xyz", "2'xyzcd'")
	reads(t, d, 0, "xyzcdé")
	replace(t, d, 2, 0, 0, "-", "2'-xyzcd'")
	reads(t, d, 0, "-xyzcdé")
	split(t, d, 2, 3, 4)
	reads(t, d, 0, "-xyzcdé")
}

func TestP14ReadFromHereToThere(t *testing.T) {
	d := plant(t, "<0 <1 2'ab世d'> <3> <4 5'xé' 6'' 7'z'>>", "<8 9'pq'>", "10'rs'")
	makeRange(t, d, 0)
	makeRange(t, d, 1)
	for _, c := range []struct {
		what       string
		start, end api.Place
		want       string
	}{
		{"all", at(0, 0), at(0, 3), "ab世dxéz"},
		{"within a text", at(2, 1), at(2, 3), "b世"},
		{"a whole text", at(2, 0), at(2, 4), "ab世d"},
		{"an empty text", at(6, 0), at(6, 0), ""},
		{"nothing in a text", at(2, 2), at(2, 2), ""},
		{"nothing in an element", at(0, 1), at(0, 1), ""},
		{"from text to text", at(2, 3), at(5, 1), "dx"},
		{"from text to text with one between", at(5, 1), at(7, 1), "éz"},
		{"from a text's end to a text's beginning", at(2, 4), at(5, 0), ""},
		{"within an element", at(4, 0), at(4, 2), "xé"},
		{"behind an element's children", at(1, 1), at(4, 0), ""},
		{"from an element down to a text", at(0, 0), at(2, 1), "a"},
		{"from a text up to an element", at(5, 1), at(0, 3), "éz"},
		{"from a text up to its parent", at(2, 3), at(1, 1), "d"},
		{"from a parent down to its text", at(1, 0), at(2, 3), "ab世"},
		{"from an element's place to a text", at(0, 1), at(7, 1), "xéz"},
		{"from a text to an element's place", at(2, 1), at(4, 1), "b世dxé"},
		{"an element without texts", at(0, 1), at(0, 2), ""},
		{"from an element without children", at(3, 0), at(5, 2), "xé"},
		{"another tree", at(8, 0), at(9, 1), "p"},
		{"a text without parent", at(10, 1), at(10, 2), "s"},
	} {
		lay(t, d, 0, c.start, c.end)
		lay(t, d, 1, c.start, c.end)
		if got, err := d.Read(1); got != c.want || err != nil {
			t.Errorf("%s: Read = %q, %#v, want %q", c.what, got, err, c.want)
		}
		spans(t, d, 0, c.start, c.end)
		spans(t, d, 1, c.start, c.end)
	}
}

func TestP14ReadOfAllRanges(t *testing.T) {
	for _, forest := range forests() {
		d := plant(t, forest...)
		makeRange(t, d, 0)
		for _, shown := range forest {
			s := flatten(shown)
			places := s.places()
			for i, start := range places {
				for j := i; j < len(places); j++ {
					lay(t, d, 0, start, places[j])
					reads(t, d, 0, s.read(i, j))
				}
			}
			shows(t, d, s[0].node, shown)
		}
	}
}

func TestP14ReadGoesWithTheTree(t *testing.T) {
	d := plant(t, "<0 <1 2'ab'> 3'cd'>", "4'-'")
	makeRange(t, d, 0)
	lay(t, d, 0, at(2, 1), at(3, 1))
	insert(t, d, 0, 4, 1)
	reads(t, d, 0, "b-c")
	remove(t, d, 1)
	reads(t, d, 0, "-c")
	remove(t, d, 3)
	insert(t, d, 0, 3, 0)
	reads(t, d, 0, "cd-")
	remove(t, d, 4)
	reads(t, d, 0, "cd")
}

func TestP14ReadOfLongTexts(t *testing.T) {
	d := margin.New()
	want := ""
	for number := 1; number < api.MaxNodes; number++ {
		s := "世é😀-a世é😀-a世é😀-a世é😀-a世é😀-a世é😀-a"
		makeText(t, d, s)
		insert(t, d, 0, number, number-1)
		want += s
	}
	makeRange(t, d, 0)
	lay(t, d, 0, at(0, 0), at(0, api.MaxNodes-1))
	reads(t, d, 0, want)
	lay(t, d, 0, at(1, api.MaxText-1), at(3, 1))
	reads(t, d, 0, "a世é😀-a世é😀-a世é😀-a世é😀-a世é😀-a世é😀-a世")
}
