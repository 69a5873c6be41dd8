package margin_test

import (
	"math"
	"strings"
	"testing"

	"margin/api"
	"margin/margin"
)

// spliced is old with s in the place of count letters, told by whole letters alone.
func spliced(old string, offset, count int, s string) string {
	letters := strings.Split(old, "")
	gone := min(count, len(letters)-offset)
	return strings.Join(letters[:offset], "") + s + strings.Join(letters[offset+gone:], "")
}

// replace replaces, and looks at the text then.
func replace(t *testing.T, d *margin.Doc, node, offset, count int, s string, want string) {
	t.Helper()
	if err := d.Replace(node, offset, count, s); err != nil {
		t.Errorf("Replace(%d, %d, %d, %q): %#v", node, offset, count, s, err)
	}
	shows(t, d, node, want)
}

func split(t *testing.T, d *margin.Doc, node, offset int, want int) {
	t.Helper()
	if got, err := d.Split(node, offset); got != want || err != nil {
		t.Errorf("Split(%d, %d) = %d, %#v, want %d", node, offset, got, err, want)
	}
}

func splitRefused(t *testing.T, d *margin.Doc, node, offset int, why api.Problem) {
	t.Helper()
	got, err := d.Split(node, offset)
	faulty(t, "Split", err, node, why)
	if got != 0 {
		t.Errorf("Split(%d, %d) = %d beside an error", node, offset, got)
	}
}

func TestP1RefusedCallsOnTextsChangeNothing(t *testing.T) {
	d := example(t)
	for _, n := range nowhere {
		d.Replace(n, 0, 1, "x")
		d.Replace(2, n, 1, "x")
		d.Split(n, 0)
		d.Split(2, n)
		d.Compare(api.Place{Node: n}, api.Place{Node: n})
		d.Compare(api.Place{Node: 2, Offset: n}, api.Place{Node: 3, Offset: n})
	}
	d.Replace(0, 0, 1, "x")
	d.Replace(2, 0, -1, "x")
	d.Replace(2, 1, 2, "x\xff")
	d.Replace(2, 1, 2, strings.Repeat("x", api.MaxText-1))
	d.Split(1, 0)
	d.Split(2, 5)
	shows(t, d, 0, "<0 <1 2'abcd'> 3'é'>")
	makeElements(t, d, 1)
	shows(t, d, 4, "<4>")
}

func TestP2TextsOfDocumentsAreTheirOwn(t *testing.T) {
	one, two := example(t), example(t)
	replace(t, one, 2, 1, 1, "世世", "2'a世世cd'")
	split(t, one, 2, 1, 4)
	shows(t, one, 0, "<0 <1 2'a' 4'世世cd'> 3'é'>")
	shows(t, two, 0, "<0 <1 2'abcd'> 3'é'>")
}

func TestP9ReplaceEachPiece(t *testing.T) {
	const old = "a世é😀"
	for offset := range 5 {
		for _, count := range []int{0, 1, 2, 3, 4, 5, 1 << 32, math.MaxInt - 1, math.MaxInt} {
			for _, s := range []string{"", "x", "ßü", old, "\ufffd"} {
				d := margin.New()
				makeText(t, d, old)
				replace(t, d, 1, offset, count, s, "1'"+spliced(old, offset, count, s)+"'")
			}
		}
	}
}

func TestP9ReplaceAgainAndAgain(t *testing.T) {
	d := example(t)
	replace(t, d, 2, 0, 2, "xyz", "2'xyzcd'")
	replace(t, d, 2, 0, 0, "-", "2'-xyzcd'")
	replace(t, d, 2, 6, 9, "é", "2'-xyzcdé'")
	replace(t, d, 2, 6, 1, "", "2'-xyzcd'")
	replace(t, d, 2, 0, 6, "", "2''")
	replace(t, d, 2, 0, 0, "", "2''")
	replace(t, d, 2, 0, 1, `'\`, `2'\'\\'`)
	replace(t, d, 3, 0, 1, "e", "3'e'")
	shows(t, d, 0, `<0 <1 2'\'\\'> 3'e'>`)
}

func TestP9ReplaceInATextWithoutParent(t *testing.T) {
	d := example(t)
	remove(t, d, 2)
	replace(t, d, 2, 1, 2, "x", "2'axd'")
	insert(t, d, 0, 2, 0)
	shows(t, d, 0, "<0 2'axd' <1> 3'é'>")
}

func TestP9ReplaceTellsTheFirstProblem(t *testing.T) {
	d := example(t)
	for _, n := range nowhere {
		faulty(t, "no node", d.Replace(n, -1, -1, "\xff"), n, api.ErrNode)
		faulty(t, "no offset", d.Replace(2, n, 0, "\xff"), 2, api.ErrIndex)
	}
	faulty(t, "the first number that is free", d.Replace(4, 0, 0, ""), 4, api.ErrNode)
	faulty(t, "the root", d.Replace(0, -1, -1, "\xff"), 0, api.ErrKind)
	faulty(t, "an element", d.Replace(1, 0, 0, ""), 1, api.ErrKind)
	faulty(t, "behind the last offset", d.Replace(2, 5, 0, "\xff"), 2, api.ErrIndex)
	faulty(t, "offsets are characters, not bytes", d.Replace(3, 2, 0, ""), 3, api.ErrIndex)
	for _, count := range []int{-1, -2, -1 << 32, math.MinInt} {
		faulty(t, "a count below 0", d.Replace(2, 4, count, "\xff"), 2, api.ErrIndex)
		faulty(t, "a count below 0, and a good text", d.Replace(2, 0, count, "x"), 2, api.ErrIndex)
	}
	for _, s := range []string{"\xff", "a\x80", "\xc3", "\xa9", "\xed\xa0\x80", "世\xe4\xb8"} {
		faulty(t, "not UTF-8", d.Replace(3, 0, 0, s), 3, api.ErrText)
		faulty(t, "not UTF-8, behind", d.Replace(3, 1, 0, s), 3, api.ErrText)
	}
	shows(t, d, 0, "<0 <1 2'abcd'> 3'é'>")
}

func TestP9ReplaceNoLongerThanATextMayBe(t *testing.T) {
	for _, c := range []struct {
		offset, count int
		fits          int
	}{
		{0, 0, 26}, {4, 0, 26}, {2, 0, 26}, {0, 1, 27}, {1, 2, 28}, {2, 2, 28}, {0, 4, 30}, {4, 9, 26}, {3, 9, 27}, {0, math.MaxInt, 30},
	} {
		d := margin.New()
		makeText(t, d, "世é😀ß")
		most := strings.Repeat("世", c.fits)
		faulty(t, "one too many", d.Replace(1, c.offset, c.count, most+"x"), 1, api.ErrText)
		faulty(t, "far too many", d.Replace(1, c.offset, c.count, strings.Repeat("ab", 1000000)), 1, api.ErrText)
		replace(t, d, 1, c.offset, c.count, most, "1'"+spliced("世é😀ß", c.offset, c.count, most)+"'")
		faulty(t, "full", d.Replace(1, 0, 0, "x"), 1, api.ErrText)
		replace(t, d, 1, 0, api.MaxText, "x", "1'x'")
	}
}

func TestP10SplitAtEachOffset(t *testing.T) {
	for offset, want := range []string{
		"<0 <1> 2'' 4'a世é' <3>>", "<0 <1> 2'a' 4'世é' <3>>", "<0 <1> 2'a世' 4'é' <3>>", "<0 <1> 2'a世é' 4'' <3>>",
	} {
		d := margin.New()
		makeElements(t, d, 1)
		makeText(t, d, "a世é")
		makeElements(t, d, 1)
		for n := 1; n < 4; n++ {
			insert(t, d, 0, n, n-1)
		}
		split(t, d, 2, offset, 4)
		shows(t, d, 0, want)
	}
}

func TestP10SplitOfTheExample(t *testing.T) {
	d := example(t)
	replace(t, d, 2, 0, 2, "-xyz", "2'-xyzcd'")
	split(t, d, 2, 3, 4)
	shows(t, d, 0, "<0 <1 2'-xy' 4'zcd'> 3'é'>")
	split(t, d, 2, 1, 5)
	split(t, d, 4, 1, 6)
	split(t, d, 3, 1, 7)
	shows(t, d, 0, "<0 <1 2'-' 5'xy' 4'z' 6'cd'> 3'é' 7''>")
	replace(t, d, 5, 1, 1, "世", "5'x世'")
	shows(t, d, 2, "2'-'")
	remove(t, d, 5)
	shows(t, d, 0, "<0 <1 2'-' 4'z' 6'cd'> 3'é' 7''>")
	faulty(t, "the new one has a parent", d.Insert(0, 7, 0), 7, api.ErrParent)
}

func TestP10SplitWithoutParent(t *testing.T) {
	d := example(t)
	remove(t, d, 2)
	split(t, d, 2, 1, 4)
	shows(t, d, 2, "2'a'")
	shows(t, d, 4, "4'bcd'")
	shows(t, d, 0, "<0 <1> 3'é'>")
	faulty(t, "the new one has no parent", d.Remove(4), 4, api.ErrParent)
	faulty(t, "the old one has none either", d.Remove(2), 2, api.ErrParent)
	insert(t, d, 1, 4, 0)
	shows(t, d, 0, "<0 <1 4'bcd'> 3'é'>")
}

func TestP10SplitTellsTheFirstProblem(t *testing.T) {
	d := example(t)
	for _, n := range nowhere {
		splitRefused(t, d, n, -1, api.ErrNode)
		splitRefused(t, d, 2, n, api.ErrIndex)
	}
	splitRefused(t, d, 4, 0, api.ErrNode)
	splitRefused(t, d, 0, -1, api.ErrKind)
	splitRefused(t, d, 1, 0, api.ErrKind)
	splitRefused(t, d, 2, 5, api.ErrIndex)
	splitRefused(t, d, 3, 2, api.ErrIndex)
	shows(t, d, 0, "<0 <1 2'abcd'> 3'é'>")
}

func TestP10SplitOfOneTooMany(t *testing.T) {
	d := example(t)
	makeElements(t, d, api.MaxNodes-5)
	split(t, d, 2, 2, api.MaxNodes-1)
	splitRefused(t, d, 2, 1, api.ErrFull)
	splitRefused(t, d, 3, 0, api.ErrFull)
	splitRefused(t, d, 2, 3, api.ErrIndex)
	splitRefused(t, d, 1, 0, api.ErrKind)
	splitRefused(t, d, api.MaxNodes, 0, api.ErrNode)
	_, err := d.Element()
	faulty(t, "Element", err, 0, api.ErrFull)
	shows(t, d, 0, "<0 <1 2'ab' 39'cd'> 3'é'>")
}
