package margin_test

import (
	"errors"
	"math"
	"slices"
	"strings"
	"testing"

	"margin/api"
	"margin/margin"
)

func TestP1RefusedCallsChangeNothing(t *testing.T) {
	d := example(t)
	makeElements(t, d, 1)
	before := walk(t, d, 0)
	for _, n := range nowhere {
		d.Insert(n, 4, 0)
		d.Insert(0, n, 0)
		d.Insert(0, 4, n)
		d.Remove(n)
		d.Show(n)
		d.Walk(n)
	}
	d.Insert(2, 4, 0)
	d.Insert(4, 1, 0)
	d.Insert(4, 4, 0)
	d.Insert(4, 0, 0)
	d.Remove(0)
	d.Remove(4)
	d.Text("\xff")
	shows(t, d, 0, "<0 <1 2'abcd'> 3'é'>")
	shows(t, d, 4, "<4>")
	if got := slices.Collect(before); !slices.Equal(got, []int{0, 1, 2, 3}) {
		t.Errorf("the walk gives %v", got)
	}
	if n := makeText(t, d, ""); n != 5 {
		t.Errorf("the next node is %d, want 5", n)
	}
}

func TestP1FaultsWrapTheirProblem(t *testing.T) {
	err := margin.New().Remove(0)
	if !errors.Is(err, api.ErrParent) || errors.Is(err, api.ErrNode) {
		t.Errorf("Remove(0): %#v, want one that is ErrParent alone", err)
	}
	var fault api.Fault
	if !errors.As(err, &fault) || fault != (api.Fault{About: 0, Why: api.ErrParent}) {
		t.Errorf("Remove(0): %#v", err)
	}
}

func TestP2DocumentsDoNotChangeOneAnother(t *testing.T) {
	one, two := example(t), example(t)
	remove(t, one, 1)
	makeElements(t, one, api.MaxNodes-4)
	shows(t, one, 0, "<0 3'é'>")
	shows(t, two, 0, "<0 <1 2'abcd'> 3'é'>")
	if n := makeText(t, two, "x"); n != 4 {
		t.Errorf("Text = %d, want 4", n)
	}
	shows(t, one, 4, "<4>")
	shows(t, margin.New(), 0, "<0>")
}

func TestP3NewHasARootAlone(t *testing.T) {
	d := margin.New()
	shows(t, d, 0, "<0>")
	if got := slices.Collect(walk(t, d, 0)); !slices.Equal(got, []int{0}) {
		t.Errorf("Walk(0) gives %v, want 0 alone", got)
	}
	_, err := d.Show(1)
	faulty(t, "Show(1)", err, 1, api.ErrNode)
	makeElements(t, d, 1)
	insert(t, d, 0, 1, 0)
	shows(t, d, 0, "<0 <1>>")
}

func TestP4NumbersGoInTheOrderOfMaking(t *testing.T) {
	d := margin.New()
	for want := 1; want < 7; want += 2 {
		if n, err := d.Element(); n != want || err != nil {
			t.Errorf("Element = %d, %v, want %d", n, err, want)
		}
		if n, err := d.Text("t"); n != want+1 || err != nil {
			t.Errorf("Text = %d, %v, want %d", n, err, want+1)
		}
	}
	shows(t, d, 0, "<0>")
	shows(t, d, 5, "<5>")
	shows(t, d, 6, "6't'")
	faulty(t, "a new element has no parent", d.Remove(5), 5, api.ErrParent)
	faulty(t, "a new text has no parent", d.Remove(6), 6, api.ErrParent)
}

func TestP4TextsThatThereMayBe(t *testing.T) {
	for _, s := range []string{
		"", "a", " \t\n\x00", "\ufffd", "\U0010ffff", "e\u0301",
		strings.Repeat("a", api.MaxText), strings.Repeat("é", api.MaxText),
		strings.Repeat("世", api.MaxText), strings.Repeat("😀", api.MaxText), strings.Repeat("\ufffd", api.MaxText),
	} {
		d := margin.New()
		if n, err := d.Text(s); n != 1 || err != nil {
			t.Errorf("Text(%q) = %d, %#v, want 1", s, n, err)
		}
		shows(t, d, 1, "1'"+s+"'")
	}
}

func TestP4TextsThatAreRefused(t *testing.T) {
	d := margin.New()
	for _, s := range []string{
		"\xff", "a\xff", "\x80", "\xc3", "é\xe4\xb8", "\ufffd\xbd", "\xc0\x80", "\xed\xa0\x80", "\xf4\x90\x80\x80",
		strings.Repeat("a", api.MaxText) + "\xff", strings.Repeat("a", api.MaxText-1) + "\xff",
		strings.Repeat("a", api.MaxText+1), strings.Repeat("😀", api.MaxText+1), strings.Repeat("ab", 1000000),
	} {
		n, err := d.Text(s)
		faulty(t, "Text", err, 0, api.ErrText)
		if n != 0 {
			t.Errorf("Text(%.40q) = %d, want 0 beside an error", s, n)
		}
	}
	if n := makeText(t, d, "a"); n != 1 {
		t.Errorf("Text = %d, want 1: what is refused takes no number", n)
	}
}

func TestP4NoMoreNodesThanMayBeMade(t *testing.T) {
	d := margin.New()
	makeElements(t, d, api.MaxNodes-2)
	if n := makeText(t, d, "last"); n != api.MaxNodes-1 {
		t.Errorf("Text = %d, want %d", n, api.MaxNodes-1)
	}
	// Full stays full, wherever the nodes are: it counts what was ever made.
	insert(t, d, 0, 1, 0)
	remove(t, d, 1)
	n, err := d.Element()
	faulty(t, "Element", err, 0, api.ErrFull)
	m, err := d.Text("")
	faulty(t, "Text", err, 0, api.ErrFull)
	k, err := d.Text("\xff")
	faulty(t, "a bad text is told first", err, 0, api.ErrText)
	if n != 0 || m != 0 || k != 0 {
		t.Errorf("%d, %d, %d, want 0 beside an error", n, m, k)
	}
	shows(t, d, api.MaxNodes-1, "39'last'")
	_, err = d.Show(api.MaxNodes)
	faulty(t, "Show", err, api.MaxNodes, api.ErrNode)
}

func TestP5InsertAtEachIndex(t *testing.T) {
	for index, want := range []string{"<0 <4> <1> <2> <3>>", "<0 <1> <4> <2> <3>>", "<0 <1> <2> <4> <3>>", "<0 <1> <2> <3> <4>>"} {
		d := margin.New()
		makeElements(t, d, 4)
		insert(t, d, 0, 1, 0)
		insert(t, d, 0, 2, 1)
		insert(t, d, 0, 3, 2)
		insert(t, d, 0, 4, index)
		shows(t, d, 0, want)
		faulty(t, "it has a parent now", d.Insert(0, 4, 0), 4, api.ErrParent)
	}
}

func TestP5InsertTakesAllWithinAlong(t *testing.T) {
	d := margin.New()
	makeElements(t, d, 3)
	insert(t, d, 2, makeText(t, d, "in"), 0)
	insert(t, d, 3, 2, 0)
	insert(t, d, 1, 3, 0)
	shows(t, d, 1, "<1 <3 <2 4'in'>>>")
	insert(t, d, 0, 1, 0)
	shows(t, d, 0, "<0 <1 <3 <2 4'in'>>>>")
}

func TestP5InsertTellsTheFirstProblem(t *testing.T) {
	d := example(t)
	makeElements(t, d, 2)
	insert(t, d, 4, 5, 0)
	for _, n := range nowhere {
		faulty(t, "no parent, no node", d.Insert(n, n-1, -1), n, api.ErrNode)
		faulty(t, "no parent", d.Insert(n, 2, -1), n, api.ErrNode)
		faulty(t, "no node, and a text above", d.Insert(2, n, -1), n, api.ErrNode)
	}
	faulty(t, "the first number that is free", d.Insert(6, 4, 0), 6, api.ErrNode)
	faulty(t, "a text above, and a parent", d.Insert(2, 3, -1), 2, api.ErrKind)
	faulty(t, "a text above, and the root", d.Insert(2, 0, -1), 2, api.ErrKind)
	faulty(t, "a text into itself", d.Insert(2, 2, 0), 2, api.ErrKind)
	faulty(t, "a parent, and a cycle", d.Insert(1, 1, -1), 1, api.ErrParent)
	faulty(t, "a parent, at a good index", d.Insert(4, 3, 0), 3, api.ErrParent)
	faulty(t, "the same parent once more", d.Insert(1, 2, 0), 2, api.ErrParent)
	faulty(t, "the root into itself", d.Insert(0, 0, -1), 0, api.ErrParent)
	faulty(t, "the root into what is within it", d.Insert(1, 0, 0), 0, api.ErrParent)
	faulty(t, "the root into another tree", d.Insert(5, 0, 0), 0, api.ErrParent)
	faulty(t, "a cycle of one", d.Insert(4, 4, -1), 4, api.ErrCycle)
	faulty(t, "a cycle of two", d.Insert(5, 4, -1), 4, api.ErrCycle)
}

func TestP5InsertAtNoIndex(t *testing.T) {
	d := example(t)
	makeElements(t, d, 1)
	for _, index := range []int{-1, 3, 1 << 32, math.MaxInt, math.MinInt} {
		faulty(t, "Insert", d.Insert(0, 4, index), 0, api.ErrIndex)
	}
	faulty(t, "an element without children", d.Insert(4, makeText(t, d, ""), 1), 4, api.ErrIndex)
	shows(t, d, 0, "<0 <1 2'abcd'> 3'é'>")
	insert(t, d, 0, 4, 2)
}

func TestP6RemoveMakesATreeOfItsOwn(t *testing.T) {
	d := example(t)
	remove(t, d, 1)
	shows(t, d, 0, "<0 3'é'>")
	shows(t, d, 1, "<1 2'abcd'>")
	faulty(t, "once more", d.Remove(1), 1, api.ErrParent)
	faulty(t, "into itself", d.Insert(1, 1, 0), 1, api.ErrCycle)
	remove(t, d, 2)
	shows(t, d, 1, "<1>")
	shows(t, d, 2, "2'abcd'")
	insert(t, d, 0, 2, 1)
	insert(t, d, 0, 1, 0)
	shows(t, d, 0, "<0 <1> 3'é' 2'abcd'>")
}

func TestP6RemoveFromEachIndex(t *testing.T) {
	for node, want := range map[int]string{1: "<0 <2> <3>>", 2: "<0 <1> <3>>", 3: "<0 <1> <2>>"} {
		d := margin.New()
		makeElements(t, d, 3)
		for n := 1; n < 4; n++ {
			insert(t, d, 0, n, n-1)
		}
		remove(t, d, node)
		shows(t, d, 0, want)
	}
}

func TestP6RemoveIsRefused(t *testing.T) {
	d := example(t)
	makeElements(t, d, 1)
	for _, n := range nowhere {
		faulty(t, "no node", d.Remove(n), n, api.ErrNode)
	}
	faulty(t, "the first number that is free", d.Remove(5), 5, api.ErrNode)
	faulty(t, "the root", d.Remove(0), 0, api.ErrParent)
	faulty(t, "never inserted", d.Remove(4), 4, api.ErrParent)
}

func TestP7Show(t *testing.T) {
	d := example(t)
	makeElements(t, d, 7)
	insert(t, d, 3+7, 4, 0)
	insert(t, d, 1, 10, 1)
	shows(t, d, 0, "<0 <1 2'abcd' <10 <4>>> 3'é'>")
	shows(t, d, 10, "<10 <4>>")
	shows(t, d, 2, "2'abcd'")
	for _, n := range nowhere {
		shown, err := d.Show(n)
		faulty(t, "Show", err, n, api.ErrNode)
		if shown != "" {
			t.Errorf("Show(%d) = %q beside an error", n, shown)
		}
	}
}

func TestP7ShowMarksQuotes(t *testing.T) {
	for s, want := range map[string]string{
		``:         `1''`,
		`'`:        `1'\''`,
		`\`:        `1'\\'`,
		`\'`:       `1'\\\''`,
		`it's a\b`: `1'it\'s a\\b'`,
		`"<1>"`:    `1'"<1>"'`,
		"a\nb\x00": "1'a\nb\x00'",
		"’世\ufffd": "1'’世\ufffd'",
	} {
		d := margin.New()
		makeText(t, d, s)
		shows(t, d, 1, want)
	}
}

func TestP8WalkGoesInTheOrderOfTheTree(t *testing.T) {
	d := margin.New()
	makeElements(t, d, 6)
	for _, in := range [][3]int{{0, 6, 0}, {0, 2, 1}, {6, 5, 0}, {6, 1, 1}, {5, 4, 0}} {
		insert(t, d, in[0], in[1], in[2])
	}
	for node, want := range [][]int{{0, 6, 5, 4, 1, 2}, {1}, {2}, {3}, {4}, {5, 4}, {6, 5, 4, 1}} {
		if got := slices.Collect(walk(t, d, node)); !slices.Equal(got, want) {
			t.Errorf("Walk(%d) gives %v, want %v", node, got, want)
		}
	}
	for _, n := range nowhere {
		steps, err := d.Walk(n)
		faulty(t, "Walk", err, n, api.ErrNode)
		if steps != nil {
			t.Errorf("Walk(%d) gives a function beside an error", n)
		}
	}
}

func TestP8WalkIsAsAtTheCall(t *testing.T) {
	d := example(t)
	makeElements(t, d, 1)
	before := walk(t, d, 0)
	insert(t, d, 1, 4, 0)
	remove(t, d, 3)
	between := walk(t, d, 0)
	var got []int
	for node := range between {
		got = append(got, node)
		d.Remove(node)
		d.Element()
		d.Insert(0, 3, 0)
	}
	if !slices.Equal(got, []int{0, 1, 4, 2}) {
		t.Errorf("changed while it was gone through, it gives %v", got)
	}
	for range 2 {
		if got := slices.Collect(before); !slices.Equal(got, []int{0, 1, 2, 3}) {
			t.Errorf("changed since, it gives %v", got)
		}
	}
}

func TestP8WalkMayBeStopped(t *testing.T) {
	d := example(t)
	steps := walk(t, d, 0)
	for count := 1; count <= 4; count++ {
		given := 0
		// Called by hand: a loop of its own would never see what comes after a stop.
		steps(func(node int) bool {
			if node != given {
				t.Errorf("step %d gives %d", given, node)
			}
			given++
			return given < count
		})
		if given != count {
			t.Errorf("stopped at %d, it gave %d", count, given)
		}
	}
}

func TestP8WalksWithinWalks(t *testing.T) {
	steps := walk(t, example(t), 0)
	var got []int
	for outer := range steps {
		for inner := range steps {
			got = append(got, outer*10+inner)
			if inner == 1 {
				break
			}
		}
	}
	if want := []int{0, 1, 10, 11, 20, 21, 30, 31}; !slices.Equal(got, want) {
		t.Errorf("%v, want %v", got, want)
	}
}
