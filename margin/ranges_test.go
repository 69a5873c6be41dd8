package margin_test

import (
	"strings"
	"testing"

	"margin/api"
	"margin/margin"
)

func makeRange(t *testing.T, d *margin.Doc, want int) {
	t.Helper()
	if r, err := d.Range(); r != want || err != nil {
		t.Fatalf("Range = %d, %#v, want %d", r, err, want)
	}
}

func spans(t *testing.T, d *margin.Doc, r int, start, end api.Place) {
	t.Helper()
	if got, err := d.Span(r); got != (api.Span{Start: start, End: end}) || err != nil {
		t.Errorf("Span(%d) = %v, %#v, want from %v to %v", r, got, err, start, end)
	}
}

func spanRefused(t *testing.T, d *margin.Doc, r int) {
	t.Helper()
	got, err := d.Span(r)
	faulty(t, "Span", err, r, api.ErrRange)
	if got != (api.Span{}) {
		t.Errorf("Span(%d) = %v beside an error", r, got)
	}
}

func setStart(t *testing.T, d *margin.Doc, r int, p api.Place) {
	t.Helper()
	if err := d.SetStart(r, p); err != nil {
		t.Fatalf("SetStart(%d, %v): %#v", r, p, err)
	}
}

func setEnd(t *testing.T, d *margin.Doc, r int, p api.Place) {
	t.Helper()
	if err := d.SetEnd(r, p); err != nil {
		t.Fatalf("SetEnd(%d, %v): %#v", r, p, err)
	}
}

// lay sets both places of a range.
func lay(t *testing.T, d *margin.Doc, r int, start, end api.Place) {
	t.Helper()
	setStart(t, d, r, start)
	setEnd(t, d, r, end)
	spans(t, d, r, start, end)
}

func TestP1RefusedCallsMoveNoRange(t *testing.T) {
	d := example(t)
	makeElements(t, d, 1)
	makeRange(t, d, 0)
	lay(t, d, 0, at(2, 3), at(0, 2))
	for _, n := range nowhere {
		d.Insert(0, 4, n)
		d.Insert(0, n, 0)
		d.Remove(n)
		d.Replace(2, n, 1, "x")
		d.Split(2, n)
		d.SetStart(n, at(0, 0))
		d.SetEnd(n, at(0, 0))
		d.Read(n)
		d.Delete(n)
		d.SetStart(0, at(n, 0))
		d.SetEnd(0, at(n, 0))
		d.SetStart(0, at(0, n))
		d.SetEnd(0, at(2, n))
	}
	d.Insert(0, 1, 0)
	d.Remove(0)
	d.Remove(4)
	d.Replace(2, 0, 3, "\xff")
	d.Replace(2, 0, -1, "x")
	d.Replace(2, 0, 0, strings.Repeat("x", api.MaxText-3))
	d.Split(1, 0)
	makeElements(t, d, api.MaxNodes-5)
	splitRefused(t, d, 2, 1, api.ErrFull)
	spans(t, d, 0, at(2, 3), at(0, 2))
	makeRange(t, d, 1)
}

func TestP2RangesOfDocumentsAreTheirOwn(t *testing.T) {
	one, two := example(t), example(t)
	makeRange(t, one, 0)
	makeRange(t, one, 1)
	spanRefused(t, two, 0)
	makeRange(t, two, 0)
	lay(t, one, 0, at(2, 1), at(2, 3))
	spans(t, two, 0, at(0, 0), at(0, 0))
	lay(t, two, 0, at(2, 2), at(3, 1))
	reads(t, one, 0, "bc")
	reads(t, two, 0, "cdé")
	erase(t, one, 0)
	reads(t, two, 0, "cdé")
	remove(t, one, 1)
	spans(t, one, 0, at(0, 0), at(0, 0))
	spans(t, two, 0, at(2, 2), at(3, 1))
	spanRefused(t, two, 1)
}

func TestP3NewHasNoRanges(t *testing.T) {
	d := margin.New()
	spanRefused(t, d, 0)
	faulty(t, "SetStart", d.SetStart(0, at(0, 0)), 0, api.ErrRange)
	faulty(t, "SetEnd", d.SetEnd(0, at(0, 0)), 0, api.ErrRange)
	readRefused(t, d, 0)
	faulty(t, "Delete", d.Delete(0), 0, api.ErrRange)
}

func TestP12RangesAreNumberedAndStartAtTheRoot(t *testing.T) {
	d := example(t)
	for want := range api.MaxRanges {
		spanRefused(t, d, want)
		makeRange(t, d, want)
		spans(t, d, want, at(0, 0), at(0, 0))
		lay(t, d, want, at(2, want%5), at(3, want%2))
	}
	for r := range api.MaxRanges {
		spans(t, d, r, at(2, r%5), at(3, r%2))
	}
}

func TestP12NoMoreRangesThanThereMayBe(t *testing.T) {
	d := example(t)
	for r := range api.MaxRanges {
		makeRange(t, d, r)
	}
	lay(t, d, 0, at(2, 1), at(3, 1))
	for range 2 {
		r, err := d.Range()
		faulty(t, "Range", err, 0, api.ErrFull)
		if r != 0 {
			t.Errorf("Range = %d beside an error", r)
		}
	}
	spans(t, d, 0, at(2, 1), at(3, 1))
	spans(t, d, api.MaxRanges-1, at(0, 0), at(0, 0))
	spanRefused(t, d, api.MaxRanges)
}

func TestP12SpanOfNoRange(t *testing.T) {
	d := example(t)
	makeRange(t, d, 0)
	for _, n := range nowhere {
		spanRefused(t, d, n)
	}
	spanRefused(t, d, 1)
}

func TestP13SetTellsTheFirstProblem(t *testing.T) {
	d := grove(t)
	makeRange(t, d, 0)
	lay(t, d, 0, at(5, 1), at(3, 1))
	for what, set := range map[string]func(int, api.Place) error{"SetStart": d.SetStart, "SetEnd": d.SetEnd} {
		for _, n := range nowhere {
			faulty(t, what+": no range, no node", set(n, at(n-1, n)), n, api.ErrRange)
			faulty(t, what+": no range, no offset", set(n, at(0, 9)), n, api.ErrRange)
			faulty(t, what+": no range", set(n, at(0, 0)), n, api.ErrRange)
			faulty(t, what+": no node", set(0, at(n, n)), n, api.ErrNode)
			faulty(t, what+": no offset of an element", set(0, at(0, n)), 0, api.ErrIndex)
			faulty(t, what+": no offset of a text", set(0, at(5, n)), 5, api.ErrIndex)
			faulty(t, what+": no offset in another tree", set(0, at(8, n)), 8, api.ErrIndex)
		}
		faulty(t, what+": the first range that is free", set(1, at(0, 0)), 1, api.ErrRange)
		faulty(t, what+": the first node that is free", set(0, at(10, 0)), 10, api.ErrNode)
		faulty(t, what+": behind the last child", set(0, at(0, 4)), 0, api.ErrIndex)
		faulty(t, what+": an element without children", set(0, at(2, 1)), 2, api.ErrIndex)
		faulty(t, what+": offsets are characters, not bytes", set(0, at(5, 3)), 5, api.ErrIndex)
		faulty(t, what+": a text without characters", set(0, at(6, 1)), 6, api.ErrIndex)
		faulty(t, what+": another tree", set(0, at(9, 2)), 9, api.ErrIndex)
	}
	spans(t, d, 0, at(5, 1), at(3, 1))
}

func TestP13SetWithinATree(t *testing.T) {
	d := grove(t)
	makeRange(t, d, 0)
	for _, places := range trees() {
		for i, start := range places {
			for j, end := range places[i:] {
				for k, p := range places {
					lay(t, d, 0, start, end)
					setStart(t, d, 0, p)
					spans(t, d, 0, p, places[max(i+j, k)])
					lay(t, d, 0, start, end)
					setEnd(t, d, 0, p)
					spans(t, d, 0, places[min(i, k)], p)
				}
			}
		}
	}
}

func TestP13SetInAnotherTree(t *testing.T) {
	d := grove(t)
	makeRange(t, d, 0)
	makeRange(t, d, 1)
	both := trees()
	for i, places := range both {
		start, end := places[0], places[len(places)-1]
		for _, p := range both[1-i] {
			lay(t, d, 0, start, end)
			setStart(t, d, 0, p)
			spans(t, d, 0, p, p)
			lay(t, d, 0, start, end)
			setEnd(t, d, 0, p)
			spans(t, d, 0, p, p)
		}
	}
	spans(t, d, 1, at(0, 0), at(0, 0))
}

func TestP13SetOfTheExample(t *testing.T) {
	d := example(t)
	makeRange(t, d, 0)
	setEnd(t, d, 0, at(3, 1))
	spans(t, d, 0, at(0, 0), at(3, 1))
	setStart(t, d, 0, at(2, 1))
	spans(t, d, 0, at(2, 1), at(3, 1))
	replace(t, d, 2, 0, 2, "xyz", "2'xyzcd'")
	spans(t, d, 0, at(2, 0), at(3, 1))
	replace(t, d, 2, 0, 0, "-", "2'-xyzcd'")
	spans(t, d, 0, at(2, 0), at(3, 1))
	makeRange(t, d, 1)
	makeRange(t, d, 2)
	lay(t, d, 1, at(2, 5), at(3, 0))
	lay(t, d, 2, at(1, 1), at(1, 1))
	split(t, d, 2, 3, 4)
	spans(t, d, 1, at(4, 2), at(3, 0))
	spans(t, d, 2, at(1, 2), at(1, 2))
}

func TestP13SpanIsACopy(t *testing.T) {
	d := example(t)
	makeRange(t, d, 0)
	before, _ := d.Span(0)
	lay(t, d, 0, at(2, 1), at(3, 1))
	if before != (api.Span{}) {
		t.Errorf("what Span told before is %v now", before)
	}
}
