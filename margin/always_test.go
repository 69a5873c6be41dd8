package margin_test

import (
	"testing"

	"margin/api"
	"margin/margin"
)

// dice gives numbers that look like thrown ones, but are the same in each run.
type dice uint32

func (d *dice) throw(sides int) int {
	*d = *d*1664525 + 1013904223
	return int(*d>>8) % sides
}

// low gives a number below sides, too, the less the more often.
func (d *dice) low(sides int) int { return d.throw(d.throw(sides) + 1) }

// change makes a change, or tries one that is refused: many numbers are of nothing.
func change(d *margin.Doc, by *dice) {
	node, offset := by.low(api.MaxNodes+1), by.low(7)-by.low(2)
	switch by.throw(17) {
	case 0:
		d.Element()
	case 1:
		d.Text("a世éd")
	case 2, 3, 4, 5, 6:
		d.Insert(by.low(10), node, offset)
	case 7:
		d.Remove(node)
	case 8, 9:
		d.Replace(node, offset, by.throw(5)-1, []string{"", "x", "é世😀", "\xff"}[by.throw(4)])
	case 10:
		d.Split(node, offset)
	case 11:
		// Seldom, for it leaves little to go on with.
		if by.throw(4) == 0 {
			d.Delete(by.throw(api.MaxRanges + 1))
		}
	case 12:
		d.SetStart(by.throw(api.MaxRanges+1), at(node, offset))
	default:
		d.SetEnd(by.throw(api.MaxRanges+1), at(node, offset))
	}
}

// areRanges tells whether all ranges of a document are such, and how many of them are not at one place alone.
func areRanges(t *testing.T, d *margin.Doc) (bool, int) {
	t.Helper()
	long := 0
	for r := range api.MaxRanges {
		span, err := d.Span(r)
		if err != nil {
			t.Fatalf("Span(%d): %#v", r, err)
		}
		order, err := d.Compare(span.Start, span.End)
		if err != nil || order > 0 {
			t.Errorf("range %d is from %v to %v: %d, %#v", r, span.Start, span.End, order, err)
			return false, 0
		}
		long -= order
	}
	return true, long
}

func TestP16ARangeIsOneWhateverIsDone(t *testing.T) {
	all := 0
	for seed := range 100 {
		by := dice(seed)
		d := grove(t)
		for r := range api.MaxRanges {
			makeRange(t, d, r)
		}
		for count := range 1000 {
			change(d, &by)
			fine, long := areRanges(t, d)
			if !fine {
				t.Fatalf("so after change %d of seed %d", count, seed)
			}
			all += long
		}
	}
	// Else nothing was tested but ranges without anything in them.
	if all < 100*1000 {
		t.Errorf("only %d ranges were not at one place alone", all)
	}
}
