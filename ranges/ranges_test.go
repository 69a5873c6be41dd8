package ranges

import (
	"errors"
	"testing"

	"margin/api"
	"margin/tree"
)

// list gives a list of one range, in the forest <0 1'ab'>, with 2 as a tree of its own.
func list(t *testing.T) *List {
	t.Helper()
	nodes := tree.New()
	nodes.Text("ab")
	nodes.Element()
	if _, err := nodes.Insert(0, 1, 0); err != nil {
		t.Fatal(err)
	}
	l := New(nodes)
	if number, err := l.Add(); number != 0 || err != nil {
		t.Fatalf("Add = %d, %v", number, err)
	}
	return l
}

func at(node, offset int) api.Place { return api.Place{Node: node, Offset: offset} }

func spans(t *testing.T, l *List, start, end api.Place) {
	t.Helper()
	if got, err := l.Span(0); got != (api.Span{Start: start, End: end}) || err != nil {
		t.Errorf("Span = %v, %v, want from %v to %v", got, err, start, end)
	}
}

func TestMissingWrapsTheProblem(t *testing.T) {
	l := list(t)
	_, err := l.Span(1)
	_, unread := l.Read(1)
	for _, err := range []error{err, unread, l.SetStart(1, at(9, 9)), l.SetEnd(1, at(9, 9)), l.Delete(1)} {
		var missing Missing
		if !errors.As(err, &missing) || missing.Range != 1 || !errors.Is(err, api.ErrRange) {
			t.Errorf("%v, want that range 1 is missing", err)
		}
	}
	if got, want := err.Error(), "range 1: problem 8"; got != want {
		t.Errorf("Error = %q, want %q", got, want)
	}
}

func TestOtherErrorsAreThoseOfTheForest(t *testing.T) {
	l := list(t)
	for err, want := range map[error]tree.Refusal{
		l.SetStart(0, at(3, 0)): {Node: 3, Why: api.ErrNode},
		l.SetEnd(0, at(-1, 0)):  {Node: -1, Why: api.ErrNode},
		l.SetStart(0, at(2, 1)): {Node: 2, Why: api.ErrIndex},
		l.SetEnd(0, at(0, 2)):   {Node: 0, Why: api.ErrIndex},
	} {
		var refusal tree.Refusal
		if !errors.As(err, &refusal) || refusal != want {
			t.Errorf("%v, want %v", err, want)
		}
	}
	for range api.MaxRanges {
		l.Add()
	}
	_, err := l.Add()
	if !errors.Is(err, api.ErrFull) || len(l.spans) != api.MaxRanges {
		t.Errorf("%v at %d ranges, want ErrFull at %d", err, len(l.spans), api.MaxRanges)
	}
	spans(t, l, at(0, 0), at(0, 0))
}

func TestSetTakesTheOtherPlaceAlong(t *testing.T) {
	l := list(t)
	l.SetEnd(0, at(1, 2))
	spans(t, l, at(0, 0), at(1, 2))
	l.SetStart(0, at(0, 1))
	spans(t, l, at(0, 1), at(0, 1))
	l.SetEnd(0, at(1, 1))
	spans(t, l, at(1, 1), at(1, 1))
	l.SetStart(0, at(2, 0))
	spans(t, l, at(2, 0), at(2, 0))
	l.SetEnd(0, at(0, 1))
	spans(t, l, at(0, 1), at(0, 1))
}

func TestFollowMovesBothPlacesOfEachRange(t *testing.T) {
	l := list(t)
	l.Add()
	l.SetEnd(0, at(1, 2))
	l.SetEnd(1, at(1, 1))
	l.SetStart(1, at(1, 1))
	l.Follow(func(p api.Place) api.Place { return at(p.Node+10, p.Offset+1) })
	spans(t, l, at(10, 1), at(11, 3))
	if got, _ := l.Span(1); got != (api.Span{Start: at(11, 2), End: at(11, 2)}) {
		t.Errorf("Span(1) = %v", got)
	}
}

func TestReadAndDeleteAreOfOneRange(t *testing.T) {
	l := list(t)
	l.Add()
	l.SetEnd(0, at(1, 1))
	l.SetEnd(1, at(1, 2))
	for number, want := range []string{"a", "ab"} {
		if got, err := l.Read(number); got != want || err != nil {
			t.Errorf("Read(%d) = %q, %v, want %q", number, got, err, want)
		}
	}
	l.SetStart(0, at(1, 0))
	if err := l.Delete(0); err != nil {
		t.Fatal(err)
	}
	spans(t, l, at(1, 0), at(1, 0))
	if got, _ := l.Span(1); got != (api.Span{Start: at(0, 0), End: at(1, 1)}) {
		t.Errorf("Span(1) = %v", got)
	}
	if got, _ := l.Read(1); got != "b" {
		t.Errorf("Read(1) = %q", got)
	}
}
