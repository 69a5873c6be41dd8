package tree

import (
	"errors"
	"slices"
	"strings"
	"testing"

	"margin/api"
	"margin/chars"
)

// grown gives the forest <0 <1 2'ab' <3>> 4'c'>, with 5 and 6 as trees of their own.
func grown(t *testing.T) *Forest {
	t.Helper()
	f := New()
	for _, create := range []func() (int, error){
		f.Element,
		func() (int, error) { return f.Text("ab") },
		f.Element,
		func() (int, error) { return f.Text("c") },
		f.Element,
		f.Element,
	} {
		if _, err := create(); err != nil {
			t.Fatal(err)
		}
	}
	for _, in := range [][3]int{{0, 1, 0}, {0, 4, 1}, {1, 2, 0}, {1, 3, 1}} {
		if _, err := f.Insert(in[0], in[1], in[2]); err != nil {
			t.Fatalf("Insert%v: %v", in, err)
		}
	}
	return f
}

// failed gives the error of a change, unless there is a Move beside it.
func failed(move Move, err error) error {
	if move != nil {
		return nil
	}
	return err
}

func refused(t *testing.T, what string, err error, number int, why error) {
	t.Helper()
	var refusal Refusal
	if !errors.As(err, &refusal) || refusal.Node != number || !errors.Is(err, why) {
		t.Errorf("%s: %v, want a refusal about %d: %v", what, err, number, why)
	}
}

func TestRefusalsWrapWhatIsWrong(t *testing.T) {
	f := grown(t)
	refused(t, "no parent", failed(f.Insert(7, 8, 9)), 7, api.ErrNode)
	refused(t, "no node", failed(f.Insert(2, 7, 9)), 7, api.ErrNode)
	refused(t, "into a text", failed(f.Insert(2, 1, 9)), 2, api.ErrKind)
	refused(t, "has a parent", failed(f.Insert(3, 1, 9)), 1, api.ErrParent)
	refused(t, "into itself", failed(f.Insert(5, 5, 9)), 5, api.ErrCycle)
	refused(t, "at no index", failed(f.Insert(1, 5, 3)), 1, api.ErrIndex)
	refused(t, "no parent to take from", failed(f.Remove(5)), 5, api.ErrParent)
	_, err := f.Text("ab\xff")
	refused(t, "no text", err, 0, api.ErrText)
	var flaw chars.Flaw
	if !errors.As(err, &flaw) || flaw.At != 2 {
		t.Errorf("no text: %v, want a flaw at 2", err)
	}
	if got, want := failed(f.Remove(5)).Error(), "node 5: problem 4"; got != want {
		t.Errorf("Error = %q, want %q", got, want)
	}
}

func TestRefusalsAboutTextsWrapWhatIsWrong(t *testing.T) {
	f := grown(t)
	refused(t, "Replace in an element", failed(f.Replace(1, 9, 9, "\xff")), 1, api.ErrKind)
	_, move, err := f.Split(7, 0)
	refused(t, "Split of no node", failed(move, err), 7, api.ErrNode)
	refused(t, "a bad text", failed(f.Replace(2, 1, 0, "a\xff")), 2, api.ErrText)
	_, compared := f.Compare(api.Place{Node: 4}, api.Place{Node: 2, Offset: 9})
	_, move, err = f.Split(2, 9)
	for _, err := range []error{failed(move, err), compared, failed(f.Replace(2, 9, 0, ""))} {
		refused(t, "at no offset", err, 2, api.ErrIndex)
		var outside chars.Outside
		if !errors.As(err, &outside) || outside.Offset != 9 {
			t.Errorf("%v, want one that is outside, at 9", err)
		}
	}
	_, err = f.Compare(api.Place{Node: 0, Offset: 3}, api.Place{})
	refused(t, "an element without such an offset", err, 0, api.ErrIndex)
	_, err = f.Compare(api.Place{Node: 5}, api.Place{Node: 6})
	refused(t, "two trees", err, 6, api.ErrRoots)
}

func TestIndexAndTop(t *testing.T) {
	f := grown(t)
	for number, want := range map[int]int{1: 0, 2: 0, 3: 1, 4: 1} {
		if got := f.index(number); got != want {
			t.Errorf("index(%d) = %d, want %d", number, got, want)
		}
	}
	for number, want := range []int{0, 0, 0, 0, 0, 5, 6} {
		if got := f.top(number); got != want {
			t.Errorf("top(%d) = %d, want %d", number, got, want)
		}
	}
}

func TestPathsGoDownFromTheTop(t *testing.T) {
	f := grown(t)
	for _, c := range []struct {
		place api.Place
		want  []int
	}{
		{api.Place{Node: 0, Offset: 0}, []int{0}},
		{api.Place{Node: 2, Offset: 1}, []int{0, 0, 1}},
		{api.Place{Node: 1, Offset: 2}, []int{0, 2}},
		{api.Place{Node: 3, Offset: 0}, []int{0, 1, 0}},
		{api.Place{Node: 4, Offset: 1}, []int{1, 1}},
		{api.Place{Node: 5, Offset: 0}, []int{0}},
	} {
		if got := f.path(c.place); !slices.Equal(got, c.want) {
			t.Errorf("path(%v) = %v, want %v", c.place, got, c.want)
		}
	}
}

func TestAllMayBeStoppedAnywhere(t *testing.T) {
	f := grown(t)
	want := []int{0, 1, 2, 3, 4}
	for stop := range want {
		var got []int
		for number := range f.all(0) {
			got = append(got, number)
			if number == want[stop] {
				break
			}
		}
		if !slices.Equal(got, want[:stop+1]) {
			t.Errorf("stopped at %d: %v, want %v", want[stop], got, want[:stop+1])
		}
	}
}

func TestHolds(t *testing.T) {
	f := grown(t)
	held := map[int][]int{0: {0, 1, 2, 3, 4}, 1: {1, 2, 3}, 2: {2}, 3: {3}, 4: {4}, 5: {5}, 6: {6}}
	for number, want := range held {
		for other := range 7 {
			if got := f.holds(number, other); got != slices.Contains(want, other) {
				t.Errorf("holds(%d, %d) = %v", number, other, got)
			}
		}
	}
}

func TestAddStopsAtTheLimit(t *testing.T) {
	f := New()
	for len(f.nodes) < api.MaxNodes {
		if _, err := f.Element(); err != nil {
			t.Fatalf("Element with %d nodes: %v", len(f.nodes), err)
		}
	}
	_, err := f.Element()
	refused(t, "Element", err, Root, api.ErrFull)
	_, err = f.Text(strings.Repeat("a", api.MaxText))
	refused(t, "Text", err, Root, api.ErrFull)
	f = grown(t)
	for len(f.nodes) < api.MaxNodes {
		f.Element()
	}
	_, move, err := f.Split(2, 1)
	refused(t, "Split", failed(move, err), 2, api.ErrFull)
	if len(f.nodes) != api.MaxNodes {
		t.Errorf("%d nodes, want %d", len(f.nodes), api.MaxNodes)
	}
}
