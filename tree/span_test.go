package tree

import (
	"slices"
	"testing"

	"margin/api"
)

func span(start, from, end, to int) api.Span {
	return api.Span{Start: api.Place{Node: start, Offset: from}, End: api.Place{Node: end, Offset: to}}
}

func TestSpans(t *testing.T) {
	// In <0 <1 2'ab' <3>> 4'c'>.
	for _, c := range []struct {
		span   api.Span
		read   string
		inside []int
		joint  api.Place
		then   string
	}{
		{span(0, 0, 0, 2), "abc", []int{1, 4}, api.Place{Node: 0, Offset: 0}, "<0>"},
		{span(0, 0, 4, 1), "abc", []int{1}, api.Place{Node: 0, Offset: 0}, "<0 4''>"},
		{span(1, 0, 1, 2), "ab", []int{2, 3}, api.Place{Node: 1, Offset: 0}, "<0 <1> 4'c'>"},
		{span(1, 1, 0, 2), "c", []int{3, 4}, api.Place{Node: 0, Offset: 1}, "<0 <1 2'ab'>>"},
		{span(2, 1, 3, 0), "b", nil, api.Place{Node: 1, Offset: 1}, "<0 <1 2'a' <3>> 4'c'>"},
		{span(2, 1, 4, 1), "bc", []int{3}, api.Place{Node: 0, Offset: 1}, "<0 <1 2'a'> 4''>"},
		{span(2, 0, 2, 1), "a", nil, api.Place{Node: 2, Offset: 0}, "<0 <1 2'b' <3>> 4'c'>"},
		{span(2, 2, 1, 1), "", nil, api.Place{Node: 1, Offset: 1}, "<0 <1 2'ab' <3>> 4'c'>"},
	} {
		f := grown(t)
		if got := f.Read(c.span); got != c.read {
			t.Errorf("Read(%v) = %q, want %q", c.span, got, c.read)
		}
		if got := f.inside(c.span); !slices.Equal(got, c.inside) {
			t.Errorf("inside(%v) = %v, want %v", c.span, got, c.inside)
		}
		joint, move, err := f.Delete(c.span)
		if joint != c.joint || move == nil || err != nil {
			t.Errorf("Delete(%v) = %v, %v, want %v", c.span, joint, err, c.joint)
		}
		if got, _ := f.Show(0); got != c.then {
			t.Errorf("Delete(%v) leaves %s, want %s", c.span, got, c.then)
		}
	}
}

func TestDeleteMovesAsAllItsChangesDo(t *testing.T) {
	f := grown(t)
	_, move, err := f.Delete(span(2, 1, 4, 1))
	if err != nil {
		t.Fatal(err)
	}
	moves(t, "Delete", move, [][4]int{{0, 2, 0, 2}, {1, 2, 1, 1}, {2, 1, 2, 1}, {2, 2, 2, 1}, {3, 0, 1, 1}, {4, 0, 4, 0}, {4, 1, 4, 0}, {5, 0, 5, 0}})
}

func TestDeleteTellsWhatWentWrong(t *testing.T) {
	f := grown(t)
	joint, move, err := f.Delete(span(2, 2, 2, 1))
	refused(t, "a span that is none", failed(move, err), 2, api.ErrIndex)
	if joint != (api.Place{}) {
		t.Errorf("Delete = %v beside an error", joint)
	}
}

func TestAhead(t *testing.T) {
	f := grown(t)
	for number, want := range map[int]api.Place{1: {Node: 0, Offset: 0}, 2: {Node: 1, Offset: 0}, 3: {Node: 1, Offset: 1}, 4: {Node: 0, Offset: 1}} {
		if got := f.ahead(number); got != want {
			t.Errorf("ahead(%d) = %v, want %v", number, got, want)
		}
	}
}
