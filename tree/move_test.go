package tree

import (
	"testing"

	"margin/api"
)

// moves looks where places in nodes go: each step is a node and offset, and a node and offset then.
func moves(t *testing.T, what string, move Move, steps [][4]int) {
	t.Helper()
	for _, s := range steps {
		was, want := api.Place{Node: s[0], Offset: s[1]}, api.Place{Node: s[2], Offset: s[3]}
		if got := move(was); got != want {
			t.Errorf("%s: %v moves to %v, want %v", what, was, got, want)
		}
	}
}

func TestMoves(t *testing.T) {
	others := shift(1, 0, 1)
	moves(t, "shift", shift(3, 2, -1), [][4]int{{3, 1, 3, 1}, {3, 2, 3, 2}, {3, 3, 3, 2}, {3, 9, 3, 8}, {2, 3, 2, 3}})
	moves(t, "gather", gather([]int{1, 4}, api.Place{Node: 7, Offset: 5}, others), [][4]int{{1, 0, 7, 5}, {1, 9, 7, 5}, {4, 1, 7, 5}, {7, 6, 7, 6}, {0, 1, 0, 1}})
	moves(t, "gather: the other ones", gather([]int{4}, api.Place{Node: 1, Offset: 5}, others), [][4]int{{4, 0, 1, 5}, {1, 0, 1, 0}, {1, 5, 1, 6}})
	moves(t, "inTurn", inTurn([]Move{shift(3, 2, 1), shift(3, 3, 4)}), [][4]int{{3, 2, 3, 2}, {3, 3, 3, 8}, {2, 3, 2, 3}})
	moves(t, "inTurn: none", inTurn(nil), [][4]int{{3, 2, 3, 2}})
	moves(t, "resize: less", resize(2, 1, 3, 1), [][4]int{{2, 0, 2, 0}, {2, 1, 2, 1}, {2, 2, 2, 1}, {2, 4, 2, 1}, {2, 5, 2, 3}, {3, 4, 3, 4}})
	moves(t, "resize: more", resize(2, 1, 1, 3), [][4]int{{2, 1, 2, 1}, {2, 2, 2, 1}, {2, 3, 2, 5}, {3, 3, 3, 3}})
	moves(t, "carry", carry(2, 1, 6, others), [][4]int{{2, 0, 2, 0}, {2, 1, 2, 1}, {2, 2, 6, 1}, {2, 4, 6, 3}, {1, 1, 1, 2}, {3, 4, 3, 4}})
}

func TestMovesAreNotChangedByLaterChanges(t *testing.T) {
	f := grown(t)
	move, err := f.Remove(1)
	if err != nil {
		t.Fatal(err)
	}
	steps := [][4]int{{1, 1, 0, 0}, {2, 2, 0, 0}, {3, 0, 0, 0}, {0, 2, 0, 1}, {4, 1, 4, 1}, {5, 0, 5, 0}}
	moves(t, "at once", move, steps)
	f.Insert(1, 5, 0)
	f.Remove(3)
	f.Insert(0, 1, 1)
	moves(t, "later", move, steps)
}
