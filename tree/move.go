package tree

import (
	"slices"

	"margin/api"
)

// Move tells where a place is, once a change of the trees is made, by where it was ahead of it. It holds nothing of the forest, so later changes don't change it.
type Move func(p api.Place) api.Place

// shift moves the places in a node whose offset is greater than the given one.
func shift(number int, offset int, by int) Move {
	return func(p api.Place) api.Place {
		if p.Node == number && p.Offset > offset {
			p.Offset += by
		}
		return p
	}
}

// gather moves the places in some nodes to one place, and the other ones by another Move.
func gather(numbers []int, to api.Place, others Move) Move {
	return func(p api.Place) api.Place {
		if slices.Contains(numbers, p.Node) {
			return to
		}
		return others(p)
	}
}

// inTurn moves places by some Moves, each of which goes on from where the one ahead of it leads.
func inTurn(moves []Move) Move {
	return func(p api.Place) api.Place {
		for _, move := range moves {
			p = move(p)
		}
		return p
	}
}

// resize moves the places in a text of which, from offset on, so many characters were taken, and so many given for them.
func resize(number int, offset int, taken int, given int) Move {
	behind := shift(number, offset+taken, given-taken)
	return func(p api.Place) api.Place {
		if p.Node == number && p.Offset > offset && p.Offset <= offset+taken {
			return api.Place{Node: number, Offset: offset}
		}
		return behind(p)
	}
}

// carry moves the places in a text whose offset is greater than the given one to a fresh text, and the other ones by another Move.
func carry(number int, offset int, fresh int, others Move) Move {
	return func(p api.Place) api.Place {
		if p.Node == number && p.Offset > offset {
			return api.Place{Node: fresh, Offset: p.Offset - offset}
		}
		return others(p)
	}
}
