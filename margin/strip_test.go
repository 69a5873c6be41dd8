package margin_test

import (
	"regexp"
	"slices"
	"strconv"
	"strings"
	"testing"

	"margin/api"
	"margin/margin"
)

// mark is where a node begins or ends, or a character.
type mark struct {
	kind      markKind
	node      int
	isText    bool
	character rune
}

type markKind int

const (
	begin markKind = iota
	end
	character
)

// strip is a tree that is laid out flat. Place k of it is directly behind mark k, so what is in a range from place i to place j is the marks i+1 to j. That makes it another way to tell what Read and Delete do.
type strip []mark

// flatten lays out a tree by how it is shown, which must be without quotes in its texts.
func flatten(shown string) strip {
	var s strip
	var open []int
	for _, m := range regexp.MustCompile(`<(\d+)|>|(\d+)'([^']*)'`).FindAllStringSubmatch(shown, -1) {
		switch {
		case m[0] == ">":
			s = append(s, mark{kind: end, node: open[len(open)-1]})
			open = open[:len(open)-1]
		case m[1] != "":
			node, _ := strconv.Atoi(m[1])
			s = append(s, mark{kind: begin, node: node})
			open = append(open, node)
		default:
			node, _ := strconv.Atoi(m[2])
			s = append(s, mark{kind: begin, node: node, isText: true})
			for _, c := range m[3] {
				s = append(s, mark{kind: character, node: node, isText: true, character: c})
			}
			s = append(s, mark{kind: end, node: node, isText: true})
		}
	}
	return s
}

// show is the other way round.
func (s strip) show() string {
	var out strings.Builder
	for i, m := range s {
		switch {
		case m.kind == character:
			out.WriteRune(m.character)
		case m.isText && m.kind == end:
			out.WriteString("'")
		case m.kind == end:
			out.WriteString(">")
		default:
			if i > 0 {
				out.WriteString(" ")
			}
			if m.isText {
				out.WriteString(strconv.Itoa(m.node) + "'")
			} else {
				out.WriteString("<" + strconv.Itoa(m.node))
			}
		}
	}
	return out.String()
}

// places are all places of the tree, as they lie.
func (s strip) places() []api.Place {
	var places, open []api.Place
	for _, m := range s[:len(s)-1] {
		if m.kind == begin {
			open = append(open, at(m.node, 0))
		} else {
			if m.kind == end {
				open = open[:len(open)-1]
			}
			open[len(open)-1].Offset++
		}
		places = append(places, open[len(open)-1])
	}
	return places
}

// read gives the characters from place i to place j.
func (s strip) read(i, j int) string {
	var out strings.Builder
	for _, m := range s[i+1 : j+1] {
		if m.kind == character {
			out.WriteRune(m.character)
		}
	}
	return out.String()
}

// node gives the marks of a node, with all within it.
func (s strip) node(number int) strip {
	first := slices.IndexFunc(s, func(m mark) bool { return m.kind == begin && m.node == number })
	last := slices.IndexFunc(s, func(m mark) bool { return m.kind == end && m.node == number })
	return s[first : last+1]
}

// without gives what stays, if all from place i to place j goes (of nodes those of which both ends do), and by the number of each place the number that it has then.
func (s strip) without(i, j int) (rest strip, then []int) {
	ends := map[int]int{}
	for _, m := range s[i+1 : j+1] {
		if m.kind != character {
			ends[m.node]++
		}
	}
	for k, m := range s {
		goes := m.kind == character && k > i && k <= j || m.kind != character && ends[m.node] == 2
		if !goes {
			rest = append(rest, m)
		}
		then = append(then, len(rest)-1)
	}
	return rest, then
}

// joint tells the number of the place where a range from place i to place j is, once all in it has gone: where each node that ends between has ended, and none that begins between has begun.
func (s strip) joint(i, j int) int {
	rest, then := s.without(i, j)
	at := then[i]
	for at < then[j] && rest[at+1].kind == end {
		at++
	}
	return at
}

// characters gives all characters of the tree.
func (s strip) characters() string { return s.read(0, len(s)-1) }

// plant makes a document by how its trees are shown, the root's first.
func plant(t *testing.T, shown ...string) *margin.Doc {
	t.Helper()
	d := margin.New()
	all := flatten(strings.Join(shown, " "))
	for number := 1; slices.ContainsFunc(all, func(m mark) bool { return m.node == number }); number++ {
		if made := all.node(number); made[0].isText {
			makeText(t, d, made.characters())
		} else {
			makeElements(t, d, 1)
		}
	}
	for _, tree := range shown {
		s := flatten(tree)
		places := s.places()
		for i, m := range s {
			if i > 0 && m.kind == begin {
				insert(t, d, places[i-1].Node, m.node, places[i-1].Offset)
			}
		}
		shows(t, d, s[0].node, tree)
	}
	return d
}
