package margin_test

import (
	"math"
	"testing"

	"margin/api"
	"margin/margin"
)

// nowhere are numbers that no node of a document has while it has fewer than 40.
var nowhere = []int{-1, 40, 41, -40, 1 << 32, math.MaxInt, math.MinInt}

func makeElements(t *testing.T, d *margin.Doc, count int) {
	t.Helper()
	for range count {
		if _, err := d.Element(); err != nil {
			t.Fatalf("Element: %v", err)
		}
	}
}

func makeText(t *testing.T, d *margin.Doc, s string) int {
	t.Helper()
	number, err := d.Text(s)
	if err != nil {
		t.Fatalf("Text(%q): %v", s, err)
	}
	return number
}

func insert(t *testing.T, d *margin.Doc, parent, node, index int) {
	t.Helper()
	if err := d.Insert(parent, node, index); err != nil {
		t.Fatalf("Insert(%d, %d, %d): %#v", parent, node, index, err)
	}
}

func remove(t *testing.T, d *margin.Doc, node int) {
	t.Helper()
	if err := d.Remove(node); err != nil {
		t.Fatalf("Remove(%d): %#v", node, err)
	}
}

func shows(t *testing.T, d *margin.Doc, node int, want string) {
	t.Helper()
	if got, err := d.Show(node); got != want || err != nil {
		t.Errorf("Show(%d) = %q, %v, want %q", node, got, err, want)
	}
}

func walk(t *testing.T, d *margin.Doc, node int) func(func(int) bool) {
	t.Helper()
	steps, err := d.Walk(node)
	if err != nil || steps == nil {
		t.Fatalf("Walk(%d): %#v", node, err)
	}
	return steps
}

// faulty: the error is the fault itself, as a value, not one that wraps it.
func faulty(t *testing.T, what string, err error, about int, why api.Problem) {
	t.Helper()
	if got, ok := err.(api.Fault); !ok || got != (api.Fault{About: about, Why: why}) {
		t.Errorf("%s: %#v, want %#v", what, err, api.Fault{About: about, Why: why})
	}
}

// example gives the document of the first example: <0 <1 2'abcd'> 3'é'>.
func example(t *testing.T) *margin.Doc {
	t.Helper()
	d := margin.New()
	makeElements(t, d, 1)
	makeText(t, d, "abcd")
	makeText(t, d, "é")
	insert(t, d, 0, 1, 0)
	insert(t, d, 1, 2, 0)
	insert(t, d, 0, 3, 1)
	return d
}
