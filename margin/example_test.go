package margin_test

import (
	"errors"
	"fmt"

	"margin/api"
	"margin/margin"
)

func Example() {
	d := margin.New()
	list, _ := d.Element()
	word, _ := d.Text("abcd")
	d.Insert(0, list, 0)
	d.Insert(list, word, 0)
	fmt.Println(d.Show(0))

	walk, _ := d.Walk(0)
	for node := range walk {
		fmt.Println(node)
	}

	err := d.Insert(0, word, 0)
	fmt.Println(errors.Is(err, api.ErrParent))

	d.Replace(word, 1, 2, "-é-")
	next, _ := d.Split(word, 2)
	fmt.Println(d.Show(0))
	fmt.Println(d.Compare(api.Place{Node: word, Offset: 2}, api.Place{Node: list, Offset: 1}))

	r, _ := d.Range()
	d.SetEnd(r, api.Place{Node: next, Offset: 3})
	d.SetStart(r, api.Place{Node: next, Offset: 1})
	d.Replace(next, 0, 0, "x")
	fmt.Println(d.Span(r))
	fmt.Println(d.Read(r))

	d.SetStart(r, api.Place{Node: word, Offset: 1})
	d.SetEnd(r, api.Place{Node: next, Offset: 2})
	d.Delete(r)
	fmt.Println(d.Show(0))
	fmt.Println(d.Span(r))

	d.SetEnd(r, api.Place{Node: next, Offset: 2})
	d.Remove(word)
	fmt.Println(d.Span(r))
	// Output:
	// <0 <1 2'abcd'>> <nil>
	// 0
	// 1
	// 2
	// true
	// <0 <1 2'a-' 3'é-d'>> <nil>
	// -1 <nil>
	// {{3 2} {3 4}} <nil>
	// -d <nil>
	// <0 <1 2'a' 3'-d'>> <nil>
	// {{1 1} {1 1}} <nil>
	// {{1 0} {3 2}} <nil>
}
