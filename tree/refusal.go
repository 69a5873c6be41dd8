package tree

import "strconv"

// Refusal is the error that this package answers: the node that it is about, and what is wrong with it, which it wraps.
type Refusal struct {
	Node int
	Why  error
}

// Error tells what is wrong, and with which node.
func (r Refusal) Error() string {
	return "node " + strconv.Itoa(r.Node) + ": " + r.Why.Error()
}

// Unwrap gives what is wrong.
func (r Refusal) Unwrap() error { return r.Why }
