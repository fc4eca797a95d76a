package order

import (
	"iter"

	"portiere/api"
	"portiere/dom"
)

// inner tells which nodes follow one, each with its own, in order.
type inner func(n api.Node) []int

func kids(n api.Node) []int { return n.Kids }

func shadowAndKids(n api.Node) []int {
	if n.Shadow == none {
		return n.Kids
	}
	return append([]int{n.Shadow}, n.Kids...)
}

// from is a node and all that follow it, to be ranged over; nothing, if there is no such node.
func from(d *dom.Doc, i int, follow inner) iter.Seq[int] {
	return func(yield func(i int) bool) { visit(d, i, follow, yield) }
}

// visit tells whether yield wants more. It hands yield itself down, so that a node is handed out once, however deep it is.
func visit(d *dom.Doc, i int, follow inner, yield func(i int) bool) bool {
	n, err := d.Node(i)
	if err != api.OK {
		return true
	}
	if !yield(i) {
		return false
	}
	for _, next := range follow(n) {
		if !visit(d, next, follow, yield) {
			return false
		}
	}
	return true
}
