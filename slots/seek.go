package slots

import (
	"portiere/api"
	"portiere/dom"
	"portiere/shown"
)

func slotNamed(name string) func(n api.Node) bool {
	return func(n api.Node) bool { return shown.IsSlot(n) && shown.Value(n, "name") == name }
}

func asksFor(name string) func(n api.Node) bool {
	return func(n api.Node) bool { return shown.MayShow(n) && shown.Value(n, "slot") == name }
}

func isIn(up int) func(n api.Node) bool {
	return func(n api.Node) bool { return n.Up == up }
}

// byNumber asks of a number what is asked of its node.
func byNumber(d *dom.Doc, sought func(n api.Node) bool) func(i int) bool {
	return func(i int) bool {
		n, _ := d.Node(i)
		return sought(n)
	}
}

// pick is those of a list that are sought, in order.
func pick(l []int, sought func(i int) bool) []int {
	var out []int
	for _, i := range l {
		if sought(i) {
			out = append(out, i)
		}
	}
	return out
}

// first is the first of order.Tree that is sought (-1: there is none). It goes no further than that: slots are asked one by one, and most of them have one of their name soon.
func first(d *dom.Doc, i int, sought func(n api.Node) bool) int {
	n, _ := d.Node(i)
	if sought(n) {
		return i
	}
	for _, kid := range n.Kids {
		if found := first(d, kid, sought); found != none {
			return found
		}
	}
	return none
}
