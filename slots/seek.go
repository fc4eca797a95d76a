package slots

import (
	"slices"

	"portiere/api"
	"portiere/dom"
)

// mayShow and isSlot say no of noughts, too: a number that stands for no node needs no question of its own.
func mayShow(n api.Node) bool { return n.Kind == api.Element || n.Kind == api.Text }

func isSlot(n api.Node) bool { return n.Kind == api.Element && n.Name == "slot" }

func slotNamed(name string) func(n api.Node) bool {
	return func(n api.Node) bool { return isSlot(n) && attribute(n, "name") == name }
}

func asksFor(name string) func(n api.Node) bool {
	return func(n api.Node) bool { return mayShow(n) && attribute(n, "slot") == name }
}

func isIn(up int) func(n api.Node) bool {
	return func(n api.Node) bool { return n.Up == up }
}

// byNumber asks of a number what is asked of its node.
func byNumber(d *dom.Doc, sought func(n api.Node) bool) func(i int) bool {
	return func(i int) bool {
		n, _ := d.Node(i)
		return sought(n)
	}
}

// pick is those of a list that are sought, in order.
func pick(l []int, sought func(i int) bool) []int {
	var out []int
	for _, i := range l {
		if sought(i) {
			out = append(out, i)
		}
	}
	return out
}

// first is the first of order.Tree that is sought (-1: there is none). It goes no further than that: slots are asked one by one, and most of them have one of their name soon.
func first(d *dom.Doc, i int, sought func(n api.Node) bool) int {
	n, _ := d.Node(i)
	if sought(n) {
		return i
	}
	for _, kid := range n.Kids {
		if found := first(d, kid, sought); found != none {
			return found
		}
	}
	return none
}

// attribute is empty where there is none of that name.
func attribute(n api.Node, name string) string {
	k := slices.IndexFunc(n.Attrs, func(a api.Attr) bool { return a.Name == name })
	if k < 0 {
		return ""
	}
	return n.Attrs[k].Value
}
