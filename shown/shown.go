// Package shown tells what all slots of a document show, at once. It is no layer of the document's; it stands on api, dom and order, below slots, and says of each slot what slots.Assigned says of it: that one seeks a slot among all others, which takes long where many are asked for, one by one.
package shown

import (
	"portiere/api"
	"portiere/dom"
	"portiere/order"
)

// Lists are what is shown in slots, by their numbers; a slot in which nothing is shown is not among them.
type Lists map[int][]int

// All is what all slots show, as the document is now.
func All(d *dom.Doc) Lists {
	out := Lists{}
	for i := range d.Len() {
		switch n, _ := d.Node(i); {
		case n.Kind != api.Shadow:
		case n.Flags.Manual:
			out.byHand(d, i, n.Host)
		default:
			out.byName(d, i, n.Host)
		}
	}
	return out
}

func (l Lists) add(slot, i int) { l[slot] = append(l[slot], i) }

// byHand passes over what is given to a slot, but is not in its host.
func (l Lists) byHand(d *dom.Doc, root, host int) {
	eachSlot(d, root, func(slot int, _ api.Node) {
		for _, i := range d.Given(slot) {
			if n, _ := d.Node(i); n.Up == host {
				l.add(slot, i)
			}
		}
	})
}

// byName goes on from the first slot of each name: in that all is shown which asks for it.
func (l Lists) byName(d *dom.Doc, root, host int) {
	first := map[string]int{}
	eachSlot(d, root, func(slot int, n api.Node) {
		name := Value(n, "name")
		if _, is := first[name]; !is {
			first[name] = slot
		}
	})
	h, _ := d.Node(host)
	for _, i := range h.Kids {
		n, _ := d.Node(i)
		if slot, is := first[Value(n, "slot")]; is && MayShow(n) {
			l.add(slot, i)
		}
	}
}

func eachSlot(d *dom.Doc, root int, do func(slot int, n api.Node)) {
	for _, i := range order.Tree(d, root) {
		if n, _ := d.Node(i); IsSlot(n) {
			do(i, n)
		}
	}
}
