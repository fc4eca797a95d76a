package flat

import (
	"portiere/api"
	"portiere/dom"
	"portiere/shown"
	"portiere/slots"
)

// kids are what is shown in a node; assigned tells it of a slot.
func kids(d *dom.Doc, i int, assigned func(slot int) []int) []int {
	n, err := d.Node(i)
	// Where there is no node, noughts are told of it: its Shadow would be node 0.
	if err != api.OK {
		return nil
	}
	if n.Shadow != none {
		root, _ := d.Node(n.Shadow)
		return root.Kids
	}
	if shown.IsSlot(n) {
		if l := assigned(i); len(l) > 0 {
			return l
		}
	}
	return n.Kids
}

// oneByOne and allAtOnce tell the same: the one is quicker where one slot is asked for, the other where many are. That one looks at the document when a slot comes up, for there may be none.
func oneByOne(d *dom.Doc) func(slot int) []int {
	return func(slot int) []int { return slots.Assigned(d, slot) }
}

func allAtOnce(d *dom.Doc) func(slot int) []int {
	var all shown.Lists
	return func(slot int) []int {
		if all == nil {
			all = shown.All(d)
		}
		return all[slot]
	}
}
