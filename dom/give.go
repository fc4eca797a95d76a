package dom

import (
	"slices"

	"portiere/api"
)

// Give assigns nodes to a slot by hand, Given are those, Slot is to which one a node is (-1: none).
func (d *Doc) Give(slot int, l []int) api.Errno {
	if err := d.mayGive(slot, l); err != api.OK {
		return err
	}
	gifts := d.gifts()
	for _, i := range gifts.row(number(slot)) {
		gifts.takeOut(number(i))
	}
	for _, i := range l {
		// The slot's row is new: one that stands in it already has come before.
		if d.Slot(i) != slot {
			gifts.put(number(slot), number(i), none)
		}
	}
	return api.OK
}

// Given is empty for a node that is no slot, too.
func (d *Doc) Given(slot int) []int {
	if d.at(slot) == nil {
		return nil
	}
	return d.gifts().row(number(slot))
}

// Slot is -1 for a node that is not there, too.
func (d *Doc) Slot(i int) int {
	n := d.at(i)
	if n == nil {
		return int(none)
	}
	return int(n.gift.up)
}

// mayGive says why those can't be given to that slot; each question is asked of all of them ahead of the next.
func (d *Doc) mayGive(slot int, l []int) api.Errno {
	missing := func(i int) bool { return d.at(i) == nil }
	hidden := func(i int) bool { return !d.nodes[i].mayShow() }
	switch {
	case missing(slot) || slices.ContainsFunc(l, missing):
		return api.ErrNode
	case !d.nodes[slot].isElement("slot"):
		return api.ErrSlot
	case slices.ContainsFunc(l, hidden):
		return api.ErrTree
	case len(l) > api.MaxGiven:
		return api.ErrArg
	}
	return api.OK
}

// mayShow says whether it may stand in a slot.
func (n *node) mayShow() bool { return n.kind == api.Element || n.kind == api.Text }
