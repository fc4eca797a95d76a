package slots

import (
	"slices"

	"portiere/dom"
	"portiere/shadow"
	"portiere/shown"
)

// byHand looks where the slot is, for a node may be given to a slot anywhere.
func byHand(d *dom.Doc, i, root int) int {
	slot := d.Slot(i)
	if shadow.Of(d, slot) != root {
		return none
	}
	return slot
}

// assigned is what a slot of that shadow root shows of the host.
func assigned(d *dom.Doc, slot, root int) []int {
	r, _ := d.Node(root)
	if r.Flags.Manual {
		return pick(d.Given(slot), byNumber(d, isIn(r.Host)))
	}
	n, _ := d.Node(slot)
	host, _ := d.Node(r.Host)
	name := shown.Value(n, "name")
	asks := byNumber(d, asksFor(name))
	// All that ask for a name are shown in one slot: it is looked for once, and not at all if nothing asks.
	if !slices.ContainsFunc(host.Kids, asks) || first(d, root, slotNamed(name)) != slot {
		return nil
	}
	return pick(host.Kids, asks)
}

// fill is what stands in a slot, nodes of the host (l) or else its own, and in which shadow root that is.
func fill(d *dom.Doc, slot, root int, l []int) ([]int, int) {
	if len(l) > 0 {
		r, _ := d.Node(root)
		return l, shadow.Of(d, r.Host)
	}
	n, _ := d.Node(slot)
	return pick(n.Kids, byNumber(d, shown.MayShow)), root
}
