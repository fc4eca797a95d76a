package dom

import (
	"portiere/api"
	"portiere/names"
)

// Insert puts a node in, ahead of another one (-1: at the end), Remove takes it out.
func (d *Doc) Insert(up, i, before int) api.Errno {
	if d.at(up) == nil || d.at(i) == nil || before != int(none) && d.at(before) == nil {
		return api.ErrNode
	}
	if !d.fits(number(up), number(i), number(before)) {
		return api.ErrTree
	}
	d.put(number(up), number(i), number(before))
	return api.OK
}

// Remove takes a node out of the one in which it is, not from the slot to which it is given.
func (d *Doc) Remove(i int) api.Errno {
	n := d.at(i)
	if n == nil {
		return api.ErrNode
	}
	if n.place.up == none {
		return api.ErrTree
	}
	d.kids().takeOut(number(i))
	return api.OK
}

// fits says whether i may be put in up, ahead of before; all of them are there (but before, if it is none).
func (d *Doc) fits(up, i, before number) bool {
	return d.nodes[up].mayHold() && d.mayMove(i) && !d.within(up, i) &&
		(before == none || d.nodes[before].place.up == up)
}

// mayHold says whether nodes may be in it.
func (n *node) mayHold() bool {
	switch n.kind {
	case api.Element:
		return !names.Void(n.name)
	case api.Fragment, api.Shadow:
		return true
	}
	return false
}

// mayMove says whether a node has no place that it keeps for good.
func (d *Doc) mayMove(i number) bool {
	n := &d.nodes[i]
	return i != 0 && n.kind != api.Shadow && !n.isContent()
}

// within says whether a node is i, or is in it, in its shadow root or in its content, however deep.
func (d *Doc) within(at, i number) bool {
climb:
	for at != i {
		n := &d.nodes[at]
		switch {
		case n.place.up != none:
			at = n.place.up
		case n.host != none:
			at = n.host
		default:
			break climb
		}
	}
	return at == i
}

// put puts a node where it fits; of a Fragment what is in it.
func (d *Doc) put(up, i, before number) {
	kids := d.kids()
	if d.nodes[i].kind == api.Fragment {
		for _, kid := range kids.row(i) {
			kids.put(up, number(kid), before)
		}
		return
	}
	if before == i {
		before = d.nodes[i].place.next
	}
	kids.put(up, i, before)
}
