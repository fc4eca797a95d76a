package comp

import (
	"portiere/api"
	"portiere/build"
	"portiere/names"
)

// none stands where there is no node.
const none = -1

// fill makes what is in a node anew, by a text; with shadows also shadow roots that are written in it.
func (w *work) fill(i int, text string, shadows bool) ([]api.Fault, api.Errno) {
	n, err := w.Node(i)
	if err != api.OK {
		return nil, err
	}
	if !mayHold(n) {
		return nil, api.ErrTree
	}
	// All that may be refused comes ahead of what is taken out.
	fragment, faults, err := build.Parse(w.Doc, text, shadows)
	if err != api.OK {
		return nil, err
	}
	w.replace(placeIn(n, i), fragment)
	return faults, api.OK
}

// replace puts what is in a new Fragment in the place of all that is in a node. No call below refuses: what is in a node may be taken out, and a Fragment that nothing is above may be put where nodes may be.
func (w *work) replace(place, fragment int) {
	n, _ := w.Node(place)
	for _, kid := range n.Kids {
		w.Remove(kid)
	}
	w.Insert(place, fragment, none)
}

// placeIn is where that is which a text of the i-th node is about.
func placeIn(n api.Node, i int) int {
	if n.Content != none {
		return n.Content
	}
	return i
}

func mayHold(n api.Node) bool {
	switch n.Kind {
	case api.Element:
		return !names.Void(n.Name)
	case api.Fragment, api.Shadow:
		return true
	}
	return false
}
