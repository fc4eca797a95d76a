package stable

import (
	"slices"

	"portiere/api"
	"portiere/dom"
)

// pair is two documents that are held against each other; they may be one.
type pair struct{ first, second *dom.Doc }

// face is what a node says of itself, but for its attributes: a list can't be compared as a part of it.
type face struct {
	kind uint8
	name string
	data string
}

func faceOf(n api.Node) face { return face{n.Kind, n.Name, n.Data} }

// alike says whether what is in two nodes is alike; of the two themselves just their Kids are looked at.
func (p pair) alike(m, n api.Node) bool {
	return slices.EqualFunc(m.Kids, n.Kids, func(i, j int) bool {
		m, _ := p.first.Node(i)
		n, _ := p.second.Node(j)
		return faceOf(m) == faceOf(n) && slices.Equal(m.Attrs, n.Attrs) &&
			p.alikeBeside(m.Shadow, n.Shadow) && p.alikeBeside(m.Content, n.Content) && p.alike(m, n)
	})
}

// alikeBeside holds what two nodes have beside their Kids against each other: shadow roots, or contents (these have no Flags).
func (p pair) alikeBeside(i, j int) bool {
	if i == none || j == none {
		return i == j
	}
	m, _ := p.first.Node(i)
	n, _ := p.second.Node(j)
	return m.Flags == n.Flags && p.alike(m, n)
}
