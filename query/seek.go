package query

import (
	"iter"
	"slices"

	"portiere/api"
	"portiere/dom"
	"portiere/order"
)

// sought says whether a node is what is sought.
type sought func(n api.Node) bool

func isElement(n api.Node) bool { return n.Kind == api.Element }

// named asks for the kind, too: a Doctype has a name as well.
func named(name string) sought {
	return func(n api.Node) bool { return isElement(n) && n.Name == name }
}

func having(name, value string) sought {
	return func(n api.Node) bool {
		return isElement(n) && slices.Contains(n.Attrs, api.Attr{Name: name, Value: value})
	}
}

// within is what is sought in a tree, but its root, to be ranged over in order; nothing, if there is no root.
func within(d *dom.Doc, root int, is sought) iter.Seq[int] {
	return func(yield func(i int) bool) {
		for _, i := range order.Tree(d, root) {
			if n, _ := d.Node(i); i != root && is(n) && !yield(i) {
				return
			}
		}
	}
}
