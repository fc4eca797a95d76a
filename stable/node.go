package stable

import (
	"slices"
	"strings"

	"portiere/api"
	"portiere/names"
)

// maxDown is well below api.MaxDeep, from which on what is in an element is read as standing behind it.
const maxDown = 40

// isBareDiv asks for no shadow root: that would be written with what is in the node, and read where it has no host.
func isBareDiv(n api.Node) bool {
	return n.Kind == api.Element && n.Name == "div" && n.Shadow == none
}

// isReadBack says whether a node, wherever it stands, is read as it was written.
func isReadBack(n api.Node) bool {
	switch n.Kind {
	case api.Element:
		return isStableName(n.Name) && !slices.ContainsFunc(n.Attrs, func(a api.Attr) bool { return hasNull(a.Value) })
	case api.Text:
		return n.Data != "" && !hasNull(n.Data)
	case api.Comment:
		return !strings.ContainsAny(n.Data, "->\x00")
	case api.Shadow:
		// What is given to slots by hand is not written.
		return !n.Flags.Manual
	}
	return false
}

// isStableName is of elements that neither end others nor are ended by them, and whose texts are written as any.
func isStableName(name string) bool {
	switch name {
	case "div", "span", "section", "article", "b", "i", "slot":
		return true
	}
	return names.Custom(name)
}

func hasNull(s string) bool { return strings.IndexByte(s, 0) >= 0 }

// place is what is known of a node that has been passed.
type place struct {
	down int   // how far it is from the one that is asked about
	last uint8 // of what Kind the last one is that was passed in it
}

// places are those of nodes, by their numbers.
type places []place

// pass says whether a node may stand where it does. Nodes are passed in their order: each behind the one in which it is, and behind those that stand ahead of it there.
func (p places) pass(i int, n api.Node) bool {
	up := &p[above(n)]
	p[i].down = up.down + 1
	isSecondText := n.Kind == api.Text && up.last == api.Text
	up.last = n.Kind
	return p[i].down <= maxDown && !isSecondText
}

// above is the node in which one is, or whose shadow root it is.
func above(n api.Node) int {
	if n.Kind == api.Shadow {
		return n.Host
	}
	return n.Up
}
