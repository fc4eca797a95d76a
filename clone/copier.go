package clone

import (
	"portiere/api"
	"portiere/dom"
)

// copier copies nodes of its document into it. While it is counting it goes the same way and makes nothing: what it would have made has no numbers.
type copier struct {
	*dom.Doc
	counting bool
	count    int
}

// copyNode is a copy of a node, in nothing. Its shadow root is asked for whether it is deep or not.
func (c *copier) copyNode(i int, deep bool) int {
	n, _ := c.Node(i)
	made := c.makeLike(n)
	if n.Shadow != none {
		c.copyRoot(n.Shadow, made)
	}
	if !deep {
		return made
	}
	if n.Content != none {
		// A content has the number behind its template's.
		c.copyKids(n.Content, made+1)
	}
	c.copyKids(i, made)
	return made
}

func (c *copier) copyRoot(root, host int) {
	if n, _ := c.Node(root); n.Flags.Clonable {
		c.copyKids(root, c.makeRoot(host, n.Flags))
	}
}

// copyKids puts copies of what is in a node into another one, each with all that is in it. A copy is whole ahead of being put: one that is in nothing yet is put without a long way up.
func (c *copier) copyKids(from, to int) {
	n, _ := c.Node(from)
	for _, kid := range n.Kids {
		c.put(to, c.copyNode(kid, true))
	}
}

// makeLike, makeRoot and put alone touch the document. No call of theirs is refused: what is copied stands there already, and there is room for all of it.
func (c *copier) makeLike(n api.Node) int {
	c.count++
	if n.Content != none {
		// A template is made with its content.
		c.count++
	}
	if c.counting {
		return none
	}
	made, _ := c.Make(n)
	return made
}

func (c *copier) makeRoot(host int, f api.Flags) int {
	c.count++
	if c.counting {
		return none
	}
	made, _ := c.Root(host, f)
	return made
}

func (c *copier) put(up, i int) {
	if !c.counting {
		c.Insert(up, i, none)
	}
}
