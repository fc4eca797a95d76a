package dom

import (
	"portiere/api"
	"portiere/tree"
)

// Make is a new node; else why there is none.
func (d *Doc) Make(n api.Node) (int, api.Errno) {
	if !sound(n) {
		return 0, api.ErrArg
	}
	made := node{kind: n.Kind, name: n.Name, data: n.Data, attrs: copyAttributes(n.Attrs)}
	if !made.isElement("template") {
		return d.makeOne(made)
	}
	if !d.room(2) {
		return 0, api.ErrLimit
	}
	i := d.add(made)
	content := d.add(node{kind: api.Fragment})
	d.nodes[i].content = content
	d.nodes[content].host = i
	return int(i), api.OK
}

// Root gives an element a shadow root.
func (d *Doc) Root(host int, f api.Flags) (int, api.Errno) {
	n, err := d.element(host, api.ErrHost)
	if err != api.OK {
		return 0, err
	}
	if n.shadow != none {
		return 0, api.ErrTwice
	}
	root, err := d.makeOne(node{kind: api.Shadow, flags: f})
	if err != api.OK {
		return 0, err
	}
	d.nodes[root].host = number(host)
	d.nodes[host].shadow = number(root)
	return root, api.OK
}

func (d *Doc) makeOne(n node) (int, api.Errno) {
	if !d.room(1) {
		return 0, api.ErrLimit
	}
	return int(d.add(n)), api.OK
}

// sound says whether a node of that kind may have what is said of it.
func sound(n api.Node) bool {
	switch n.Kind {
	case api.Fragment:
		return n.Name == "" && n.Data == "" && len(n.Attrs) == 0
	case api.Text:
		// A tree has no empty texts, a document may: all else of such a text is asked as if it had a byte.
		if n.Data == "" {
			n.Data = "-"
		}
	}
	return tree.Sound([]api.Item{{Kind: n.Kind, Name: n.Name, Data: n.Data, Attrs: n.Attrs}})
}
