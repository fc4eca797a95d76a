package dom

import (
	"slices"

	"portiere/api"
	"portiere/tree"
)

// Set gives an element an attribute, Drop takes it away, Write gives a text, or a comment, other data.
func (d *Doc) Set(i int, name, value string) api.Errno {
	n, err := d.element(i, api.ErrTree)
	if err != api.OK {
		return err
	}
	attrs := withAttribute(n.attrs, api.Attr{Name: name, Value: value})
	// All others are right as they are: if the element is not any more, the new one is not writable, or one too much.
	if !tree.Sound([]api.Item{{Kind: api.Element, Name: n.name, Attrs: attrs}}) {
		return api.ErrName
	}
	n.attrs = attrs
	return api.OK
}

// Drop leaves the others in their order.
func (d *Doc) Drop(i int, name string) api.Errno {
	n, err := d.element(i, api.ErrTree)
	if err != api.OK {
		return err
	}
	k := slices.IndexFunc(n.attrs, named(name))
	if k < 0 {
		return api.ErrName
	}
	n.attrs = slices.Delete(n.attrs, k, k+1)
	return api.OK
}

// Write takes any data, empty data too.
func (d *Doc) Write(i int, data string) api.Errno {
	n := d.at(i)
	if n == nil {
		return api.ErrNode
	}
	if n.kind != api.Text && n.kind != api.Comment {
		return api.ErrTree
	}
	n.data = data
	return api.OK
}

// element is the i-th node, if it is an Element; other is the error, if it is something else.
func (d *Doc) element(i int, other api.Errno) (*node, api.Errno) {
	n := d.at(i)
	if n == nil {
		return nil, api.ErrNode
	}
	if n.kind != api.Element {
		return nil, other
	}
	return n, api.OK
}

// withAttribute is the same attributes with a: in the place of the one of its name, or behind all.
func withAttribute(l []api.Attr, a api.Attr) []api.Attr {
	out := copyAttributes(l)
	if k := slices.IndexFunc(out, named(a.Name)); k >= 0 {
		out[k] = a
		return out
	}
	return append(out, a)
}

// copyAttributes is the same attributes in memory of their own.
func copyAttributes(l []api.Attr) []api.Attr { return append([]api.Attr(nil), l...) }

func named(name string) func(a api.Attr) bool {
	return func(a api.Attr) bool { return a.Name == name }
}
