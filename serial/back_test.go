package serial_test

import (
	"math/rand"
	"slices"
	"testing"

	"portiere/api"
	"portiere/build"
	"portiere/dom"
	"portiere/serial"
)

// allRoots asks for each shadow root of a document.
func allRoots(d *dom.Doc) api.Options {
	var l []int
	for i := range d.Len() {
		if n, _ := d.Node(i); n.Kind == api.Shadow {
			l = append(l, i)
		}
	}
	return roots(l...)
}

// alike says whether nodes of two documents are the same with all that is in them; places and numbers are not looked at.
func alike(d *dom.Doc, i int, e *dom.Doc, j int) bool {
	if i < 0 || j < 0 {
		return i == j
	}
	m, _ := d.Node(i)
	n, _ := e.Node(j)
	return m.Kind == n.Kind && m.Name == n.Name && m.Data == n.Data && m.Flags == n.Flags && slices.Equal(m.Attrs, n.Attrs) &&
		alike(d, m.Shadow, e, n.Shadow) && alike(d, m.Content, e, n.Content) &&
		slices.EqualFunc(m.Kids, n.Kids, func(i, j int) bool { return alike(d, i, e, j) })
}

// holdBack writes node 0 with all its shadow roots, and reads it again.
func holdBack(t *testing.T, d *dom.Doc) {
	t.Helper()
	text := serial.Inner(d, 0, allRoots(d))
	e := dom.New(api.MaxItems)
	i, faults, err := build.Parse(e, text, true)
	if err != api.OK || len(faults) > 0 || !alike(d, 0, e, i) {
		t.Fatalf("%d, %v: %q comes back as %q", err, faults, text, serial.Inner(e, i, allRoots(e)))
	}
	if again := serial.Outer(e, i, allRoots(e)); again != text {
		t.Fatalf("%q is written as %q behind", text, again)
	}
}

func TestWhatIsWrittenComesBack(t *testing.T) {
	for _, text := range []string{
		"",
		"a&lt;&amp;lt;&nbsp;\"",
		"<!DOCTYPE html><p id=\"a&quot;&amp;b\" x=\"\">a<br>b</p><!--c-->",
		"<script>a<b>&amp;</script><style></style><title>a&lt;</title>",
		"<template>a<template><b></b></template></template>",
		"<div>" + open + "<slot></slot>" + end + "a</div>",
		"<x-a><template shadowrootmode=\"closed\" shadowrootdelegatesfocus=\"\" shadowrootserializable=\"\" shadowrootslotassignment=\"manual\" shadowrootclonable=\"\">" + "<p>" + open + "b" + end + "</p>" + end + "<template shadowrootmode=\"open\">c</template></x-a>",
	} {
		s := parsed(t, 100, text)
		s.inner(0, allRoots(s.Doc), text)
		holdBack(t, s.Doc)
	}
}

// growBack puts random nodes of such kinds as come back into a node.
func growBack(c *calls, d *dom.Doc, up, deep int) {
	lastIsText := false
	for range c.pick(4) {
		if !lastIsText && c.pick(3) == 0 {
			text, _ := d.Make(api.Node{Kind: api.Text, Data: one(c, "a", "<b>", "&lt;", "\u00a0", "\"'>", "--!>", "\xff\xc2", " ")})
			d.Insert(up, text, -1)
			lastIsText = true
			continue
		}
		lastIsText = false
		if c.pick(5) == 0 {
			note, _ := d.Make(api.Node{Kind: api.Comment, Data: one(c, "", "a", "<b", "&lt;", "\u00a0!")})
			d.Insert(up, note, -1)
			continue
		}
		name := one(c, "div", "span", "section", "article", "x-a", "b", "i", "slot")
		element, _ := d.Make(api.Node{Kind: api.Element, Name: name, Attrs: []api.Attr{attr("id", one(c, "", "a", "\"'", "&quot;", "<\u00a0>", "\xff"))}})
		d.Insert(up, element, -1)
		if len(name) > 2 && name != "slot" && c.pick(2) == 0 {
			root, _ := d.Root(element, c.flags())
			if deep < 6 {
				growBack(c, d, root, deep+1)
			}
		}
		if deep < 6 {
			growBack(c, d, element, deep+1)
		}
	}
}

func TestRandomOnesComeBack(t *testing.T) {
	r := rand.New(rand.NewSource(160))
	shadows := 0
	for range 2000 {
		b := make([]byte, 50+r.Intn(300))
		r.Read(b)
		d := dom.New(2000)
		growBack(&calls{b: b}, d, 0, 0)
		holdBack(t, d)
		shadows += len(allRoots(d).Roots)
	}
	if shadows < 1000 {
		t.Errorf("%d shadow roots", shadows)
	}
}
