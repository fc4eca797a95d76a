package stable_test

import (
	"math/rand"
	"slices"
	"strings"
	"testing"

	"portiere/api"
	"portiere/build"
	"portiere/dom"
	"portiere/flat"
	"portiere/order"
	"portiere/serial"
	"portiere/shadow"
	"portiere/slots"
	"portiere/stable"
)

// written is what is in a node with all its shadow roots.
func written(d *dom.Doc, i int) string {
	var o api.Options
	for k := range d.Len() {
		if n, _ := d.Node(k); n.Kind == api.Shadow {
			o.Roots = append(o.Roots, k)
		}
	}
	return serial.Inner(d, i, o)
}

// holdBack holds what is read of a stable node's text to what is in the node, in a document of its own.
func holdBack(t *testing.T, d *dom.Doc, i int) {
	t.Helper()
	text := written(d, i)
	e := dom.New(api.MaxItems)
	j, faults, err := build.Parse(e, text, true)
	if err != api.OK || len(faults) > 0 || !stable.Same(d, i, e, j) || !stable.Same(e, j, d, i) {
		t.Fatalf("%d, %v: %q comes back as %q", err, faults, text, written(e, j))
	}
	if again := written(e, j); again != text {
		t.Fatalf("%q is written as %q behind", text, again)
	}
	div, _ := e.Make(api.Node{Kind: api.Element, Name: "div"})
	e.Insert(div, j, -1)
	if !stable.Stable(e, div) {
		t.Fatalf("%q is stable no more", text)
	}
}

// holdSetAnew sets what is in a stable node anew, and holds the document behind that to the one ahead: all of it, and what is shown.
func (c *calls) holdSetAnew(t *testing.T, d *dom.Doc, i int) {
	t.Helper()
	e := d.Copy()
	j, _, err := build.Parse(e, written(d, i), true)
	if err != api.OK {
		t.Fatalf("refused: %d", err)
	}
	n, _ := e.Node(i)
	for _, k := range n.Kids {
		e.Remove(k)
	}
	e.Insert(i, j, -1)
	if !stable.Same(d, 0, e, 0) || !stable.Stable(e, i) {
		t.Fatalf("%q is %q behind", written(d, 0), written(e, 0))
	}
	c.holdShown(t, d, e)
}

// holdShown holds what is shown in two documents that are the same against each other.
func (c *calls) holdShown(t *testing.T, d, e *dom.Doc) {
	t.Helper()
	first, second := order.All(d, 0), order.All(e, 0)
	twin := map[int]int{-1: -1}
	for k, i := range first {
		twin[i] = second[k]
	}
	hold := func(what string, l, m []int) {
		for k, i := range l {
			l[k] = twin[i]
		}
		if !slices.Equal(l, m) {
			t.Fatalf("%s: %v, not %v, in %q", what, m, l, written(d, 0))
		}
	}
	for _, i := range first {
		hold("Find", []int{slots.Find(d, i)}, []int{slots.Find(e, twin[i])})
		hold("Assigned", slots.Assigned(d, i), slots.Assigned(e, twin[i]))
		hold("Flat", slots.Flat(d, i), slots.Flat(e, twin[i]))
		hold("Kids", flat.Kids(d, i), flat.Kids(e, twin[i]))
		if len(slots.Assigned(d, i)) > 0 {
			c.tally["a slot that shows nodes"]++
		}
	}
	hold("Walk", flat.Walk(d, 0), flat.Walk(e, 0))
}

// runBack grows a stable node, in a shadow root or not, that comes back.
func (c *calls) runBack(t *testing.T) {
	d := dom.New(4000)
	host, _ := d.Make(api.Node{Kind: api.Element, Name: "x-host"})
	top, _ := d.Make(api.Node{Kind: api.Element, Name: "div"})
	d.Insert(0, host, -1)
	c.grow(d, host, 30)
	if root, err := shadow.Attach(d, host, c.flags()); c.pick(2) == 0 && err == api.OK {
		c.grow(d, root, 30)
		d.Insert(root, top, -1)
		c.grow(d, root, 30)
	} else {
		d.Insert(host, top, -1)
	}
	c.grow(d, top, 0)
	if !stable.Stable(d, top) {
		t.Fatalf("%q is not stable", written(d, top))
	}
	holdBack(t, d, top)
	c.holdSetAnew(t, d, top)
	c.tally["nodes"] += len(order.All(d, top)) - 1
}

func TestWhatIsStableComesBack(t *testing.T) {
	r := rand.New(rand.NewSource(170))
	c := &calls{tally: map[string]int{}}
	for range 4000 {
		c.b = make([]byte, 30+r.Intn(300))
		r.Read(c.b)
		c.runBack(t)
	}
	if c.tally["nodes"] < 5000 || c.tally["a slot that shows nodes"] < 1000 {
		t.Errorf("too few: %v", c.tally)
	}
}

// Texts that are written out: each comes back, or is not stable.
func TestTextsThatComeBack(t *testing.T) {
	rows := []struct {
		text   string
		stable bool
	}{
		{"", true},
		{"a&lt;&amp;lt;&nbsp;\"", true},
		{"<b id=\"a&quot;&amp;b\" x=\"\">a</b><!--c-->d", true},
		{"<x-a>" + open + "<slot name=\"s\"></slot>" + end + "a<i slot=\"s\"></i></x-a>", true},
		{"<section><template shadowrootmode=\"closed\" shadowrootdelegatesfocus=\"\" shadowrootserializable=\"\" shadowrootclonable=\"\">b" + end + "</section>", true},
		{"<div>" + open + "<span>" + open + "c" + end + "</span>" + end + "</div>", true},
		{"<section><template shadowrootmode=\"open\" shadowrootslotassignment=\"manual\">" + end + "</section>", false},
		{"<p>a</p>", false},
		{"<template>a</template>", false},
		{"<b>" + open + end + "</b>", false},
		{"<script>a</script>", false},
		{"<!--a-b-->", false},
		{"<br>", false},
	}
	for _, r := range rows {
		s := parsed(t, 100, "<div>"+r.text+"</div>")
		s.stable(2, r.stable)
		if r.stable {
			holdBack(t, s.Doc, 2)
		}
		if got := written(s.Doc, 2); got != r.text {
			t.Errorf("%q is written as %q", r.text, got)
		}
	}
}

// As deep as a stable node may be, by elements and by shadow roots.
func TestDeepOnesComeBack(t *testing.T) {
	for _, kinds := range []string{strings.Repeat("e", 40), strings.Repeat("s", 20), strings.Repeat("es", 13) + "e"} {
		s := newScene(t, 400)
		div := s.element("div")
		s.chain(div, kinds)
		s.put(0, div)
		s.stable(div, true)
		holdBack(t, s.Doc, div)
		(&calls{tally: map[string]int{}}).holdSetAnew(t, s.Doc, div)
	}
}
