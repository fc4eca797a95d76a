package comp_test

import (
	"math"
	"reflect"
	"slices"
	"strings"
	"testing"

	"portiere/api"
	"portiere/comp"
	"portiere/flat"
)

func TestExample(t *testing.T) {
	p := newPair(t, 100)
	l, err := p.html(0, "<p>a")
	if p.ok(err); len(l) != 0 {
		t.Errorf("faults %v", l)
	}
	p.text(0, "<p>a</p>")
}

// The ten examples of the whole, as calls.
func TestExamplesOfTheWhole(t *testing.T) {
	rows := []struct {
		text   string
		faults int
		want   string
	}{
		{"<p>a<p>b", 0, "<p>a</p><p>b</p>"},
		{"<ul><li>a<li>b</ul>&lt;", 0, "<ul><li>a</li><li>b</li></ul>&lt;"},
		{"</p>", 1, "<p></p>"},
	}
	for _, r := range rows {
		p := newPair(t, 100)
		l, err := p.html(0, r.text)
		if p.ok(err); len(l) != r.faults {
			t.Errorf("%q has the faults %v", r.text, l)
		}
		p.text(0, r.want)
	}
}

func TestExampleOfAShadowRoot(t *testing.T) {
	p := newPair(t, 100)
	p.filled(0, "<x-a><template shadowrootmode=closed shadowrootserializable><slot></slot></template>t</x-a>")
	p.text(0, "<x-a>t</x-a>")
	want := `<x-a><template shadowrootmode="closed" shadowrootserializable=""><slot></slot></template>t</x-a>`
	if got, err := p.get(0, api.Options{Serializable: true}); got != want || err != api.OK {
		t.Errorf("%q, %d", got, err)
	}
	if l := flat.Walk(p.c.Doc(), 0); !slices.Equal(l, []int{0, 2, 4, 5}) {
		t.Errorf("shown are %v", l)
	}
	p.changed(4)
}

func TestExamplesOfCalls(t *testing.T) {
	p := newPair(t, 100)
	if i := p.element("div"); i != 1 {
		t.Errorf("div is %d", i)
	}
	if i, err := p.attach(1, api.Flags{Manual: true}); i != 2 || err != api.OK {
		t.Errorf("%d, %d", i, err)
	}
	if i, err := p.attach(1, api.Flags{}); i != 0 || err != api.ErrTwice {
		t.Errorf("%d, %d", i, err)
	}
	if i := p.element("a"); i != 3 {
		t.Errorf("a is %d", i)
	}
	if i, err := p.attach(3, api.Flags{}); i != 0 || err != api.ErrHost {
		t.Errorf("%d, %d", i, err)
	}

	p = newPair(t, 100)
	p.element("div")
	p.wants(p.insert(1, 1, -1), api.ErrTree)
	p.wants(p.insert(0, 1, 9), api.ErrNode)

	p = newPair(t, 100)
	p.element("div")
	p.wants(p.set(1, "Id", "a"), api.ErrName)
	p.ok(p.set(1, "id", "a b"))
	p.ok(p.insert(0, 1, -1))
	p.text(0, `<div id="a b"></div>`)

	p = newPair(t, 100)
	p.element("template")
	p.html(1, "x")
	p.text(1, "x")
	p.length(5)

	p = newPair(t, 100)
	p.html(0, "<b>x")
	if i, err := p.clone(2, false); i != 4 || err != api.OK {
		t.Errorf("%d, %d", i, err)
	}
	if i, err := p.clone(2, true); i != 5 || err != api.OK {
		t.Errorf("%d, %d", i, err)
	}
	p.length(7)
}

func TestNew(t *testing.T) {
	for _, limit := range []int{math.MinInt, -5000, -1, 0, 5001, 1 << 32, 1<<32 + 1, math.MaxInt} {
		if comp.New(limit) != nil {
			t.Errorf("New(%d)", limit)
		}
	}
	for _, limit := range []int{1, 2, 4999, 5000} {
		p := newPair(t, limit)
		p.length(1)
		p.changed()
		p.text(0, "")
		if d := p.c.Doc(); d.Limit() != limit || d != p.c.Doc() {
			t.Errorf("New(%d)", limit)
		}
	}
}

// By Doc all that is done is seen at once: it is the document, not a copy.
func TestDocIsTheDocument(t *testing.T) {
	p := newPair(t, 100)
	d := p.c.Doc()
	p.filled(0, "<b>x</b>")
	if n, _ := d.Node(0); !slices.Equal(n.Kids, []int{2}) || d.Len() != 4 || p.c.Doc() != d {
		t.Errorf("in 0 are %v of %d nodes", n.Kids, d.Len())
	}
}

// There is no other call: by one of the document's own the board would not see what it does.
func TestCalls(t *testing.T) {
	want := strings.Fields("Assign Attach Clone Doc Drop Get HTML Insert Make Remove Set Signals Unsafe Write")
	typ, own := reflect.TypeFor[*comp.Comp](), reflect.TypeFor[comp.Comp]()
	var got []string
	for i := range typ.NumMethod() {
		got = append(got, typ.Method(i).Name)
	}
	if !slices.Equal(got, want) {
		t.Errorf("the calls are %v", got)
	}
	for i := range own.NumField() {
		if own.Field(i).IsExported() {
			t.Errorf("%s is to be seen", own.Field(i).Name)
		}
	}
}

// What was in a node is in nothing then, and keeps what is in it; what is new comes behind all that is there.
func TestWhatWasThere(t *testing.T) {
	p := newPair(t, 100)
	p.filled(0, "<b>x<i>y</i></b>z")
	p.kids(0, 2, 6) // 1 the Fragment, 2 b, 3 x, 4 i, 5 y, 6 z
	p.filled(0, "<u>v</u>")
	p.kids(0, 8) // 7 the Fragment, 8 u, 9 v
	p.kids(1)
	p.kids(7)
	p.length(10)
	p.text(0, "<u>v</u>")
	for i, want := range map[int]int{1: -1, 2: -1, 6: -1, 7: -1, 3: 2, 4: 2, 5: 4, 8: 0, 9: 8} {
		if n, _ := p.c.Doc().Node(i); n.Up != want {
			t.Errorf("%d is in %d", i, n.Up)
		}
	}
	p.text(2, "x<i>y</i>")
	// It may be put in again.
	p.put(8, 2)
	p.text(0, "<u>v<b>x<i>y</i></b></u>")
	p.filled(8, "")
	p.kids(8)
	p.length(11)
	p.text(0, "<u></u>")
	p.filled(0, "")
	p.kids(0)
	p.filled(0, "")
	p.length(13)
}

// What is taken out stays given to the slot to which it was given.
func TestWhatWasGiven(t *testing.T) {
	p := newPair(t, 100)
	p.filled(0, "<div>"+byHand+"<slot></slot>"+end+"a<b></b></div>") // 2 div, 3 its shadow root, 4 slot, 5 a, 6 b
	p.ok(p.assign(4, 6, 5))
	p.changed(4)
	p.filled(2, "c")
	p.changed(4)
	if l := p.c.Doc().Given(4); !slices.Equal(l, []int{6, 5}) {
		t.Errorf("given are %v", l)
	}
	p.put(2, 6)
	p.changed(4)
	// So does the slot itself.
	p.filled(3, "<slot></slot>")
	p.changed(4)
	if l := p.c.Doc().Given(4); !slices.Equal(l, []int{6, 5}) {
		t.Errorf("given are %v", l)
	}
}

// The place is the node itself, but for a template.
func TestPlaces(t *testing.T) {
	p := newPair(t, 200)
	f, template := p.node(api.Fragment), p.element("template")
	div, script := p.element("div"), p.element("script")
	root, err := p.attach(div, api.Flags{Closed: true})
	p.ok(err)
	for _, i := range []int{0, f, div, script, root} {
		p.filled(i, "<i></i>")
		p.filled(i, "<b>a</b>")
		p.text(i, "<b>a</b>")
		if n, _ := p.c.Doc().Node(i); len(n.Kids) != 1 {
			t.Errorf("in %d are %v", i, n.Kids)
		}
	}
	// The shadow root of a host is not in it, nor is the host in its shadow root.
	p.filled(div, "c")
	p.text(root, "<b>a</b>")
	p.whole(div, `<template shadowrootmode="closed"><b>a</b></template>c`)
	p.filled(root, "d")
	p.text(div, "c")

	// What is in a template itself stays there: its content is the place.
	content := template + 1
	own := p.node(api.Text)
	p.put(template, own)
	p.filled(template, "e")
	p.kids(template, own)
	p.text(template, "e")
	p.text(content, "e")
	p.filled(content, "f<!--g-->")
	p.kids(template, own)
	p.text(template, "f<!--g-->")
	p.filled(template, "")
	p.kids(template, own)
	p.kids(content)
}

// A node that is in nothing, and one that is deep in others, are made anew in the same way.
func TestAnywhere(t *testing.T) {
	p := newPair(t, 200)
	p.filled(0, "<div>"+open+"<template><x-a>"+open+"<b>a</b>"+end+"</x-a></template>"+end+"</div>")
	// 2 div, 3 its shadow root, 4 template, 5 its content, 6 x-a, 7 its shadow root, 8 b, 9 a
	p.filled(8, "c<slot></slot>")
	p.whole(0, "<div>"+open+"<template><x-a>"+open+"<b>c<slot></slot></b>"+end+"</x-a></template>"+end+"</div>")
	p.filled(6, "d")
	p.whole(0, "<div>"+open+"<template><x-a>"+open+"<b>c<slot></slot></b>"+end+"d</x-a></template>"+end+"</div>")
	p.changed(12)
	p.filled(9-1, "")
	p.changed(12)
	p.ok(p.remove(2))
	p.filled(4, "e")
	p.text(0, "")
	p.whole(2, open+"<template>e</template>"+end)
}

// A text is read alone, not as what stands in the node: it ends nothing there.
func TestTextsAreReadAlone(t *testing.T) {
	p := newPair(t, 200)
	p.filled(0, "<p>a</p>")
	l, err := p.html(2, "b</p><p>c<p>d")
	if p.ok(err); len(l) != 1 || l[0] != (api.Fault{Kind: api.FaultNest, At: 1}) {
		t.Errorf("faults %v", l)
	}
	p.text(0, "<p>b<p></p><p>c</p><p>d</p></p>")
	p.filled(2, "<p>e")
	p.text(0, "<p><p>e</p></p>")
	p.filled(2, "<!doctype html>f")
	p.text(2, "<!DOCTYPE html>f")
	// In a script tags are read, in its text they were not.
	script := p.element("script")
	p.filled(script, "<b>a</b>")
	if n, _ := p.c.Doc().Node(script); len(n.Kids) != 1 {
		t.Errorf("in the script are %v", n.Kids)
	}
}

func TestShadowRootsThatAreWritten(t *testing.T) {
	const text = "<div>" + kept + "<slot></slot>" + end + "a</div>"
	p := newPair(t, 200)
	l, err := p.unsafe(0, text)
	if p.ok(err); len(l) != 0 {
		t.Errorf("faults %v", l)
	}
	p.text(0, "<div>a</div>")
	p.whole(0, text)
	p.changed(4)

	// HTML leaves them templates.
	p = newPair(t, 200)
	l, err = p.html(0, text)
	if p.ok(err); len(l) != 0 {
		t.Errorf("faults %v", l)
	}
	p.text(0, text)
	if n, _ := p.c.Doc().Node(2); n.Shadow != -1 {
		t.Errorf("div has the shadow root %d", n.Shadow)
	}
	p.changed()

	// One that has no parent in the text is a template, even if the node may have a shadow root.
	p = newPair(t, 200)
	div := p.element("div")
	p.filled(div, kept+"a"+end)
	p.text(div, kept+"a"+end)
	if n, _ := p.c.Doc().Node(div); n.Shadow != -1 || len(n.Kids) != 1 {
		t.Errorf("div is %v", n)
	}
}

func TestFaults(t *testing.T) {
	want := []api.Fault{{Kind: api.FaultRef, At: 4}, {Kind: api.FaultAttr, At: 21}, {Kind: api.FaultNest, At: 0}, {Kind: api.FaultNest, At: 10}}
	p := newPair(t, 200)
	one, err := p.html(0, "</b>&copy </i><a b=1 b=2>")
	if err != api.OK || !slices.Equal(one, want) {
		t.Errorf("%v, %d", one, err)
	}
	one[0], one = api.Fault{}, append(one, api.Fault{})
	two, err := p.unsafe(0, "</b>&copy </i><a b=1 b=2>")
	if err != api.OK || !slices.Equal(two, want) {
		t.Errorf("%v, %d", two, err)
	}
	// A text with faults is not refused.
	p.text(0, "\u00a9 <a b=\"1\"></a>")
}

// In a node of another kind, or a Void one, there is nothing to make anew.
func TestNodesThatHoldNothing(t *testing.T) {
	p := newPair(t, 200)
	var none []int
	for _, kind := range []uint8{api.Text, api.Comment, api.Doctype} {
		none = append(none, p.node(kind))
	}
	for _, name := range strings.Fields(voids) {
		none = append(none, p.element(name))
	}
	// It is named like an element that holds nodes, but is none.
	doctype, err := p.make(api.Node{Kind: api.Doctype, Name: "div"})
	p.ok(err)
	none = append(none, doctype)
	p.put(0, none...)
	n := p.c.Doc().Len()
	for _, i := range none {
		for _, text := range []string{"", "a", "</b>", strings.Repeat("a", 60001), strings.Repeat("<br>", 300)} {
			for _, call := range []func(int, string) ([]api.Fault, api.Errno){p.html, p.unsafe} {
				if l, err := call(i, text); len(l) != 0 || err != api.ErrTree {
					t.Errorf("%d: %v, %d", i, l, err)
				}
			}
		}
	}
	p.length(n)
	// Names that are nearly Void.
	for _, name := range []string{"brx", "x-br", "br-", "command"} {
		p.filled(p.element(name), "a")
	}
}

func TestNumbersThatAreNone(t *testing.T) {
	p := newPair(t, 20)
	p.filled(0, "<div>a</div>")
	n := p.c.Doc().Len()
	for _, i := range []int{math.MinInt, math.MinInt32, -1 << 32, -2, -1, n, n + 1, 20, 5000, math.MaxInt32, 1 << 32, 1<<32 + 2, math.MaxInt} {
		// What is wrong with the text, too, comes behind that.
		for _, text := range []string{"", "a", "</b>", strings.Repeat("a", 60001), strings.Repeat("<br>", 300)} {
			for _, call := range []func(int, string) ([]api.Fault, api.Errno){p.html, p.unsafe} {
				if l, err := call(i, text); len(l) != 0 || err != api.ErrNode {
					t.Errorf("%d: %v, %d", i, l, err)
				}
			}
		}
		for _, o := range []api.Options{{}, {Serializable: true, Roots: []int{0, i}}} {
			if s, err := p.get(i, o); s != "" || err != api.ErrNode {
				t.Errorf("Get(%d) = %q, %d", i, s, err)
			}
		}
		if k, err := p.attach(i, api.Flags{}); k != 0 || err != api.ErrNode {
			t.Errorf("Attach(%d) = %d, %d", i, k, err)
		}
		if k, err := p.clone(i, true); k != 0 || err != api.ErrNode {
			t.Errorf("Clone(%d) = %d, %d", i, k, err)
		}
		p.wants(p.insert(0, i, -1), api.ErrNode)
		p.wants(p.insert(i, 2, -1), api.ErrNode)
		p.wants(p.remove(i), api.ErrNode)
		p.wants(p.set(i, "a", ""), api.ErrNode)
		p.wants(p.drop(i, "a"), api.ErrNode)
		p.wants(p.write(i, ""), api.ErrNode)
		p.wants(p.assign(i), api.ErrNode)
	}
	p.length(n)
	p.text(0, "<div>a</div>")
	p.changed()
}

// With too little room, or too long a text, all that was there stays there.
func TestRefusedTexts(t *testing.T) {
	p := newPair(t, 12)
	p.filled(0, "<div>"+open+"<slot></slot>"+end+"a</div>") // up to 5
	p.changed(4)
	for _, text := range []string{
		strings.Repeat("<br>", 6),             // and the Fragment: 7 where 6 may be made
		"<template><template><br><br>",        // the contents, too
		"</b></b><i><u><s><b><tt><var>",       // its faults are not told
		strings.Repeat("a", api.MaxBytes+1),   // too long
		strings.Repeat("<b>", api.MaxItems+1), // too many for a tree
	} {
		for _, i := range []int{0, 2, 3, 4} {
			for _, call := range []func(int, string) ([]api.Fault, api.Errno){p.html, p.unsafe} {
				if l, err := call(i, text); len(l) != 0 || err != api.ErrLimit {
					t.Errorf("%d: %v, %d", i, l, err)
				}
			}
		}
		p.length(6)
		p.changed()
	}
	p.whole(0, "<div>"+open+"<slot></slot>"+end+"a</div>")
	// The last room is enough.
	p.filled(2, strings.Repeat("<br>", 5))
	p.length(12)
	p.changed(4)
	for _, i := range []int{0, 2, 3} {
		for _, text := range []string{"", "a"} {
			if _, err := p.html(i, text); err != api.ErrLimit {
				t.Errorf("there is no room: %d", err)
			}
		}
	}
	p.whole(0, "<div>"+open+"<slot></slot>"+end+"<br><br><br><br><br></div>")
}

// Get tells an empty text of a node that has nothing in it.
func TestGet(t *testing.T) {
	p := newPair(t, 100)
	p.filled(0, "<!doctype html><div>"+kept+"a"+end+"b<x-a>"+open+"c"+end+"d</x-a></div><!--e--><br>")
	// 2 the Doctype, 3 div, 4 its shadow root, 5 a, 6 b, 7 x-a, 8 its shadow root, 9 c, 10 d, 11 e, 12 br
	for _, i := range []int{1, 2, 5, 11, 12} {
		p.text(i, "")
	}
	p.text(0, "<!DOCTYPE html><div>b<x-a>d</x-a></div><!--e--><br>")
	p.text(3, "b<x-a>d</x-a>")
	p.text(4, "a")
	p.whole(3, kept+"a"+end+"b<x-a>"+open+"c"+end+"d</x-a>")
	rows := []struct {
		o    api.Options
		want string
	}{
		{api.Options{Serializable: true}, kept + "a" + end + "b<x-a>d</x-a>"},
		{api.Options{Roots: []int{8}}, "b<x-a>" + open + "c" + end + "d</x-a>"},
		{api.Options{Roots: []int{4}}, kept + "a" + end + "b<x-a>d</x-a>"},
		{api.Options{Roots: []int{-1, 3, 7, 99}}, "b<x-a>d</x-a>"},
		{api.Options{Serializable: true, Roots: []int{8}}, kept + "a" + end + "b<x-a>" + open + "c" + end + "d</x-a>"},
	}
	for _, r := range rows {
		if got, err := p.get(3, r.o); got != r.want || err != api.OK {
			t.Errorf("Get(3, %v) = %q, %d, not %q", r.o, got, err, r.want)
		}
	}
}

// Attach is not dom's Root, which gives any element a shadow root.
func TestAttach(t *testing.T) {
	p := newPair(t, 100)
	for _, name := range []string{"a", "b", "slot", "template", "br", "font-face"} {
		if i, err := p.attach(p.element(name), api.Flags{}); i != 0 || err != api.ErrHost {
			t.Errorf("%s: %d, %d", name, i, err)
		}
	}
	for _, kind := range []uint8{api.Text, api.Comment, api.Fragment, api.Doctype} {
		if i, err := p.attach(p.node(kind), api.Flags{}); i != 0 || err != api.ErrHost {
			t.Errorf("kind %d: %d, %d", kind, i, err)
		}
	}
	f := api.Flags{Closed: true, Delegates: true, Clonable: true}
	for _, name := range []string{"div", "x-a", "h1"} {
		host := p.element(name)
		i, err := p.attach(host, f)
		n, _ := p.c.Doc().Node(i)
		if err != api.OK || n.Kind != api.Shadow || n.Host != host || n.Flags != f {
			t.Errorf("%s: %v, %d", name, n, err)
		}
		if i, err := p.attach(i, f); i != 0 || err != api.ErrHost {
			t.Errorf("a shadow root's: %d, %d", i, err)
		}
	}
}

// Each of the other calls does what it does below, and is refused as it is there.
func TestCallsOfTheLayersBelow(t *testing.T) {
	p := newPair(t, 12)
	div, text, slot := p.element("div", api.Attr{Name: "id", Value: "a"}), p.node(api.Text), p.element("slot")
	if i, err := p.make(api.Node{Kind: api.Shadow}); i != 0 || err != api.ErrArg {
		t.Errorf("%d, %d", i, err)
	}
	if i, err := p.make(api.Node{Kind: api.Element, Name: "B"}); i != 0 || err != api.ErrArg {
		t.Errorf("%d, %d", i, err)
	}
	p.put(0, div)
	p.put(div, text)
	p.ok(p.insert(div, slot, text))
	p.kids(div, slot, text)
	p.ok(p.write(text, "<x>"))
	p.wants(p.write(div, "x"), api.ErrTree)
	p.ok(p.set(slot, "name", "n"))
	p.wants(p.set(text, "name", "n"), api.ErrTree)
	p.ok(p.drop(div, "id"))
	p.wants(p.drop(div, "id"), api.ErrName)
	p.text(0, `<div><slot name="n"></slot>&lt;x&gt;</div>`)
	p.ok(p.assign(slot, div, text, div))
	p.wants(p.assign(div, text), api.ErrSlot)
	p.wants(p.assign(slot, 0), api.ErrTree)
	if l := p.c.Doc().Given(slot); !slices.Equal(l, []int{div, text}) {
		t.Errorf("given are %v", l)
	}
	p.ok(p.assign(slot))
	if l := p.c.Doc().Given(slot); len(l) != 0 {
		t.Errorf("given are %v", l)
	}
	p.ok(p.remove(text))
	p.wants(p.remove(text), api.ErrTree)
	root, err := p.attach(div, api.Flags{})
	p.ok(err)
	if i, err := p.clone(root, true); i != 0 || err != api.ErrTree {
		t.Errorf("%d, %d", i, err)
	}
	if i, err := p.clone(div, true); i != 5 || err != api.OK {
		t.Errorf("%d, %d", i, err)
	}
	p.length(7)
	for p.c.Doc().Len() < 12 {
		p.node(api.Comment)
	}
	for _, kind := range []uint8{api.Text, api.Comment, api.Fragment, api.Doctype} {
		if i, err := p.make(api.Node{Kind: kind}); i != 0 || err != api.ErrLimit {
			t.Errorf("%d, %d", i, err)
		}
	}
	if i, err := p.clone(div, false); i != 0 || err != api.ErrLimit {
		t.Errorf("%d, %d", i, err)
	}
	if i, err := p.attach(5, api.Flags{}); i != 0 || err != api.ErrLimit {
		t.Errorf("%d, %d", i, err)
	}
}

// What is written with all its shadow roots comes back by Unsafe, in what is shown, too.
func TestComesBack(t *testing.T) {
	p, q := newPair(t, 100), newPair(t, 100)
	const text = `<div id="a">` + open + `<slot name="b"></slot><x-a>` + kept + `<slot>c</slot>` + end + `<slot></slot></x-a>` + end + `<b slot="b">&lt;</b>d</div>`
	p.filled(0, text)
	p.filled(2, `<i slot="b"></i><!--e-->f`)
	p.ok(p.set(2, "id", "&"))
	var roots []int
	for i := range p.c.Doc().Len() {
		roots = append(roots, i)
	}
	written, err := p.get(0, api.Options{Roots: roots})
	p.ok(err)
	q.filled(0, written)
	q.whole(0, written)
	names := func(p *pair) string {
		s := ""
		for _, i := range flat.Walk(p.c.Doc(), 0) {
			n, _ := p.c.Doc().Node(i)
			s += n.Name + n.Data + ","
		}
		return s
	}
	if got, want := names(q), names(p); got != want || want != ",div,slot,i,x-a,slot,slot,f," {
		t.Errorf("shown are %q, not %q", got, want)
	}
}

// Components know nothing of one another.
func TestComponentsAreApart(t *testing.T) {
	p, q := newPair(t, 100), newPair(t, 100)
	const text = "<div>" + open + "<slot></slot>" + end + "a</div>"
	p.filled(0, text)
	q.filled(0, text)
	p.changed(4)
	p.filled(2, "")
	p.filled(0, "")
	q.whole(0, text)
	q.changed(4)
	if p.c.Doc() == q.c.Doc() {
		t.Error("they have one document")
	}
	p.text(0, "")
}

// What is handed in is neither kept nor changed, nor what lies behind it; what comes out is new.
func TestMemory(t *testing.T) {
	p := newPair(t, 100)
	attrs := []api.Attr{{Name: "a", Value: "1"}, {Name: "b", Value: "2"}, {Name: "behind"}}
	div := p.element("div", attrs[:2]...)
	p.ok(p.set(div, "c", "3"))
	p.ok(p.drop(div, "a"))
	if want := []api.Attr{{Name: "a", Value: "1"}, {Name: "b", Value: "2"}, {Name: "behind"}}; !slices.Equal(attrs, want) {
		t.Errorf("handed in was %v", attrs)
	}
	attrs[1].Value = "changed"
	p.put(0, div)
	p.text(0, `<div b="2" c="3"></div>`)

	slot, one, two := p.element("slot"), p.element("i"), p.element("u")
	given := []int{one, two, one, 77}
	p.ok(p.assign(slot, given[:3]...))
	if !slices.Equal(given, []int{one, two, one, 77}) {
		t.Errorf("handed in was %v", given)
	}
	given[0], given[1] = 0, 0
	p.hold("what was done to a list that was handed in")

	p.filled(0, "<div>"+open+"<slot></slot><slot name=a></slot>"+end+"a<b slot=a></b></div>")
	first := p.signals()
	clear(first)
	p.filled(p.c.Doc().Len()-1, "")
	p.ok(p.remove(p.c.Doc().Len() - 2))
	p.filled(0, "")
	p.signals()
}

// Doc is to be looked at alone; what Node tells of it may be changed without a trace.
func TestWhatDocTells(t *testing.T) {
	p := newPair(t, 100)
	p.filled(0, "<b id=a>x</b>y")
	n, _ := p.c.Doc().Node(0)
	n.Kids[0] = 77
	m, _ := p.c.Doc().Node(2)
	m.Attrs[0].Value = "changed"
	p.text(0, `<b id="a">x</b>y`)
	p.ok(p.c.Doc().Copy().Remove(2))
	p.text(0, `<b id="a">x</b>y`)
}
