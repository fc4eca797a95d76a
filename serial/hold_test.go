package serial_test

import (
	"reflect"
	"slices"
	"strings"
	"testing"

	"portiere/api"
	"portiere/dom"
	"portiere/serial"
)

// The chapter's sentences in another way than the program's: without calls that call themselves, from a list of what is still to be written.

// told is all that a document says of itself.
type told struct {
	limit int
	nodes []api.Node
	given [][]int
	slot  []int
}

func tell(d *dom.Doc) told {
	w := told{limit: d.Limit()}
	for i := range d.Len() {
		n, _ := d.Node(i)
		w.nodes = append(w.nodes, n)
		w.given = append(w.given, d.Given(i))
		w.slot = append(w.slot, d.Slot(i))
	}
	return w
}

// The chapter's lists of names, letter by letter.
const (
	voids = "area base br col embed hr img input link meta source track wbr"
	raws  = "script style xmp iframe noembed noframes"
)

func isOf(list string, n api.Node) bool {
	return n.Kind == 1 && slices.Contains(strings.Fields(list), n.Name)
}

// part is something that is still to be written: a text as it is (node is -1), or a node, or (with within) what is in it.
type part struct {
	text   string
	node   int
	within bool
}

func plain(s string) part { return part{text: s, node: -1} }

var (
	textMarks  = strings.NewReplacer("\x26", "&amp;", "\x3c", "&lt;", "\x3e", "&gt;", "\xc2\xa0", "&nbsp;")
	valueMarks = strings.NewReplacer("\x26", "&amp;", "\x3c", "&lt;", "\x3e", "&gt;", "\xc2\xa0", "&nbsp;", "\x22", "&quot;")
)

func (w told) write(i int, o api.Options, within bool) string {
	if i < 0 || i >= len(w.nodes) {
		return ""
	}
	var out []byte
	for todo := []part{{node: i, within: within}}; len(todo) > 0; {
		p := todo[len(todo)-1]
		todo = todo[:len(todo)-1]
		if p.node < 0 {
			out = append(out, p.text...)
			continue
		}
		// What comes first is to stand last.
		next := w.partsOf(p.node)
		if p.within {
			next = w.partsIn(p.node, o)
		}
		slices.Reverse(next)
		todo = append(todo, next...)
	}
	return string(out)
}

// partsOf are those of a node.
func (w told) partsOf(i int) []part {
	n := w.nodes[i]
	switch n.Kind {
	case 1:
		s := "<" + n.Name
		for _, a := range n.Attrs {
			s += " " + a.Name + "=\"" + valueMarks.Replace(a.Value) + "\""
		}
		if isOf(voids, n) {
			return []part{plain(s + ">")}
		}
		return []part{plain(s + ">"), {node: i, within: true}, plain("</" + n.Name + ">")}
	case 2:
		if n.Up >= 0 && isOf(raws, w.nodes[n.Up]) {
			return []part{plain(n.Data)}
		}
		return []part{plain(textMarks.Replace(n.Data))}
	case 3:
		return []part{plain("<!--" + n.Data + "-->")}
	case 6:
		return []part{plain("<!DOCTYPE " + n.Name + ">")}
	}
	return []part{{node: i, within: true}}
}

// partsIn are those of what is in a node.
func (w told) partsIn(i int, o api.Options) []part {
	n := w.nodes[i]
	var out []part
	if isOf(voids, n) {
		return nil
	}
	if w.isChosen(n.Shadow, o) {
		out = append(out, plain(rootStart(w.nodes[n.Shadow].Flags)), part{node: n.Shadow, within: true}, plain("</template>"))
	}
	kids := n.Kids
	if n.Kind == 1 && n.Name == "template" {
		kids = w.nodes[n.Content].Kids
	}
	for _, k := range kids {
		out = append(out, part{node: k})
	}
	return out
}

func (w told) isChosen(root int, o api.Options) bool {
	return root >= 0 && (slices.Contains(o.Roots, root) || w.nodes[root].Flags.Serializable && o.Serializable)
}

func rootStart(f api.Flags) string {
	s := map[bool]string{false: `<template shadowrootmode="open"`, true: `<template shadowrootmode="closed"`}[f.Closed]
	for _, r := range []struct {
		is   bool
		text string
	}{
		{f.Delegates, ` shadowrootdelegatesfocus=""`},
		{f.Serializable, ` shadowrootserializable=""`},
		{f.Manual, ` shadowrootslotassignment="manual"`},
		{f.Clonable, ` shadowrootclonable=""`},
	} {
		if r.is {
			s += r.text
		}
	}
	return s + ">"
}

// inner and outer call the program, and hold what it answers to the words.
func inner(t *testing.T, d *dom.Doc, i int, o api.Options) string {
	t.Helper()
	got := serial.Inner(d, i, o)
	if want := tell(d).write(i, o, true); got != want {
		t.Fatalf("Inner(%d, %v) =\n%.2000q, not\n%.2000q", i, o, got, want)
	}
	return got
}

func outer(t *testing.T, d *dom.Doc, i int, o api.Options) string {
	t.Helper()
	got := serial.Outer(d, i, o)
	if want := tell(d).write(i, o, false); got != want {
		t.Fatalf("Outer(%d, %v) =\n%.2000q, not\n%.2000q", i, o, got, want)
	}
	return got
}

// holdAll holds both calls, for each node and for some that are none, to the words, and what is handed in to what it was.
func holdAll(t *testing.T, d *dom.Doc, o api.Options) {
	t.Helper()
	w, roots := tell(d), slices.Clone(o.Roots)
	for i := -2; i < d.Len()+2; i++ {
		if got, want := serial.Inner(d, i, o), w.write(i, o, true); got != want {
			t.Fatalf("Inner(%d, %v) =\n%.2000q, not\n%.2000q", i, o, got, want)
		}
		if got, want := serial.Outer(d, i, o), w.write(i, o, false); got != want {
			t.Fatalf("Outer(%d, %v) =\n%.2000q, not\n%.2000q", i, o, got, want)
		}
	}
	if !slices.Equal(o.Roots, roots) {
		t.Fatalf("the roots %v are %v", roots, o.Roots)
	}
	if !reflect.DeepEqual(tell(d), w) {
		t.Fatal("the document is changed")
	}
}
