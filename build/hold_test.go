package build_test

import (
	"reflect"
	"slices"
	"strings"
	"testing"

	"portiere/api"
	"portiere/build"
	"portiere/dom"
	"portiere/token"
	"portiere/tree"
)

// The chapter's sentences in another way than the program's: each is asked anew of the whole list of items, and the nodes are written down without a document.

const (
	hosts = " article aside blockquote body div footer h1 h2 h3 h4 h5 h6 header main nav p section span "
	taken = " annotation-xml color-profile font-face font-face-src font-face-uri font-face-format font-face-name missing-glyph "
)

// hostByWords is asked of names that elements have: they are all valid.
func hostByWords(name string) bool {
	if strings.Contains(name, "-") {
		return !strings.Contains(taken, " "+name+" ")
	}
	return strings.Contains(hosts, " "+name+" ")
}

func lowerByWords(s string) string {
	b := []byte(s)
	for i, c := range b {
		if c > '@' && c < '[' {
			b[i] = c + 32
		}
	}
	return string(b)
}

// parentByWords is the nearest ahead with a lesser Deep.
func parentByWords(l []api.Item, i int) int {
	for k := i - 1; k >= 0; k-- {
		if l[k].Deep < l[i].Deep {
			return k
		}
	}
	return -1
}

// written is an attribute's value; none: it has it not.
func written(item api.Item, name string) string {
	for _, a := range item.Attrs {
		if a.Name == name {
			return "=" + lowerByWords(a.Value)
		}
	}
	return ""
}

func declarativesByWords(l []api.Item, parents []int, shadows bool) []bool {
	out := make([]bool, len(l))
	for i, item := range l {
		mode, up := written(item, "shadowrootmode"), parents[i]
		if !shadows || item.Kind != 1 || item.Name != "template" || mode != "=open" && mode != "=closed" || up < 0 {
			continue
		}
		out[i] = l[up].Kind == 1 && hostByWords(l[up].Name)
		for k := range i {
			out[i] = out[i] && !(out[k] && parents[k] == up)
		}
	}
	return out
}

// told is all that a document says of itself.
type told struct {
	limit int
	nodes []api.Node
	given [][]int
}

func tell(d *dom.Doc) told {
	w := told{limit: d.Limit()}
	for i := range d.Len() {
		n, _ := d.Node(i)
		w.nodes = append(w.nodes, n)
		w.given = append(w.given, d.Given(i))
	}
	return w
}

// add writes a node down: in up, if that is one.
func (w *told) add(n api.Node, up, host int) int {
	i := len(w.nodes)
	n.Up, n.Host, n.Shadow, n.Content = up, host, -1, -1
	w.nodes, w.given = append(w.nodes, n), append(w.given, nil)
	if up >= 0 {
		w.nodes[up].Kids = append(w.nodes[up].Kids, i)
	}
	return i
}

func (w *told) lay(l []api.Item, shadows bool) (int, api.Errno) {
	if !tree.Sound(l) {
		return 0, 1
	}
	parents := make([]int, len(l))
	for i := range l {
		parents[i] = parentByWords(l, i)
	}
	declaratives := declarativesByWords(l, parents, shadows)
	need := 1 + len(l)
	for i, item := range l {
		if item.Kind == 1 && item.Name == "template" && !declaratives[i] {
			need++
		}
	}
	if w.limit-len(w.nodes) < need {
		return 0, 3
	}
	fragment := w.add(api.Node{Kind: 4}, -1, -1)
	made := make([]int, len(l))
	for i, item := range l {
		if declaratives[i] {
			made[i] = w.root(item, made[parents[i]])
			continue
		}
		up := fragment
		if parents[i] >= 0 {
			up = made[parents[i]]
			if k := w.nodes[up].Content; k >= 0 {
				up = k
			}
		}
		made[i] = w.node(item, up)
	}
	return fragment, 0
}

func (w *told) root(item api.Item, host int) int {
	f := api.Flags{
		Closed:       written(item, "shadowrootmode") == "=closed",
		Manual:       written(item, "shadowrootslotassignment") == "=manual",
		Delegates:    written(item, "shadowrootdelegatesfocus") != "",
		Serializable: written(item, "shadowrootserializable") != "",
		Clonable:     written(item, "shadowrootclonable") != "",
	}
	i := w.add(api.Node{Kind: 5, Flags: f}, -1, host)
	w.nodes[host].Shadow = i
	return i
}

func (w *told) node(item api.Item, up int) int {
	i := w.add(api.Node{Kind: item.Kind, Name: item.Name, Data: item.Data, Attrs: slices.Clone(item.Attrs)}, up, -1)
	if item.Kind == 1 && item.Name == "template" {
		content := w.add(api.Node{Kind: 4}, -1, i)
		w.nodes[i].Content = content
	}
	return i
}

func (w *told) parse(text string, shadows bool) (int, []api.Fault, api.Errno) {
	if len(text) > 60000 {
		return 0, nil, 3
	}
	tokens, faults := token.Tokens(text)
	items, more, err := tree.Build(tokens)
	if err != 0 {
		return 0, nil, err
	}
	i, err := w.lay(items, shadows)
	if err != 0 {
		return 0, nil, err
	}
	return i, slices.Concat(faults, more), 0
}

// same says whether nodes are the same; nil and empty lists are.
func same(a, b told) bool {
	sameNode := func(a, b api.Node) bool {
		sameLists := slices.Equal(a.Attrs, b.Attrs) && slices.Equal(a.Kids, b.Kids)
		a.Attrs, a.Kids, b.Attrs, b.Kids = nil, nil, nil, nil
		return sameLists && reflect.DeepEqual(a, b)
	}
	return a.limit == b.limit && slices.EqualFunc(a.nodes, b.nodes, sameNode) && slices.EqualFunc(a.given, b.given, slices.Equal)
}

func holdDocument(t *testing.T, d *dom.Doc, w told) {
	t.Helper()
	if behind := tell(d); !same(behind, w) {
		t.Fatalf("the document is\n%.2000s, not\n%.2000s", shape(behind), shape(w))
	}
}

// parse calls Parse, and holds what it answers, and all that the document is behind it, to the words.
func parse(t *testing.T, d *dom.Doc, text string, shadows bool) (int, []api.Fault, api.Errno) {
	t.Helper()
	w := tell(d)
	want, wantFaults, wantErr := w.parse(text, shadows)
	got, faults, err := build.Parse(d, text, shadows)
	if got != want || !slices.Equal(faults, wantFaults) || err != wantErr {
		t.Fatalf("Parse(%.500q, %v) = %d, %v, %d, not %d, %v, %d", text, shadows, got, faults, err, want, wantFaults, wantErr)
	}
	holdDocument(t, d, w)
	return got, faults, err
}

// lay calls Lay, and holds it likewise, and the items to what they were.
func lay(t *testing.T, d *dom.Doc, l []api.Item, shadows bool) (int, api.Errno) {
	t.Helper()
	w, ahead := tell(d), cloned(l)
	want, wantErr := w.lay(l, shadows)
	got, err := build.Lay(d, l, shadows)
	if got != want || err != wantErr {
		t.Fatalf("Lay(%.500v, %v) = %d, %d, not %d, %d", l, shadows, got, err, want, wantErr)
	}
	if !reflect.DeepEqual(l, ahead) {
		t.Fatalf("the items are changed: %.500v", l)
	}
	holdDocument(t, d, w)
	return got, err
}

func cloned(l []api.Item) []api.Item {
	out := slices.Clone(l)
	for i := range out {
		out[i].Attrs = slices.Clone(out[i].Attrs)
	}
	return out
}
