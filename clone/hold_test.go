package clone_test

import (
	"reflect"
	"slices"
	"testing"

	"portiere/api"
	"portiere/clone"
	"portiere/dom"
)

// The chapter's sentences in another way than the program's: of each node is asked, from it upwards, whether it is copied; the copies are written down without a document, from a list of what is still to be done.

// told is all that a document says of itself.
type told struct {
	limit int
	nodes []api.Node
	given [][]int
	slot  []int
}

func tell(d *dom.Doc) told {
	w := told{limit: d.Limit()}
	for i := range d.Len() {
		n, _ := d.Node(i)
		w.nodes = append(w.nodes, n)
		w.given = append(w.given, d.Given(i))
		w.slot = append(w.slot, d.Slot(i))
	}
	return w
}

// isCopied says whether something is made of node k, if i is copied.
func (w told) isCopied(k, i int, deep bool) bool {
	if k == i {
		return true
	}
	n := w.nodes[k]
	isRoot, isContent := n.Kind == 5, n.Kind == 4 && n.Host >= 0
	up := n.Up
	if isRoot || isContent {
		up = n.Host
	}
	switch {
	case up < 0 || isRoot && !n.Flags.Clonable:
		return false
	case up == i && isContent:
		// It is there, though nothing is in it.
		return true
	case up == i && !isRoot:
		return deep
	case !deep && w.nodes[up].Host == i && w.nodes[up].Kind == 4:
		return false
	}
	return w.isCopied(up, i, deep)
}

func (w told) need(i int, deep bool) int {
	out := 0
	for k := range w.nodes {
		if w.isCopied(k, i, deep) {
			out++
		}
	}
	return out
}

// job is one node of which a copy is still to be written down: it is in up, or is host's.
type job struct {
	from, up, host int
}

// jobs are those of all Kids of a node.
func (w told) jobs(from, up int) []job {
	var out []job
	for _, k := range w.nodes[from].Kids {
		out = append(out, job{k, up, -1})
	}
	return out
}

func (w *told) clone(i int, deep bool) (int, api.Errno) {
	switch {
	case i < 0 || i >= len(w.nodes):
		return 0, 80
	case w.nodes[i].Kind == 5:
		return 0, 81
	case w.limit-len(w.nodes) < w.need(i, deep):
		return 0, 3
	}
	first := len(w.nodes)
	for todo := []job{{i, -1, -1}}; len(todo) > 0; {
		j := todo[0]
		at := w.write(j)
		behind := todo[1:]
		todo = nil
		n := w.nodes[j.from]
		if n.Kind == 5 {
			todo = w.jobs(j.from, at)
		}
		if n.Shadow >= 0 && w.nodes[n.Shadow].Flags.Clonable {
			todo = append(todo, job{n.Shadow, -1, at})
		}
		if n.Kind != 5 && (deep || at != first) {
			if n.Content >= 0 {
				todo = append(todo, w.jobs(n.Content, at+1)...)
			}
			todo = append(todo, w.jobs(j.from, at)...)
		}
		todo = append(todo, behind...)
	}
	return first, 0
}

// write writes one copy down, and with it an empty content.
func (w *told) write(j job) int {
	n := w.nodes[j.from]
	made := api.Node{Kind: n.Kind, Name: n.Name, Data: n.Data, Attrs: slices.Clone(n.Attrs), Flags: n.Flags, Up: -1, Shadow: -1, Host: -1, Content: -1}
	at := w.add(made)
	if j.up >= 0 {
		w.nodes[at].Up = j.up
		w.nodes[j.up].Kids = append(w.nodes[j.up].Kids, at)
	}
	if j.host >= 0 {
		w.nodes[at].Host = j.host
		w.nodes[j.host].Shadow = at
	}
	if n.Content >= 0 {
		w.nodes[at].Content = w.add(api.Node{Kind: 4, Up: -1, Shadow: -1, Host: at, Content: -1})
	}
	return at
}

func (w *told) add(n api.Node) int {
	w.nodes, w.given, w.slot = append(w.nodes, n), append(w.given, nil), append(w.slot, -1)
	return len(w.nodes) - 1
}

// same says whether documents are the same; nil and empty lists are.
func same(a, b told) bool {
	sameNode := func(a, b api.Node) bool {
		sameLists := slices.Equal(a.Attrs, b.Attrs) && slices.Equal(a.Kids, b.Kids)
		a.Attrs, a.Kids, b.Attrs, b.Kids = nil, nil, nil, nil
		return sameLists && reflect.DeepEqual(a, b)
	}
	return a.limit == b.limit && slices.EqualFunc(a.nodes, b.nodes, sameNode) &&
		slices.EqualFunc(a.given, b.given, slices.Equal) && slices.Equal(a.slot, b.slot)
}

// copied calls Clone, and holds what it answers, and all that the document is behind it, to the words.
func copied(t *testing.T, d *dom.Doc, i int, deep bool) (int, api.Errno) {
	t.Helper()
	w := tell(d)
	want, wantErr := w.clone(i, deep)
	got, err := clone.Clone(d, i, deep)
	if got != want || err != wantErr {
		t.Fatalf("Clone(%d, %v) = %d, %d, not %d, %d", i, deep, got, err, want, wantErr)
	}
	if behind := tell(d); !same(behind, w) {
		t.Fatalf("behind Clone(%d, %v) the document is\n%.2000s, not\n%.2000s", i, deep, shape(behind), shape(w))
	}
	return got, err
}
