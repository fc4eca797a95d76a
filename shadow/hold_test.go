package shadow_test

import (
	"reflect"
	"slices"
	"strings"
	"testing"

	"portiere/api"
	"portiere/dom"
	"portiere/shadow"
)

// The chapter's sentences in another way than the program's: from the shadow roots down to what is in them, and back to their hosts.

const (
	hosts = " article aside blockquote body div footer h1 h2 h3 h4 h5 h6 header main nav p section span "
	taken = " annotation-xml color-profile font-face font-face-src font-face-uri font-face-format font-face-name missing-glyph "
)

// hostByWords is asked of names that elements have: they are all valid.
func hostByWords(name string) bool {
	if strings.Contains(name, "-") {
		return !strings.Contains(taken, " "+name+" ")
	}
	return strings.Contains(hosts, " "+name+" ")
}

// ofByWords is of each node in which shadow root it is.
func ofByWords(nodes []api.Node) []int {
	of := slices.Repeat([]int{-1}, len(nodes))
	for i, n := range nodes {
		if n.Kind != 5 {
			continue
		}
		for todo := []int{i}; len(todo) > 0; {
			k := todo[0]
			of[k] = i
			todo = append(todo[1:], nodes[k].Kids...)
		}
	}
	return of
}

// openByWords is of each node its open shadow root.
func openByWords(nodes []api.Node) []int {
	open := slices.Repeat([]int{-1}, len(nodes))
	for i, n := range nodes {
		if n.Kind == 5 && !n.Flags.Closed {
			open[n.Host] = i
		}
	}
	return open
}

// told is all that a document says of itself.
type told struct {
	limit int
	nodes []api.Node
	given [][]int
}

func tell(d *dom.Doc) told {
	w := told{limit: d.Limit()}
	for i := range d.Len() {
		n, _ := d.Node(i)
		w.nodes = append(w.nodes, n)
		w.given = append(w.given, d.Given(i))
	}
	return w
}

// hold holds Of and Open of all nodes to the words, and the document to what it was.
func hold(t *testing.T, d *dom.Doc) {
	t.Helper()
	w := tell(d)
	of, open := ofByWords(w.nodes), openByWords(w.nodes)
	for i := range w.nodes {
		if got := shadow.Of(d, i); got != of[i] {
			t.Fatalf("Of(%d) = %d, not %d", i, got, of[i])
		}
		if got := shadow.Open(d, i); got != open[i] {
			t.Fatalf("Open(%d) = %d, not %d", i, got, open[i])
		}
	}
	if !reflect.DeepEqual(tell(d), w) {
		t.Fatal("what was asked has changed it")
	}
}

// errorByWords is what Attach says of such a host.
func errorByWords(w told, host int) api.Errno {
	if host < 0 || host >= len(w.nodes) {
		return 80
	}
	if n := w.nodes[host]; n.Kind != 1 || !hostByWords(n.Name) {
		return 100
	}
	if w.nodes[host].Shadow != -1 {
		return 101
	}
	if len(w.nodes) >= w.limit {
		return 3
	}
	return 0
}

// attach calls Attach, and holds what it answers, and all that the document is behind it, to the words.
func attach(t *testing.T, d *dom.Doc, host int, f api.Flags) (int, api.Errno) {
	t.Helper()
	w := tell(d)
	want, wantErr := 0, errorByWords(w, host)
	if wantErr == api.OK {
		want = len(w.nodes)
		w.nodes[host].Shadow = want
		w.nodes = append(w.nodes, api.Node{Kind: 5, Up: -1, Shadow: -1, Host: host, Content: -1, Flags: f})
		w.given = append(w.given, nil)
	}
	got, err := shadow.Attach(d, host, f)
	if got != want || err != wantErr {
		t.Fatalf("Attach(%d, %+v) = %d, %d, not %d, %d", host, f, got, err, want, wantErr)
	}
	if behind := tell(d); !reflect.DeepEqual(behind, w) {
		t.Fatalf("behind Attach(%d): %+v, not %+v", host, behind, w)
	}
	return got, err
}

// attached is a new shadow root.
func attached(t *testing.T, d *dom.Doc, host int, f api.Flags) int {
	t.Helper()
	i, err := attach(t, d, host, f)
	if err != api.OK {
		t.Fatalf("Attach(%d): %d", host, err)
	}
	return i
}

// refused calls Attach where it makes nothing.
func refused(t *testing.T, d *dom.Doc, host int, want api.Errno) {
	t.Helper()
	if i, err := attach(t, d, host, api.Flags{Manual: true}); i != 0 || err != want {
		t.Errorf("Attach(%d) = %d, %d, not %d", host, i, err, want)
	}
}

func node(t *testing.T, d *dom.Doc, n api.Node) int {
	t.Helper()
	i, err := d.Make(n)
	if err != api.OK {
		t.Fatalf("Make(%+v): %d", n, err)
	}
	return i
}

func element(t *testing.T, d *dom.Doc, name string) int {
	t.Helper()
	return node(t, d, api.Node{Kind: api.Element, Name: name})
}

// insert puts nodes at the end of up, one by one.
func insert(t *testing.T, d *dom.Doc, up int, l ...int) {
	t.Helper()
	for _, i := range l {
		if err := d.Insert(up, i, -1); err != api.OK {
			t.Fatalf("Insert(%d, %d): %d", up, i, err)
		}
	}
}
