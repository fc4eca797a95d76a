package query_test

import (
	"reflect"
	"slices"
	"testing"

	"portiere/api"
	"portiere/dom"
	"portiere/query"
)

// The chapter's sentences in another way than the program's: what is in a node, and in which order, is told from each node upward, by the ways down to it.

// told is all that a document says of itself.
type told struct {
	limit int
	nodes []api.Node
	given [][]int
	slot  []int
}

func tell(d *dom.Doc) told {
	w := told{limit: d.Limit()}
	for i := range d.Len() {
		n, _ := d.Node(i)
		w.nodes = append(w.nodes, n)
		w.given = append(w.given, d.Given(i))
		w.slot = append(w.slot, d.Slot(i))
	}
	return w
}

// way is the places by which one goes down from root to the k-th node; false, if it is not in root.
func (w told) way(root, k int) ([]int, bool) {
	var places []int
	for k != root {
		up := w.nodes[k].Up
		if up == -1 {
			return nil, false
		}
		places = append(places, slices.Index(w.nodes[up].Kids, k))
		k = up
	}
	slices.Reverse(places)
	return places, len(places) > 0
}

// elements are the Elements in root, in order.
func (w told) elements(root int) []int {
	var out []int
	ways := map[int][]int{}
	for k, n := range w.nodes {
		if places, is := w.way(root, k); is && n.Kind == 1 {
			out, ways[k] = append(out, k), places
		}
	}
	slices.SortFunc(out, func(a, b int) int { return slices.Compare(ways[a], ways[b]) })
	return out
}

func (w told) byName(elements []int, name string) []int {
	if name == "*" {
		return elements
	}
	var out []int
	for _, i := range elements {
		if w.nodes[i].Name == name {
			out = append(out, i)
		}
	}
	return out
}

func (w told) byAttr(elements []int, a api.Attr) []int {
	var out []int
	for _, i := range elements {
		for _, b := range w.nodes[i].Attrs {
			if b.Name == a.Name && b.Value == a.Value {
				out = append(out, i)
			}
		}
	}
	return out
}

func (w told) byID(elements []int, id string) int {
	if l := w.byAttr(elements, attr("id", id)); len(l) > 0 && id != "" {
		return l[0]
	}
	return -1
}

// closest takes, of the Elements of that name in which the i-th node is, the one from which the way is shortest.
func (w told) closest(i int, name string) int {
	out, least := -1, len(w.nodes)
	for k, n := range w.nodes {
		if n.Kind != 1 || n.Name != name {
			continue
		}
		if places, is := w.way(k, i); (is || k == i) && len(places) < least {
			out, least = k, len(places)
		}
	}
	return out
}

// asked is what is sought.
type asked struct {
	names []string
	attrs []api.Attr
}

// asks are all names and attributes that are in a document, some that are nearly those, and some that may be none.
func (w told) asks() asked {
	a := asked{[]string{"*", "", "none", "#text", "DIV"}, []api.Attr{{}, attr("id", ""), attr("id", "none"), attr("none", ""), attr("*", "*"), attr("ID", "a")}}
	for _, n := range w.nodes {
		a.names = append(a.names, n.Name, n.Name+"-", n.Data)
		for _, b := range n.Attrs {
			a.attrs = append(a.attrs, b, attr(b.Value, b.Name), attr("id", b.Value), attr(b.Name, b.Value+"a"), attr(b.Name, ""))
		}
	}
	slices.Sort(a.names)
	a.names = slices.Compact(a.names)
	slices.SortFunc(a.attrs, func(a, b api.Attr) int {
		return slices.Compare([]string{a.Name, a.Value}, []string{b.Name, b.Value})
	})
	a.attrs = slices.Compact(a.attrs)
	return a
}

// hold holds all answers, for each node and for some that are none, to the words, and the document to what it was.
func hold(t *testing.T, d *dom.Doc) {
	t.Helper()
	w := tell(d)
	asks := w.asks()
	for i := -2; i < d.Len()+2; i++ {
		is := 0 <= i && i < d.Len()
		var elements []int
		if is {
			elements = w.elements(i)
		}
		for _, name := range asks.names {
			if got, want := query.ByName(d, i, name), w.byName(elements, name); !slices.Equal(got, want) {
				t.Fatalf("ByName(%d, %q) = %v, not %v", i, name, got, want)
			}
			want := -1
			if is {
				want = w.closest(i, name)
			}
			if got := query.Closest(d, i, name); got != want {
				t.Fatalf("Closest(%d, %q) = %d, not %d", i, name, got, want)
			}
		}
		for _, a := range asks.attrs {
			if got, want := query.ByAttr(d, i, a.Name, a.Value), w.byAttr(elements, a); !slices.Equal(got, want) {
				t.Fatalf("ByAttr(%d, %q, %q) = %v, not %v", i, a.Name, a.Value, got, want)
			}
			if got, want := query.ByID(d, i, a.Value), w.byID(elements, a.Value); got != want {
				t.Fatalf("ByID(%d, %q) = %d, not %d", i, a.Value, got, want)
			}
		}
	}
	if !reflect.DeepEqual(tell(d), w) {
		t.Fatal("the document is changed")
	}
}
