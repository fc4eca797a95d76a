package order_test

import (
	"cmp"
	"reflect"
	"slices"
	"testing"

	"portiere/api"
	"portiere/dom"
	"portiere/order"
)

// The chapter's sentences in another way than the program's: each node's way down from a topmost one, as places; order is that of the ways.

// way is how one comes to a node: from which node, and by which places (-1: the shadow root, so that it is ahead of all Kids).
type way struct {
	root   int
	places []int
}

func (w way) isIn(up way) bool {
	return w.root == up.root && len(w.places) >= len(up.places) && slices.Equal(w.places[:len(up.places)], up.places)
}

// wayTo goes up from i, through shadow roots, too, if that is asked for.
func wayTo(nodes []api.Node, i int, through bool) way {
	var places []int
	for {
		n := nodes[i]
		switch {
		case n.Up != -1:
			places = append(places, slices.Index(nodes[n.Up].Kids, i))
			i = n.Up
		case n.Kind == api.Shadow && through:
			places = append(places, -1)
			i = n.Host
		default:
			slices.Reverse(places)
			return way{i, places}
		}
	}
}

func waysTo(nodes []api.Node, through bool) []way {
	var ways []way
	for i := range nodes {
		ways = append(ways, wayTo(nodes, i, through))
	}
	return ways
}

// within is all whose way begins with that of i, as their ways are ordered.
func within(ways []way, i int) []int {
	var out []int
	for k, w := range ways {
		if w.isIn(ways[i]) {
			out = append(out, k)
		}
	}
	slices.SortFunc(out, func(a, b int) int { return slices.CompareFunc(ways[a].places, ways[b].places, cmp.Compare[int]) })
	return out
}

func before(ways []way, a, b int) bool {
	return ways[a].root == ways[b].root && slices.Compare(ways[a].places, ways[b].places) < 0
}

// told is all nodes, and what is given to each.
func told(d *dom.Doc) ([]api.Node, [][]int) {
	var nodes []api.Node
	var given [][]int
	for i := range d.Len() {
		n, _ := d.Node(i)
		nodes = append(nodes, n)
		given = append(given, d.Given(i))
	}
	return nodes, given
}

// hold holds all answers of all nodes to the words, and the document to what it was.
func hold(t *testing.T, d *dom.Doc) {
	t.Helper()
	nodes, given := told(d)
	ways, through := waysTo(nodes, false), waysTo(nodes, true)
	for i := range nodes {
		if got := order.Root(d, i); got != ways[i].root {
			t.Fatalf("Root(%d) = %d, not %d", i, got, ways[i].root)
		}
		if got := order.Top(d, i); got != through[i].root {
			t.Fatalf("Top(%d) = %d, not %d", i, got, through[i].root)
		}
		if got, want := order.Tree(d, i), within(ways, i); !slices.Equal(got, want) {
			t.Fatalf("Tree(%d) = %v, not %v", i, got, want)
		}
		if got, want := order.All(d, i), within(through, i); !slices.Equal(got, want) {
			t.Fatalf("All(%d) = %v, not %v", i, got, want)
		}
		for k := range nodes {
			if got, want := order.Before(d, i, k), before(ways, i, k); got != want {
				t.Fatalf("Before(%d, %d) = %v", i, k, got)
			}
		}
	}
	if after, gifts := told(d); !reflect.DeepEqual(after, nodes) || !reflect.DeepEqual(gifts, given) {
		t.Fatalf("%+v, not %+v", after, nodes)
	}
}

func node(t *testing.T, d *dom.Doc, n api.Node) int {
	t.Helper()
	i, err := d.Make(n)
	if err != api.OK {
		t.Fatalf("Make(%+v): %d", n, err)
	}
	return i
}

func element(t *testing.T, d *dom.Doc, name string) int {
	t.Helper()
	return node(t, d, api.Node{Kind: api.Element, Name: name})
}

func shadow(t *testing.T, d *dom.Doc, host int) int {
	t.Helper()
	i, err := d.Root(host, api.Flags{})
	if err != api.OK {
		t.Fatalf("Root(%d): %d", host, err)
	}
	return i
}

// insert puts nodes at the end of up, one by one.
func insert(t *testing.T, d *dom.Doc, up int, l ...int) {
	t.Helper()
	for _, i := range l {
		if err := d.Insert(up, i, -1); err != api.OK {
			t.Fatalf("Insert(%d, %d): %d", up, i, err)
		}
	}
}
